import PyProof.Rows.All
import Wide.All
import OpenK.AllK
import Wide.FinOn
import Lean
import PyProof.EqAt
import PyProof.EqKinds
import PyProof.TupleCall
import PyProof.NeData
import PyProof.DictCompW
import PyProof.WalksEnum
import PyProof.Rows.SortWalk
import PyProof.Rows.SetFrom
import PyProof.SetKind
import PyProof.SetRoads
import PyProof.Tail
import PyProof.FactsAll.set_2
import KE.KRevIter
import KE.KDictList
import PyProof.Rows.SortStr
import PyProof.DictWalks
import PyProof.DictItems
import KE.KPairComp
import PyProof.Rows.ListMul
import PyProof.Rows.StrWeight2
import PyProof.Rows.StrNews2
import PyProof.CallStr
import PyProof.FString
import PyProof.StrBlockH
import PyProof.SliceStr2
import KE.KIntText
import PyProof.Rows.StrNews
import PyProof.StrLoop
import PyProof.StrCalls
import PyProof.StrWalks
import PyProof.ZipIter
import PyProof.WalksMore
import PyProof.SeqI3
import PySem.Challenge.RW_waxcloth_k06_refusals_apart
set_option Elab.async false
set_option linter.all false
set_option maxRecDepth 100000
set_option bootstrap.genMatcherCode false
set_option compiler.extract_closed false
namespace L2
open PySem PySem.Spec PyProof.Rows
noncomputable abbrev Key := Sum Int Str
noncomputable def keyIs : Key → Value → Bool
 | .inl k, v => Value.isInt k v
 | .inr x, v => Value.isStrOf x v
noncomputable def keyH (w : World) : Key → Int
 | .inl k => hashInt k
 | .inr x => hashStr w x
theorem keyIs_shape : ∀ {k : Key} {v : Value}, keyIs k v = true → (∃ i t, k = Sum.inl i ∧ v = Value.int i t) ∨ (∃ x t, k = Sum.inr x ∧ v = Value.str x t)
 | .inl i, v, h => by
  obtain ⟨t, e⟩ := Value.isInt_shape (k := i) (v := v) h
  exact .inl ⟨i, t, rfl, e⟩
 | .inr x, v, h => by
  obtain ⟨t, e⟩ := Value.isStrOf_shape (x := x) (v := v) h
  exact .inr ⟨x, t, rfl, e⟩
theorem key_ll (a b : Int) : decide ((Sum.inl a : Key) = Sum.inl b) = (a == b) := by
 by_cases e : a = b
 ·subst e; simp
 ·have h : ¬ (Sum.inl a : Key) = Sum.inl b := fun q => e (Sum.inl.inj q)
  rw [decide_eq_false h]
  exact (beq_eq_false_iff_ne.mpr e).symm
theorem key_rr (a b : Str) : decide ((Sum.inr a : Key) = Sum.inr b) = decide (a = b) := by
 by_cases e : a = b
 ·subst e; simp
 ·have h : ¬ (Sum.inr a : Key) = Sum.inr b := fun q => e (Sum.inr.inj q)
  rw [decide_eq_false h, decide_eq_false e]
theorem key_lr (a : Int) (b : Str) : decide ((Sum.inl a : Key) = Sum.inr b) = false := decide_eq_false (fun q => nomatch q)
theorem key_rl (a : Str) (b : Int) : decide ((Sum.inr a : Key) = Sum.inl b) = false := decide_eq_false (fun q => nomatch q)
noncomputable def mixKind (prog : Program) (w : World) : PySem.KeyKind prog w Key where
 is := keyIs
 hash := keyH w
 inj := fun v a b ha hb => by
  rcases keyIs_shape ha with ⟨i, t, rfl, rfl⟩ | ⟨x, t, rfl, rfl⟩
  ·rcases keyIs_shape hb with ⟨j, u, rfl, e⟩ | ⟨y, u, rfl, e⟩
   ·injection e with e1 _; rw [e1]
   ·exact nomatch e
  ·rcases keyIs_shape hb with ⟨j, u, rfl, e⟩ | ⟨y, u, rfl, e⟩
   ·exact nomatch e
   ·injection e with e1 _; rw [e1]
 byValue := fun k v h => by
  rcases keyIs_shape h with ⟨i, t, rfl, rfl⟩ | ⟨x, t, rfl, rfl⟩ <;> rfl
 pyHash := fun hv h => by
  rcases keyIs_shape hv with ⟨i, t, rfl, rfl⟩ | ⟨x, t, rfl, rfl⟩
  ·exact wpAny_pyHash_int h
  ·exact wpAny_pyHash_str h
 eqBool := fun hu hv h => by
  rcases keyIs_shape hu with ⟨i, t, rfl, rfl⟩ | ⟨x, t, rfl, rfl⟩
  ·rcases keyIs_shape hv with ⟨j, u, rfl, rfl⟩ | ⟨y, u, rfl, rfl⟩
   ·rw [key_ll] at h; exact wpAny_eqBool_int h
   ·rw [key_lr] at h; exact SeqAt.EqAt.int_str i t y u _ _ _ _ h
  ·rcases keyIs_shape hv with ⟨j, u, rfl, rfl⟩ | ⟨y, u, rfl, rfl⟩
   ·rw [key_rl] at h; exact SeqAt.EqAt.str_int x t j u _ _ _ _ h
   ·rw [key_rr] at h; exact wpAny_eqBool_str h
 «strs» := fun k x t v h => by
  rcases keyIs_shape h with ⟨i, u, rfl, e⟩ | ⟨y, u, rfl, e⟩
  ·exact nomatch e
  ·injection e with e1 _
   subst e1
   cases v <;> rfl
end L2
namespace L2
open PySem PySem.Spec PyProof.Rows
inductive V where
 | non | bl (b : Bool) | int (i : Int) | str (x : Str) | byt (b : Array UInt8) | flt (b : UInt64) | ref (a : Addr) | ty (n : String)
 deriving DecidableEq
noncomputable def RelV : V → Value → Prop
 | .non, u => u = Value.none
 | .bl b, u => u = Value.bool b
 | .int i, u => ∃ t, u = Value.int i t
 | .str x, u => ∃ t, u = Value.str x t
 | .byt b, u => ∃ t, u = Value.bytes b t
 | .flt b, u => ∃ t, u = Value.float b t
 | .ref a, u => u = Value.ref a
 | .ty n, u => u = Value.type n
noncomputable abbrev Vals : List V → List Value → Prop := Paired RelV
theorem Vals.length {xs : List V} {us : List Value} (r : Vals xs us) : xs.length = us.length := Paired.length r
theorem Vals.get : ∀ {xs : List V} {us : List Value} {i : Nat} {x : V}, Vals xs us → xs[i]? = some x → ∃ u, us[i]? = some u ∧ RelV x u
 | _, _, _, _, .nil, e => by simp at e
 | _, _, 0, _, .cons r _, e => by simp at e; subst e; exact ⟨_, rfl, r⟩
 | _, _, i + 1, x, .cons _ t, e => by
  obtain ⟨u, h1, h2⟩ := Vals.get (i := i) (x := x) t (by simpa using e)
  exact ⟨u, by simpa using h1, h2⟩
theorem Vals.set {x : V} {u : Value} (r : RelV x u) : ∀ {xs : List V} {us : List Value} (i : Nat), Vals xs us → Vals (xs.set i x) (us.set i u)
 | _, _, _, .nil => .nil
 | _, _, 0, .cons _ t => .cons r t
 | _, _, i + 1, .cons q t => .cons q (Vals.set r i t)
theorem Vals.append : ∀ {xs ys : List V} {us ws : List Value}, Vals xs us → Vals ys ws → Vals (xs ++ ys) (us ++ ws)
 | _, _, _, _, .nil, s => s
 | _, _, _, _, .cons r t, s => .cons r (Vals.append t s)
theorem Vals.take : ∀ {xs : List V} {us : List Value} (n : Nat), Vals xs us → Vals (xs.take n) (us.take n)
 | _, _, 0, _ => .nil
 | _, _, _ + 1, .nil => .nil
 | _, _, n + 1, .cons r t => .cons r (Vals.take n t)
theorem Vals.drop : ∀ {xs : List V} {us : List Value} (n : Nat), Vals xs us → Vals (xs.drop n) (us.drop n)
 | _, _, 0, r => r
 | _, _, _ + 1, .nil => .nil
 | _, _, n + 1, .cons _ t => Vals.drop n t
noncomputable def RelO : Option V → Option Value → Prop
 | some v, some u => RelV v u
 | none, none => True
 | _, _ => False
noncomputable def KV {κ : Type} : List (κ × V) → List (κ × Value) → Prop := Paired fun (p : κ × V) (q : κ × Value) => p.1 = q.1 ∧ RelV p.2 q.2
noncomputable def kV : Key → V
 | .inl i => .int i
 | .inr x => .str x
inductive HO where
 /-- a list -/
 | lst (xs : List V)
 /-- a tuple (never changes) -/
 | tup (xs : List V)
 /-- a dict whose keys are ints and texts; one whose keys are tuples of ints and texts (the empty one is both) -/
 | dK (kvs : List (Key × V)) | dT (kvs : List (List Key × V))
 /-- a set of ints: its members, its size -/
 | set (S : Int → Bool) (n : Nat)
 /-- an instance of the class at C, its dict at dx, its attributes -/
 | ins (C dx : Addr) (fs : List (Str × V))
 /-- the dict of the instance at x -/
 | own (x : Addr)
 /-- the dict of an exception -/
 | xd (fs : List (Str × V))
 /-- a bound method, f of x -/
 | met (f x : Addr)
 /-- a range object lo, lo + 1, .. below hi -/
 | rng (lo hi : Int)
 /-- a thing that is known to the object (the script; a dict while a loop walks it): read, never written while it is so -/
 | frz (o : Obj) (u : HO)
 /-- a code object's table -/
 | tbl (ps : Array Value)
 /-- any other thing, by what is true of its one object (a def of one's own: SetO a S n := HO.ext fun h => ..) -/
 | ext (φ : Heap → Prop)
noncomputable abbrev Hp := Addr → Option HO
noncomputable def upd (H : Hp) (a : Addr) (o : HO) : Hp := fun b => if b = a then some o else H b
theorem upd_same {H : Hp} {a : Addr} {o : HO} : upd H a o a = some o := by unfold upd; rw [if_pos rfl]
theorem upd_ne {H : Hp} {a b : Addr} {o : HO} (h : b ≠ a) : upd H a o b = H b := by unfold upd; rw [if_neg h]
theorem ne_of {H : Hp} {a b : Addr} {o u : HO} (h : H a = some o) (h' : H b = some u) (d : o ≠ u) : a ≠ b := by
 intro e; subst e; rw [h] at h'; exact d (Option.some.inj h')
theorem ne_of_none {H : Hp} {a b : Addr} {o : HO} (h : H a = some o) (h' : H b = none) : a ≠ b := by
 intro e; subst e; rw [h] at h'; cases h'
section
variable (P : Program) (w : World)
noncomputable def ObjOk (H : Hp) (h : Heap) (a : Addr) : HO → Prop
 | .lst xs => xs.length ≤ sizeLine ∧ ∃ (its : List Value) (n : Nat), Vals xs its ∧ h.get? a = some { cls := .type "list", data := .seq its.toArray n }
 | .tup xs => xs.length ≤ sizeLine ∧ ∃ its : List Value, Vals xs its ∧ IsTup h a its.toArray
 | .dK kvs => kvs.length ≤ sizeLine ∧ (a == sysModules) = false ∧ ∃ vs, KV kvs vs ∧ h.DictOf (mixKind P w) a vs
 | .dT kvs => kvs.length ≤ sizeLine ∧ (a == sysModules) = false ∧ ∃ xs : List (List Key × Addr × Value),
   Paired (fun (p : List Key × V) (q : List Key × Addr × Value) => p.1 = q.1 ∧ H q.2.1 = some (.tup (p.1.map kV)) ∧ RelV p.2 q.2.2) kvs xs ∧
   ∃ o es ep, h.get? a = some o ∧ o.ExactDict ∧ o.data = .dict es ep ∧ es.toList = xs.map (entryOfKey (tupleKind (mixKind P w))) ∧ (xs.map (·.1)).Nodup
 | .set S n => h.SetOf (intKind P w) a S n
 | .ins C dx fs => H dx = some (.own a) ∧ fs.length ≤ 1000 ∧ dx ≠ a ∧ h.get? a = some (PySem.W.instObj C dx) ∧
   ∃ mA, h.Ns1 dx mA ∧ (∀ f, RelO (fs.lookup f) (mA f)) ∧ PySem.Within mA (fs.map (·.1))
 | .own _ => ∃ o, h.get? a = some o
 | .xd fs => ∃ mA, h.Ns1 a mA ∧ ∀ f, RelO (fs.lookup f) (mA f)
 | .rng lo hi => ∃ t u v, h.get? a = some { cls := .type "range", data := .fields #[.int lo t, .int hi u, .int 1 v] }
 | .frz o u => h.get? a = some o ∧ ObjOk H h a u
 | .tbl ps => h.get? a = some { cls := .none, data := .fields ps }
 | .met f x => h.get? a = some (PySem.W.methodObj (.ref f) (.ref x))
 | .ext φ => φ h ∧ (∃ o, h.get? a = some o) ∧ ∀ h1 h2 : Heap, φ h1 → (∀ o, h1.get? a = some o → h2.get? a = some o) → φ h2
noncomputable def HOk (H : Hp) (h : Heap) : Prop := ∀ a o, H a = some o → ObjOk P w H h a o
end
section
variable {P : Program} {w : World} {H H' : Hp} {h h' : Heap} {a : Addr} {o : HO}
theorem ObjOk.lt (x : ObjOk P w H h a o) : a < h.objs.size := by
 cases o with
 | lst xs => obtain ⟨_, _, _, _, e⟩ := x; exact Heap.lt_size e
 | tup xs => obtain ⟨_, _, _, p⟩ := x; exact p.lt
 | dK kvs => obtain ⟨_, _, _, _, o, _, _, e, _⟩ := x; exact Heap.lt_size e
 | dT kvs => obtain ⟨_, _, _, _, o, _, _, e, _⟩ := x; exact Heap.lt_size e
 | set S n => obtain ⟨o, _, _, _, e, _⟩ := x; exact Heap.lt_size e
 | ins C dx fs => obtain ⟨_, _, _, e, _⟩ := x; exact Heap.lt_size e
 | own y => obtain ⟨_, e⟩ := x; exact Heap.lt_size e
 | xd fs => obtain ⟨_, ⟨_, _, _, e, _⟩, _⟩ := x; exact Heap.lt_size e
 | rng lo hi => obtain ⟨_, _, _, e⟩ := x; exact Heap.lt_size e
 | frz ob u => obtain ⟨e, _⟩ := x; exact Heap.lt_size e
 | tbl ps => exact Heap.lt_size (show h.get? a = some _ from x)
 | met f y => exact Heap.lt_size (show h.get? a = some _ from x)
 | ext φ => obtain ⟨_, ⟨_, e⟩, _⟩ := x; exact Heap.lt_size e
theorem Paired.mapP {α β : Type} {F G : α → β → Prop} : ∀ {l₁ : List α} {l₂ : List β}, Paired F l₁ l₂ → (∀ a b, F a b → G a b) → Paired G l₁ l₂
 | _, _, .nil, _ => .nil
 | _, _, .cons r t, f => .cons (f _ _ r) (Paired.mapP t f)
theorem ObjOk.stay (x : ObjOk P w H h a o) (k : ∀ b u, (b = a ∨ H b = some (.own a)) → h.get? b = some u → h'.get? b = some u)
  (ho : ∀ b, H b = some (.own a) → H' b = some (.own a)) (ht : ∀ b xs, H b = some (.tup xs) → H' b = some (.tup xs)) : ObjOk P w H' h' a o := by
 induction o with
 | lst xs => obtain ⟨z, its, n, r, e⟩ := x; exact ⟨z, its, n, r, k _ _ (.inl rfl) e⟩
 | tup xs => obtain ⟨z, its, r, ob, e, c⟩ := x; exact ⟨z, its, r, ob, k _ _ (.inl rfl) e, c⟩
 | dK kvs => obtain ⟨z, y, vs, r, ob, es, ep, e, c⟩ := x; exact ⟨z, y, vs, r, ob, es, ep, k _ _ (.inl rfl) e, c⟩
 | dT kvs =>
  obtain ⟨z, y, xs, r, ob, es, ep, e, c⟩ := x
  exact ⟨z, y, xs, Paired.mapP r fun p q z => ⟨z.1, ht _ _ z.2.1, z.2.2⟩, ob, es, ep, k _ _ (.inl rfl) e, c⟩
 | set S n => obtain ⟨ob, es, ep, t, e, c⟩ := x; exact ⟨ob, es, ep, t, k _ _ (.inl rfl) e, c⟩
 | ins C dx fs =>
  obtain ⟨d, z, ne, e, mA, ⟨od, es, ep, e2, c⟩, r⟩ := x
  exact ⟨ho _ d, z, ne, k _ _ (.inl rfl) e, mA, ⟨od, es, ep, k _ _ (.inr d) e2, c⟩, r⟩
 | own y => obtain ⟨ob, e⟩ := x; exact ⟨ob, k _ _ (.inl rfl) e⟩
 | xd fs => obtain ⟨mA, ⟨od, es, ep, e, c⟩, r⟩ := x; exact ⟨mA, ⟨od, es, ep, k _ _ (.inl rfl) e, c⟩, r⟩
 | rng lo hi => obtain ⟨t, u, v, e⟩ := x; exact ⟨t, u, v, k _ _ (.inl rfl) e⟩
 | frz ob u ih => obtain ⟨e, q⟩ := x; exact ⟨k _ _ (.inl rfl) e, ih q⟩
 | tbl ps =>
  have e : h.get? a = some { cls := .none, data := .fields ps } := x
  show h'.get? a = some { cls := .none, data := .fields ps }
  exact k a _ (.inl rfl) e
 | met f y =>
  have e : h.get? a = some (PySem.W.methodObj (.ref f) (.ref y)) := x
  show h'.get? a = some (PySem.W.methodObj (.ref f) (.ref y))
  exact k a _ (.inl rfl) e
 | ext φ => obtain ⟨p, ⟨o, e⟩, st⟩ := x; exact ⟨st _ _ p fun o q => k _ _ (.inl rfl) q, ⟨o, k _ _ (.inl rfl) e⟩, st⟩
theorem HOk.lt (x : HOk P w H h) (e : H a = some o) : a < h.objs.size := (x a o e).lt
theorem HOk.fresh (x : HOk P w H h) (e : h.objs.size ≤ a) : H a = none := by
 cases q : H a with
 | none => rfl
 | some u => exact absurd (Nat.lt_of_lt_of_le (x.lt q) e) (Nat.lt_irrefl _)
theorem HOk.kept (x : HOk P w H h) (k : ∀ b u, h.get? b = some u → h'.get? b = some u) : HOk P w H h' := fun a o e =>
 (x a o e).stay (fun b u _ q => k b u q) (fun _ q => q) fun _ _ q => q
theorem HOk.laid (x : HOk P w H h) (k : ∀ b u, h.get? b = some u → h'.get? b = some u) (hp : h.objs.size ≤ a) (new : ObjOk P w (upd H a o) h' a o) : HOk P w (upd H a o) h' := fun b u e => by
 have hn := x.fresh hp
 by_cases hb : b = a
 ·subst hb; rw [upd_same] at e; cases e; exact new
 ·rw [upd_ne hb] at e
  exact (x b u e).stay (fun c v _ q => k c v q) (fun c q => by rw [upd_ne (ne_of_none q hn)]; exact q) fun c xs q => by rw [upd_ne (ne_of_none q hn)]; exact q
end
noncomputable def Rd (H : Hp) (a : Addr) (u : HO) : Prop := H a = some u ∨ ∃ o, H a = some (.frz o u)
theorem Rd.ok {P : Program} {w : World} {H : Hp} {h : Heap} {a : Addr} {u : HO} (r : Rd H a u) (x : HOk P w H h) : ObjOk P w H h a u := by
 rcases r with r | ⟨o, r⟩
 ·exact x a u r
 ·obtain ⟨_, q⟩ := x a _ r
  exact q
noncomputable def Mut : Option HO → Prop
 | some (.lst _) => True
 | some (.dK _) => True
 | some (.dT _) => True
 | some (.set _ _) => True
 | some (.ins _ _ _) => True
 | some (.ext _) => True
 | _ => False
section
variable {P : Program} {w : World} {H : Hp} {h h' : Heap} {x e : Addr} {o' : HO}
theorem HOk.write (ok : HOk P w H h) (mu : Mut (H x)) (he : e = x ∨ H e = some (.own x)) (k : ∀ b u, b ≠ e → h.get? b = some u → h'.get? b = some u) (heo : ∃ u, h'.get? e = some u)
  (new : ObjOk P w (upd H x o') h' x o') : HOk P w (upd H x o') h' := fun b u q => by
 have nown : ∀ c y, H c = some (.own y) → c ≠ x := fun c y r z => by subst z; rw [r] at mu; exact mu
 have ntup : ∀ c xs, H c = some (.tup xs) → c ≠ x := fun c xs r z => by subst z; rw [r] at mu; exact mu
 by_cases hb : b = x
 ·subst hb; rw [upd_same] at q; cases q; exact new
 ·rw [upd_ne hb] at q
  by_cases hbe : b = e
  ·have q' : H b = some (.own x) := by
    rcases he with z | z
    ·exact absurd (hbe.trans z) hb
    ·rw [hbe]; exact z
   rw [q] at q'; cases q'
   obtain ⟨v, hv⟩ := heo
   exact ⟨v, by rw [hbe]; exact hv⟩
  ·refine (ok b u q).stay (fun c v hc r => k c v ?_ r) (fun c r => by rw [upd_ne (nown c b r)]; exact r) fun c xs r => by rw [upd_ne (ntup c xs r)]; exact r
   rcases hc with rfl | hc
   ·exact hbe
   ·rintro rfl
    rcases he with z | z
    ·exact nown c b hc z
    ·rw [hc] at z; cases z; exact hb rfl
end
structure Un (fs ex : List Addr) (H H' : Hp) (h h' : Heap) : Prop where
 keep : ∀ b o, h.get? b = some o → H b = none → b ∉ fs → b ∉ ex → h'.get? b = some o
 slot : ∀ b o, h.get? b = some o → H b = none → b ∈ fs → b ∉ ex → ∃ sl, h'.get? b = some { o with slots := sl }
 free : ∀ b o, h.get? b = some o → H b = none → b ∉ ex → H' b = none
 there : ∀ b o, h.get? b = some o → b ∉ ex → ∃ o', h'.get? b = some o'
 tups : ∀ b xs, H b = some (.tup xs) → H' b = some (.tup xs)
 frzs : ∀ b o u, H b = some (.frz o u) → H' b = some (.frz o u)
 tbls : ∀ b ps, H b = some (.tbl ps) → ∃ more, H' b = some (.tbl (ps ++ more))
section
variable {fs fs' ex ex' : List Addr} {H H1 H2 : Hp} {h h1 h2 h' : Heap} {a x e : Addr} {o : HO}
theorem Un.any (u : Un fs ex H H1 h h1) {b : Addr} {ob : Obj} (q : h.get? b = some ob) (n : H b = none) (hx : b ∉ ex) : ∃ sl, h1.get? b = some { ob with slots := sl } := by
 by_cases hb : b ∈ fs
 ·exact u.slot b ob q n hb hx
 ·exact ⟨ob.slots, u.keep b ob q n hb hx⟩
theorem Un.kept (k : ∀ b u, h.get? b = some u → h'.get? b = some u) : Un fs ex H H h h' :=
 ⟨fun b ob q _ _ _ => k b ob q, fun b ob q _ _ _ => ⟨ob.slots, k b ob q⟩, fun _ _ _ n _ => n, fun b ob q _ => ⟨ob, k b ob q⟩, fun _ _ q => q, fun _ _ _ q => q, fun _ ps q => ⟨#[], by rw [q]; simp⟩⟩
theorem Un.refl : Un fs ex H H h h := Un.kept fun _ _ q => q
theorem Un.laid (k : ∀ b u, h.get? b = some u → h'.get? b = some u) (hp : h.objs.size ≤ a) (hn : H a = none) : Un fs ex H (upd H a o) h h' where
 keep := fun b u q _ _ _ => k b u q
 slot := fun b u q _ _ _ => ⟨u.slots, k b u q⟩
 free := fun b u q n _ => by rw [upd_ne (Nat.ne_of_lt (Nat.lt_of_lt_of_le (Heap.lt_size q) hp))]; exact n
 there := fun b u q _ => ⟨u, k b u q⟩
 tups := fun b xs q => by rw [upd_ne (ne_of_none q hn)]; exact q
 frzs := fun b u xs q => by rw [upd_ne (ne_of_none q hn)]; exact q
 tbls := fun b ps q => ⟨#[], by rw [upd_ne (ne_of_none q hn), q]; simp⟩
theorem Un.write (mu : Mut (H x)) (he : e = x ∨ H e = some (.own x)) (k : ∀ b u, b ≠ e → h.get? b = some u → h'.get? b = some u) (heo : ∃ u, h'.get? e = some u) : Un fs ex H (upd H x o) h h' := by
 have hx : ∀ b, H b = none → b ≠ x := fun b n z => by subst z; rw [n] at mu; exact mu
 have hb : ∀ b, H b = none → b ≠ e := fun b n z => by
  subst z
  rcases he with r | r
  ·exact hx b n r
  ·rw [n] at r; cases r
 have hm : ∀ b u, H b = some u → ¬ Mut (some u) → b ≠ x := fun b u q nm z => by subst z; rw [q] at mu; exact nm mu
 refine ⟨fun b u q n _ _ => k b u (hb b n) q, fun b u q n _ _ => ⟨u.slots, k b u (hb b n) q⟩, fun b u q n _ => by rw [upd_ne (hx b n)]; exact n, fun b u q _ => ?_,
  fun b xs q => by rw [upd_ne (hm b _ q fun z => z)]; exact q, fun b u xs q => by rw [upd_ne (hm b _ q fun z => z)]; exact q, fun b ps q => ⟨#[], by rw [upd_ne (hm b _ q fun z => z), q]; simp⟩⟩
 by_cases hbe : b = e
 ·subst hbe; exact heo
 ·exact ⟨u, k b u hbe q⟩
end
noncomputable def trk (h : Heap) (H : Hp) : List Addr := (List.range h.objs.size).filter fun a => (H a).isSome
noncomputable def hidT (h : Heap) (H : Hp) : Heap := PySem.W.hideAll h (trk h H)
theorem hidT_size (h : Heap) (H : Hp) : (hidT h H).objs.size = h.objs.size := PySem.W.hideAll_size _ _
theorem hidT_get {h : Heap} {H : Hp} {b : Addr} {o : Obj} (e : h.get? b = some o) (n : H b = none) : (hidT h H).get? b = some o :=
 PySem.W.hideAll_get _ e fun hm => by
  have q : (H b).isSome = true := (List.mem_filter.mp hm).2
  rw [n] at q; simp at q
theorem of_hidT {h : Heap} {H : Hp} {b : Addr} {o : Obj} (e : (hidT h H).get? b = some o) : h.get? b = some o ∧ H b = none := by
 have e' : h.get? b = some o := PySem.W.of_hideAll (trk h H) e
 refine ⟨e', ?_⟩
 cases q : H b with
 | none => rfl
 | some x =>
  have hm : b ∈ trk h H := List.mem_filter.mpr ⟨List.mem_range.mpr (Heap.lt_size e'), by simp [q]⟩
  have z : (hidT h H).get? b = none := PySem.W.hideAll_none (trk h H) hm
  rw [z] at e; cases e
end L2
namespace L2
open PySem PySem.Spec PyProof.Rows
structure Mod (K : PySem.W.Frag) (mg : Str → Option Value) (base : Heap) : Prop where
 kin : K.In base
 glob : base.Ns mainGlobals mg
 blt : ∃ mb, base.Ns builtinsNs mb ∧ ∀ x : Str, x ≠ "__name__" → mb x = bootBuiltins x
 nolimit : base.NoLimit
structure Cx where
 prog : Program
 w : World
 K : PySem.W.Frag
 mg : Str → Option Value
 base : Heap
 A : Around
 N : List Str
 s₀ : Shared
 H₀ : Hp
 env : Env
 outer : List Env
 stack : List Env
 ex : List Addr
 fn : Str → Bool
 calm : Bool
 pn : List (Addr × Obj)
 xe : Value → Shared → Prop
noncomputable def frs (l : List Env) : List Addr := l.filterMap (·.frame)
noncomputable abbrev Cx.fs (X : Cx) : List Addr := frs X.outer
noncomputable def Vis (sc : Scope) (x : Str) : Prop := sc.names.lookup x = some .local ∨ sc.names.lookup x = some .cell ∨ sc.names.lookup x = some .free
noncomputable def Loc (sc : Scope) (x : Str) : Prop := sc.names.lookup x = some .local ∨ sc.names.lookup x = some .cell
noncomputable def Look (env : Env) (h : Heap) (m : Str → Option Value) (x : Str) (u : Value) : Prop :=
 (env.kindOf x = some .local ∧ m x = some u) ∨ ((env.kindOf x = some .cell ∨ env.kindOf x = some .free) ∧ ∃ c, env.cells.lookup x = some c ∧ h.IsCell c (some u))
structure Cx.Ok (X : Cx) : Prop where
 mod : Mod X.K X.mg X.base
 kind : X.env.scope.kind = .function
 glob : X.env.globals = mainGlobals
 blt : X.env.builtins = builtinsNs
 above : X.s₀.heap.objs.size ≤ X.env.locals
 inj : ∀ x y c, X.env.cells.lookup x = some c → X.env.cells.lookup y = some c → x = y
 has : ∀ x, (X.env.kindOf x = some .cell ∨ X.env.kindOf x = some .free) → ∃ c, X.env.cells.lookup x = some c
 cab : ∀ x c, X.fn x = true → X.env.cells.lookup x = some c → X.s₀.heap.objs.size ≤ c
 hd : X.calm = true → X.A.handled = none
 frames : X.A.frames = some X.stack
 stk : X.stack = X.outer ∨ (X.stack = X.env :: X.outer ∧ X.env.frame = some X.env.locals)
 exf : ∀ b ∈ X.ex, b ≠ X.env.locals ∧ ∀ x c, X.env.cells.lookup x = some c → c ≠ b
 bs : ∀ b o, X.base.get? b = some o → X.s₀.heap.get? b = some o ∧ X.H₀ b = none
 bsz : X.base.objs.size ≤ X.s₀.heap.objs.size
 noex : ∀ b o, X.base.get? b = some o → b ∉ X.ex
 exfs : ∀ b ∈ X.ex, b ∉ X.fs
 funs : X.s₀.heap.FunFrames X.base X.outer
 frf : ∀ b ∈ X.fs, X.H₀ b = none
structure Inv (X : Cx) (pins : List (Addr × Obj)) (σ : List (Option V)) (H : Hp) (s : Shared) : Prop where
 ok : X.Ok
 os : s.os = X.s₀.os
 bare : AllBare s.gens
 base : Un X.fs X.ex X.H₀ H X.s₀.heap s.heap
 loc : ∃ m, s.heap.Ns X.env.locals m ∧ ∀ (i : Nat) (x : Str) (v : V), X.N[i]? = some x → σ[i]? = some (some v) → Vis X.env.scope x → ∃ u, RelV v u ∧ Look X.env s.heap m x u
 cell : ∀ x c, X.env.cells.lookup x = some c → ∃ v, s.heap.IsCell c v
 free : H X.env.locals = none
 freeC : ∀ x c, X.env.cells.lookup x = some c → H c = none
 pin : ∀ p ∈ X.pn ++ pins, s.heap.get? p.1 = some p.2 ∧ H p.1 = none ∧ p.1 ≠ X.env.locals ∧ p.1 ∉ X.fs ∧ ∀ v, p.2.data ≠ .cell v
 hok : HOk X.prog X.w H s.heap
 len : σ.length = X.N.length
section
variable {X : Cx} {pins : List (Addr × Obj)} {σ : List (Option V)} {H H' : Hp} {s : Shared} {h' : Heap}
theorem Cx.Ok.nofr (ok : X.Ok) {b : Addr} {o : Obj} (e : X.base.get? b = some o) : b ∉ X.fs := fun hb => by
 have := (ok.funs.mem hb).1
 rw [e] at this; cases this
theorem Inv.bs (I : Inv X pins σ H s) : ∀ b o, X.base.get? b = some o → s.heap.get? b = some o ∧ H b = none := fun b o e =>
 ⟨I.base.keep b o (I.ok.bs b o e).1 (I.ok.bs b o e).2 (I.ok.nofr e) (I.ok.noex b o e), I.base.free b o (I.ok.bs b o e).1 (I.ok.bs b o e).2 (I.ok.noex b o e)⟩
theorem Inv.bk (I : Inv X pins σ H s) : ∀ b o, X.base.get? b = some o → s.heap.get? b = some o := fun b o e => (I.bs b o e).1
theorem Inv.mod (I : Inv X pins σ H s) : Mod X.K X.mg X.base := I.ok.mod
theorem Inv.kIn (I : Inv X pins σ H s) : X.K.In s.heap := I.ok.mod.kin.keeps I.bk
theorem Inv.fr (I : Inv X pins σ H s) : ∃ m, Fr X.base X.env.locals s.heap m :=
 let ⟨m, hn, _⟩ := I.loc
 ⟨m, hn, I.bk, Nat.le_trans I.ok.bsz I.ok.above⟩
theorem Inv.lt (I : Inv X pins σ H s) : X.env.locals < s.heap.objs.size := let ⟨_, hn, _⟩ := I.loc; hn.lt
theorem Inv.sz (I : Inv X pins σ H s) : X.s₀.heap.objs.size ≤ s.heap.objs.size := Nat.le_trans I.ok.above (Nat.le_of_lt I.lt)
theorem Inv.nofs (I : Inv X pins σ H s) {a : Addr} (h : s.heap.objs.size ≤ a) : a ∉ X.fs := fun hb => by
 obtain ⟨_, o, ho, _⟩ := I.ok.funs.mem hb
 exact absurd (Nat.lt_of_lt_of_le (Heap.lt_size ho) (Nat.le_trans I.sz h)) (Nat.lt_irrefl _)
theorem Inv.cne (I : Inv X pins σ H s) : ∀ x c, X.env.cells.lookup x = some c → c ≠ X.env.locals := fun x c e z => by
 obtain ⟨v, o, ho, hd⟩ := I.cell x c e
 obtain ⟨m, ⟨o', es, ep, ho', hd', _⟩, _⟩ := I.loc
 rw [z, ho'] at ho; cases ho; rw [hd'] at hd; cases hd
theorem Inv.funs (I : Inv X pins σ H s) : s.heap.FunFrames X.base X.outer := by
 have all : ∀ (l : List Env), (∀ b ∈ frs l, b ∈ X.fs) → X.s₀.heap.FunFrames X.base l → s.heap.FunFrames X.base l := by
  intro l
  induction l with
  | nil => intro _ _; trivial
  | cons env r ih =>
   intro hs hl
   obtain ⟨hk, ⟨L, o, hf, hn, ho, hd⟩, hr⟩ := hl
   have hL : L ∈ X.fs := hs L (by unfold frs; rw [List.filterMap_cons, hf]; exact List.mem_cons_self)
   obtain ⟨sl, e⟩ := I.base.slot L o ho (I.ok.frf L hL) hL fun z => I.ok.exfs L z hL
   exact ⟨hk, ⟨L, _, hf, hn, e, hd⟩, ih (fun b hb => hs b (by unfold frs; rw [List.filterMap_cons, hf]; exact List.mem_cons_of_mem _ hb)) hr⟩
 exact all X.outer (fun _ hb => hb) I.ok.funs
theorem Inv.stack (I : Inv X pins σ H s) : s.heap.FunFrames X.base X.stack := by
 rcases I.ok.stk with e | ⟨e, hf⟩
 ·rw [e]; exact I.funs
 ·rw [e]
  obtain ⟨m, hn, _⟩ := I.loc
  refine .cons (by rw [I.ok.kind]; decide) hf hn ?_ I.funs
  exact Heap.get?_none_of_le (Nat.le_trans I.ok.bsz I.ok.above)
theorem Inv.stkSub (I : Inv X pins σ H s) : ∀ b ∈ frs X.stack, b ∈ X.env.locals :: X.fs := fun b hb => by
 rcases I.ok.stk with e | ⟨e, hf⟩
 ·rw [e] at hb; exact List.mem_cons_of_mem _ hb
 ·rw [e] at hb
  unfold frs at hb
  rw [List.filterMap_cons, hf] at hb
  exact hb
theorem Inv.stkFree (I : Inv X pins σ H s) : ∀ b ∈ frs X.stack, H b = none := fun b hb => by
 rcases List.mem_cons.mp (I.stkSub b hb) with e | hb
 ·rw [e]; exact I.free
 ·obtain ⟨_, o, ho, _⟩ := I.ok.funs.mem hb
  exact I.base.free b o ho (I.ok.frf b hb) fun z => I.ok.exfs b z hb
theorem Inv.step {g' : Array GenState} {t' : Nat} {d' : Drawn} {ch : List Addr} (I : Inv X pins σ H s)
  (hch : ∀ b ∈ ch, (b ∈ X.ex ∨ X.s₀.heap.objs.size ≤ b) ∧ b ≠ X.env.locals ∧ (∀ x c, X.env.cells.lookup x = some c → c ≠ b) ∧ ∀ p ∈ X.pn ++ pins, p.1 ≠ b)
  (keep : ∀ b o, b ≠ X.env.locals → b ∉ X.fs → b ∉ ch → s.heap.get? b = some o → H b = none → h'.get? b = some o)
  (slot : ∀ b o, b ≠ X.env.locals → b ∈ X.fs → b ∉ ch → s.heap.get? b = some o → H b = none → ∃ sl, h'.get? b = some { o with slots := sl }) (free : ∀ b o, b ∉ ch → s.heap.get? b = some o → H b = none → H' b = none)
  (there : ∀ b o, b ∉ ch → s.heap.get? b = some o → ∃ o', h'.get? b = some o')
  (tups : ∀ b xs, H b = some (.tup xs) → H' b = some (.tup xs)) (frzs : ∀ b o u, H b = some (.frz o u) → H' b = some (.frz o u)) (tbls : ∀ b ps, H b = some (.tbl ps) → ∃ more, H' b = some (.tbl (ps ++ more)))
  (ns : ∀ m, s.heap.Ns X.env.locals m → h'.Ns X.env.locals m) (hok : HOk X.prog X.w H' h') (hg : AllBare g') :
  Inv X pins σ H' { s with heap := h', gens := g', drawn := d', toks := t' } := by
 have neL : ∀ b o, X.s₀.heap.get? b = some o → b ≠ X.env.locals := fun b o e => Nat.ne_of_lt (Nat.lt_of_lt_of_le (Heap.lt_size e) I.ok.above)
 have neC : ∀ b o, X.s₀.heap.get? b = some o → b ∉ X.ex → b ∉ ch := fun b o e hx hb => by
  rcases (hch b hb).1 with z | z
  ·exact hx z
  ·exact absurd (Nat.lt_of_lt_of_le (Heap.lt_size e) z) (Nat.lt_irrefl _)
 have cellK : ∀ x c, X.env.cells.lookup x = some c → ∀ v, s.heap.IsCell c v → h'.IsCell c v := fun x c e v ⟨o, ho, hd⟩ => by
  have nch : c ∉ ch := fun z => (hch c z).2.2.1 x c e rfl
  by_cases hc : c ∈ X.fs
  ·obtain ⟨sl, q⟩ := slot c o (I.cne x c e) hc nch ho (I.freeC x c e)
   exact ⟨_, q, hd⟩
  ·exact ⟨o, keep c o (I.cne x c e) hc nch ho (I.freeC x c e), hd⟩
 refine ⟨I.ok, I.os, hg, ⟨fun b o e n hb hx => ?_, fun b o e n hb hx => ?_, fun b o e n hx => ?_, fun b o e hx => ?_, fun b xs e => tups b xs (I.base.tups b xs e), fun b o xs e => frzs b o xs (I.base.frzs b o xs e), fun b ps e => ?_⟩, ?_, fun x c e => ?_, ?_, fun x c e => ?_, fun p hp => ?_, hok, I.len⟩
 ·exact keep b o (neL b o e) hb (neC b o e hx) (I.base.keep b o e n hb hx) (I.base.free b o e n hx)
 ·obtain ⟨sl, e1⟩ := I.base.slot b o e n hb hx
  obtain ⟨sl', e2⟩ := slot b _ (neL b o e) hb (neC b o e hx) e1 (I.base.free b o e n hx)
  exact ⟨sl', e2⟩
 ·obtain ⟨o', e1⟩ := I.base.there b o e hx
  exact free b o' (neC b o e hx) e1 (I.base.free b o e n hx)
 ·obtain ⟨o', e1⟩ := I.base.there b o e hx
  exact there b o' (neC b o e hx) e1
 ·obtain ⟨m1, e1⟩ := I.base.tbls b ps e
  obtain ⟨m2, e2⟩ := tbls b _ e1
  exact ⟨m1 ++ m2, by rw [e2, Array.append_assoc]⟩
 ·obtain ⟨m, hn, hl⟩ := I.loc
  refine ⟨m, ns m hn, fun i x v e1 e2 e3 => ?_⟩
  obtain ⟨u, r, l⟩ := hl i x v e1 e2 e3
  refine ⟨u, r, ?_⟩
  rcases l with l | ⟨k, c, e, z⟩
  ·exact .inl l
  ·exact .inr ⟨k, c, e, cellK x c e _ z⟩
 ·obtain ⟨v, z⟩ := I.cell x c e
  exact ⟨v, cellK x c e v z⟩
 ·obtain ⟨m, ⟨o, _, _, ho, _⟩, _⟩ := I.loc
  exact free _ o (fun z => (hch _ z).2.1 rfl) ho I.free
 ·obtain ⟨v, o, ho, hd⟩ := I.cell x c e
  exact free c o (fun z => (hch c z).2.2.1 x c e rfl) ho (I.freeC x c e)
 ·obtain ⟨e, n, ne, nf, d⟩ := I.pin p hp
  have nch : p.1 ∉ ch := fun z => (hch p.1 z).2.2.2 p hp rfl
  exact ⟨keep p.1 p.2 ne nf nch e n, free p.1 p.2 nch e n, ne, nf, d⟩
theorem Inv.un {t' : Nat} (I : Inv X pins σ H s) (u : Un X.fs [] H H' s.heap h') (hok : HOk X.prog X.w H' h') : Inv X pins σ H' { s with heap := h', toks := t' } := by
 obtain ⟨m, ⟨o, es, ep, ho, r⟩, _⟩ := id I.loc
 obtain ⟨sl, hL⟩ := u.any ho I.free (by simp)
 exact I.step (g' := s.gens) (d' := s.drawn) (ch := []) (fun _ z => nomatch z) (fun b o _ hb _ e n => u.keep b o e n hb (by simp)) (fun b o _ hb _ e n => u.slot b o e n hb (by simp)) (fun b o _ e n => u.free b o e n (by simp)) (fun b o _ e => u.there b o e (by simp)) u.tups u.frzs u.tbls (fun m' hm => by
  obtain ⟨o', es', ep', ho', r'⟩ := hm
  rw [ho] at ho'; cases ho'
  exact ⟨_, es', ep', hL, r'⟩) hok I.bare
theorem Inv.call {g' : Array GenState} {t' : Nat} {d' : Drawn} {ch : List Addr} (I : Inv X pins σ H s) (u : Un (frs X.stack) ch H H' s.heap h') (hok : HOk X.prog X.w H' h') (hg : AllBare g')
  (hch : ∀ b ∈ ch, (b ∈ X.ex ∨ X.s₀.heap.objs.size ≤ b) ∧ b ≠ X.env.locals ∧ (∀ x c, X.env.cells.lookup x = some c → c ≠ b) ∧ ∀ p ∈ X.pn ++ pins, p.1 ≠ b) :
  Inv X pins σ H' { s with heap := h', gens := g', drawn := d', toks := t' } := by
 obtain ⟨m, ⟨o, es, ep, ho, r⟩, _⟩ := id I.loc
 obtain ⟨sl, hL⟩ := u.any ho I.free fun z => (hch _ z).2.1 rfl
 exact I.step (ch := ch) hch (fun b o hL hb hc e n => u.keep b o e n (fun z => (List.mem_cons.mp (I.stkSub b z)).elim hL hb) hc) (fun b o _ _ hc e n => u.any e n hc) (fun b o hc e n => u.free b o e n hc) (fun b o hc e => u.there b o e hc) u.tups u.frzs u.tbls (fun m' hm => by
  obtain ⟨o', es', ep', ho', r'⟩ := hm
  rw [ho] at ho'; cases ho'
  exact ⟨_, es', ep', hL, r'⟩) hok hg
theorem Inv.turned {t' : Nat} {it : Addr} (I : Inv X pins σ H s) (k : ∀ b o, b ≠ it → s.heap.get? b = some o → h'.get? b = some o) (hn : H it = none) (hL : it ≠ X.env.locals)
  (h1 : it ∈ X.ex ∨ X.s₀.heap.objs.size ≤ it) (h2 : ∀ x c, X.env.cells.lookup x = some c → c ≠ it) (h3 : ∀ p ∈ X.pn ++ pins, p.1 ≠ it) : Inv X pins σ H { s with heap := h', toks := t' } := by
 have nit : ∀ b u, H b = some u → b ≠ it := fun b u e z => by rw [z, hn] at e; cases e
 refine I.step (g' := s.gens) (d' := s.drawn) (ch := [it]) (fun b hb => ?_) (fun b o _ _ hc e _ => k b o (fun z => hc (by simp [z])) e) (fun b o _ _ hc e _ => ⟨o.slots, k b o (fun z => hc (by simp [z])) e⟩) (fun _ _ _ _ n => n)
  (fun b o hc e => ⟨o, k b o (fun z => hc (by simp [z])) e⟩) (fun _ _ e => e) (fun _ _ _ e => e) (fun b ps e => ⟨#[], by rw [e]; simp⟩) (fun m hm => ?_) (fun b u e => ?_) I.bare
 ·have e : b = it := by simpa using hb
  subst e
  exact ⟨h1, hL, h2, h3⟩
 ·obtain ⟨o, es, ep, ho, r⟩ := hm
  exact ⟨o, es, ep, k _ o (Ne.symm hL) ho, r⟩
 ·refine (I.hok b u e).stay (fun c v hc q => k c v ?_ q) (fun _ q => q) fun _ _ q => q
  rcases hc with z | z
  ·rw [z]; exact nit b u e
  ·exact nit c _ z
theorem Inv.tok (I : Inv X pins σ H s) (t : Nat) : Inv X pins σ H { s with toks := t } := I.un (h' := s.heap) (t' := t) Un.refl I.hok
theorem Inv.kept {t' : Nat} (I : Inv X pins σ H s) (k : ∀ b u, s.heap.get? b = some u → h'.get? b = some u) : Inv X pins σ H { s with heap := h', toks := t' } := I.un (Un.kept k) (I.hok.kept k)
theorem Inv.laid {a : Addr} {o : HO} {t' : Nat} (I : Inv X pins σ H s) (k : ∀ b u, s.heap.get? b = some u → h'.get? b = some u) (hp : s.heap.objs.size ≤ a) (new : ObjOk X.prog X.w (upd H a o) h' a o) :
  Inv X pins σ (upd H a o) { s with heap := h', toks := t' } := I.un (Un.laid k hp (I.hok.fresh hp)) (I.hok.laid k hp new)
theorem Inv.write {x e : Addr} {o : HO} {t' : Nat} (I : Inv X pins σ H s) (mu : Mut (H x)) (he : e = x ∨ H e = some (.own x)) (k : ∀ b u, b ≠ e → s.heap.get? b = some u → h'.get? b = some u) (heo : ∃ u, h'.get? e = some u)
  (new : ObjOk X.prog X.w (upd H x o) h' x o) : Inv X pins σ (upd H x o) { s with heap := h', toks := t' } := I.un (Un.write mu he k heo) (I.hok.write mu he k heo new)
theorem Inv.weak {σ' : List (Option V)} (I : Inv X pins σ H s) (hl : σ'.length = σ.length) (w : ∀ (i : Nat) v, σ'[i]? = some (some v) → σ[i]? = some (some v)) : Inv X pins σ' H s :=
 ⟨I.ok, I.os, I.bare, I.base, let ⟨m, hn, hl'⟩ := I.loc; ⟨m, hn, fun i x v e1 e2 e3 => hl' i x v e1 (w i v e2) e3⟩, I.cell, I.free, I.freeC, I.pin, I.hok, hl.trans I.len⟩
theorem Inv.pins_of {pins' : List (Addr × Obj)} (I : Inv X pins σ H s) (h : ∀ p ∈ pins', s.heap.get? p.1 = some p.2 ∧ H p.1 = none ∧ p.1 ≠ X.env.locals ∧ p.1 ∉ X.fs ∧ ∀ v, p.2.data ≠ .cell v) : Inv X pins' σ H s :=
 ⟨I.ok, I.os, I.bare, I.base, I.loc, I.cell, I.free, I.freeC, fun p hp => (List.mem_append.mp hp).elim (fun z => I.pin p (List.mem_append_left _ z)) (h p), I.hok, I.len⟩
theorem nodup_ix {N : List Str} (hN : N.Nodup) {i j : Nat} {x : Str} (a : N[i]? = some x) (b : N[j]? = some x) : i = j := by
 obtain ⟨h1, e1⟩ := List.getElem?_eq_some_iff.mp a
 obtain ⟨h2, e2⟩ := List.getElem?_eq_some_iff.mp b
 exact (List.getElem_inj hN).mp (e1.trans e2.symm)
theorem store_ok2 {M : Model} {A : Around} {E : Value → Shared → Prop} {i : Nat} {x : Str} {v : V} {u : Value} {Q : Unit → Shared → Prop} (I : Inv X pins σ H s) (hN : X.N.Nodup) (hi : X.N[i]? = some x) (hx : Loc X.env.scope x) (r : RelV v u)
  (h : ∀ s', Inv X pins (σ.set i (some v)) H s' → (∃ a, Heap.SameBut a s.heap s'.heap ∧ (a = X.env.locals ∨ X.env.cells.lookup x = some a)) → Q () s') (hf : X.fn x = true ∨ X.env.scope.names.lookup x = some .local := by first | exact .inl rfl | exact .inr rfl | assumption) : wpAny M A (storeName X.env x u) Q E s := by
 obtain ⟨m, hn, hl⟩ := id I.loc
 have hcls : (X.env.scope.kind == .class || (X.env.scope.kind == .module && X.env.locals != X.env.globals)) = false := by rw [I.ok.kind]; rfl
 have hiσ : i < σ.length := by rw [I.len]; exact (List.getElem?_eq_some_iff.mp hi).1
 have cne := I.cne
 have tracked : ∀ {a : Addr} {h' : Heap}, (∃ o, s.heap.get? a = some o ∧ H a = none) → Heap.SameBut a s.heap h' → HOk X.prog X.w H h' := fun {a h'} ha hs b ob e => by
  obtain ⟨_, _, hfree⟩ := ha
  refine (I.hok b ob e).stay (fun c w' hc q => (hs.2 c ?_).trans q) (fun _ q => q) fun _ _ q => q
  rintro rfl
  rcases hc with rfl | hc
  ·rw [hfree] at e; cases e
  ·rw [hfree] at hc; cases hc
 rcases hx with hk | hk
 ·refine wpAny_storeName_local hk hn (fun h' hn' hs => ?_) hcls
  obtain ⟨oL, _, _, hoL, _⟩ := id hn
  refine h _ ⟨I.ok, I.os, I.bare, ⟨fun b o e n hb hx => ?_, fun b o e n hb hx => ?_, I.base.free, fun b o e hx => ?_, I.base.tups, I.base.frzs, I.base.tbls⟩, ⟨_, hn', fun j y v' e1 e2 e3 => ?_⟩, fun y c e => ?_, I.free, I.freeC, fun p hp => ?_, tracked ⟨oL, hoL, I.free⟩ hs, by simpa using I.len⟩ ⟨_, hs, .inl rfl⟩
  ·exact (hs.2 b (Nat.ne_of_lt (Nat.lt_of_lt_of_le (Heap.lt_size e) I.ok.above))).trans (I.base.keep b o e n hb hx)
  ·obtain ⟨sl, e1⟩ := I.base.slot b o e n hb hx
   exact ⟨sl, (hs.2 b (Nat.ne_of_lt (Nat.lt_of_lt_of_le (Heap.lt_size e) I.ok.above))).trans e1⟩
  ·obtain ⟨o', e1⟩ := I.base.there b o e hx
   exact ⟨o', (hs.2 b (Nat.ne_of_lt (Nat.lt_of_lt_of_le (Heap.lt_size e) I.ok.above))).trans e1⟩
  ·by_cases hj : j = i
   ·subst hj
    rw [hi] at e1; cases e1
    rw [List.getElem?_set_self hiσ] at e2
    cases e2
    exact ⟨u, r, .inl ⟨hk, by simp⟩⟩
   ·rw [List.getElem?_set_ne (Ne.symm hj)] at e2
    obtain ⟨u', r', q⟩ := hl j y v' e1 e2 e3
    refine ⟨u', r', ?_⟩
    rcases q with ⟨k, e⟩ | ⟨k, c, e, z⟩
    ·refine .inl ⟨k, ?_⟩
     have : y ≠ x := fun e => hj (nodup_ix hN e1 (e ▸ hi))
     simp [this, e]
    ·exact .inr ⟨k, c, e, z.sameBut hs (cne y c e)⟩
  ·obtain ⟨w', z⟩ := I.cell y c e
   exact ⟨w', z.sameBut hs (cne y c e)⟩
  ·obtain ⟨e, n, ne, nf, d⟩ := I.pin p hp
   exact ⟨(hs.2 p.1 ne).trans e, n, ne, nf, d⟩
 ·have hfn : X.fn x = true := by
   rcases hf with z | z
   ·exact z
   ·rw [z] at hk; cases hk
  obtain ⟨c, hc⟩ := I.ok.has x (.inl hk)
  obtain ⟨w', z⟩ := I.cell x c hc
  refine wpAny_storeName_cell I.ok.kind hk hc z (fun h' hc' hs => ?_)
  obtain ⟨oc, hoc, hocd⟩ := id z
  refine h { s with heap := h' } ⟨I.ok, I.os, I.bare, ⟨fun b o e n hb hx => ?_, fun b o e n hb hx => ?_, I.base.free, fun b o e hx => ?_, I.base.tups, I.base.frzs, I.base.tbls⟩, ⟨m, hn.sameBut hs (Ne.symm (cne x c hc)), fun j y v' e1 e2 e3 => ?_⟩, fun y c' e => ?_, I.free, I.freeC, fun p hp => ?_, tracked ⟨oc, hoc, I.freeC x c hc⟩ hs, by simpa using I.len⟩ ⟨c, hs, .inr hc⟩
  ·exact (hs.2 b (Nat.ne_of_lt (Nat.lt_of_lt_of_le (Heap.lt_size e) (I.ok.cab x c hfn hc)))).trans (I.base.keep b o e n hb hx)
  ·obtain ⟨sl, e1⟩ := I.base.slot b o e n hb hx
   exact ⟨sl, (hs.2 b (Nat.ne_of_lt (Nat.lt_of_lt_of_le (Heap.lt_size e) (I.ok.cab x c hfn hc)))).trans e1⟩
  ·obtain ⟨o', e1⟩ := I.base.there b o e hx
   exact ⟨o', (hs.2 b (Nat.ne_of_lt (Nat.lt_of_lt_of_le (Heap.lt_size e) (I.ok.cab x c hfn hc)))).trans e1⟩
  ·by_cases hj : j = i
   ·subst hj
    rw [hi] at e1; cases e1
    rw [List.getElem?_set_self hiσ] at e2
    cases e2
    exact ⟨u, r, .inr ⟨.inl hk, c, hc, hc'⟩⟩
   ·rw [List.getElem?_set_ne (Ne.symm hj)] at e2
    obtain ⟨u', r', q⟩ := hl j y v' e1 e2 e3
    refine ⟨u', r', ?_⟩
    rcases q with q | ⟨k, c', e, z'⟩
    ·exact .inl q
    ·refine .inr ⟨k, c', e, z'.sameBut hs ?_⟩
     rintro rfl
     exact hj (nodup_ix hN e1 (I.ok.inj _ _ _ e hc ▸ hi))
  ·by_cases hcc : c' = c
   ·subst hcc; exact ⟨_, hc'⟩
   ·obtain ⟨w2, z2⟩ := I.cell y c' e
    exact ⟨w2, z2.sameBut hs hcc⟩
  ·obtain ⟨e, n, ne, nf, d⟩ := I.pin p hp
   refine ⟨(hs.2 p.1 ?_).trans e, n, ne, nf, d⟩
   intro q
   rw [q, hoc] at e
   have q' : oc = p.2 := Option.some.inj e
   exact d w' (by rw [← q']; exact hocd)
theorem store_ok {M : Model} {A : Around} {E : Value → Shared → Prop} {i : Nat} {x : Str} {v : V} {u : Value} {Q : Unit → Shared → Prop} (I : Inv X pins σ H s) (hN : X.N.Nodup) (hi : X.N[i]? = some x) (hx : Loc X.env.scope x) (r : RelV v u)
  (h : ∀ s', Inv X pins (σ.set i (some v)) H s' → Q () s') (hf : X.fn x = true ∨ X.env.scope.names.lookup x = some .local := by first | exact .inl rfl | exact .inr rfl | assumption) : wpAny M A (storeName X.env x u) Q E s :=
 store_ok2 I hN hi hx r (fun s' I' _ => h s' I') hf
theorem Inv.call' {s' : Shared} {ch : List Addr} (I : Inv X pins σ H s) (ho : s'.os = s.os) (u : Un (frs X.stack) ch H H' s.heap s'.heap) (hok : HOk X.prog X.w H' s'.heap) (hg : AllBare s'.gens)
  (hch : ∀ b ∈ ch, (b ∈ X.ex ∨ X.s₀.heap.objs.size ≤ b) ∧ b ≠ X.env.locals ∧ (∀ x c, X.env.cells.lookup x = some c → c ≠ b) ∧ ∀ p ∈ X.pn ++ pins, p.1 ≠ b) : Inv X pins σ H' s' := by
 obtain ⟨h', g', d', t', o'⟩ := s'
 have e : o' = s.os := ho
 subst e
 exact I.call (g' := g') (t' := t') (d' := d') u hok hg hch
end
noncomputable abbrev XK := Value → Option Addr → Hp → Prop
noncomputable abbrev St := List (Option V)
noncomputable abbrev VK := V → Hp → Prop
noncomputable abbrev TE := St → Hp → VK → Prop
noncomputable abbrev TT := St → Hp → (Bool → Hp → Prop) → Prop
noncomputable abbrev TA := St → Hp → (List V → Hp → Prop) → Prop
structure Ends where
 nx : St → Hp → Prop
 rt : VK
 bk : St → Hp → Prop := fun _ _ => False
 ct : St → Hp → Prop := fun _ _ => False
noncomputable abbrev TS := Ends → St → Hp → Prop
noncomputable def EP (X : Cx) (pins : List (Addr × Obj)) (σ : St) (Q : VK) (u : Value) (s' : Shared) : Prop := ∃ v H', Inv X pins σ H' s' ∧ RelV v u ∧ Q v H'
noncomputable def TP (X : Cx) (pins : List (Addr × Obj)) (σ : St) (Q : Bool → Hp → Prop) (b : Bool) (s' : Shared) : Prop := ∃ H', Inv X pins σ H' s' ∧ Q b H'
noncomputable def AP (X : Cx) (pins : List (Addr × Obj)) (σ : St) (Q : List V → Hp → Prop) (us : List Value) (s' : Shared) : Prop := ∃ vs H', Inv X pins σ H' s' ∧ Vals vs us ∧ Q vs H'
noncomputable def SP (X : Cx) (pins : List (Addr × Obj)) (D : Ends) (f : Flow) (s' : Shared) : Prop :=
 match f with
 | .next => ∃ σ' H', Inv X pins σ' H' s' ∧ D.nx σ' H'
 | .brk => ∃ σ' H', Inv X pins σ' H' s' ∧ D.bk σ' H'
 | .cont => ∃ σ' H', Inv X pins σ' H' s' ∧ D.ct σ' H'
 | .ret u => ∃ v σ' H', Inv X pins σ' H' s' ∧ RelV v u ∧ D.rt v H'
noncomputable def PE (X : Cx) (e : Expr) (t : TE) : Prop :=
 ∀ (pins : List (Addr × Obj)) (s : Shared) (σ : St) (H : Hp) (Q : VK), Inv X pins σ H s → t σ H Q → wpAny (model X.prog X.w) X.A (eval e X.env) (EP X pins σ Q) X.xe s
noncomputable def PT (X : Cx) (e : Expr) (t : TT) : Prop :=
 ∀ (pins : List (Addr × Obj)) (s : Shared) (σ : St) (H : Hp) (Q : Bool → Hp → Prop), Inv X pins σ H s → t σ H Q → wpAny (model X.prog X.w) X.A (isTrue e X.env (eval e X.env)) (TP X pins σ Q) X.xe s
noncomputable def PW (X : Cx) (e : Expr) (t : TT) : Prop :=
 ∀ (whole : Sem Value) (pins : List (Addr × Obj)) (s : Shared) (σ : St) (H : Hp) (Q : Bool → Hp → Prop), Inv X pins σ H s → t σ H Q → wpAny (model X.prog X.w) X.A (isTrue e X.env whole) (TP X pins σ Q) X.xe s
noncomputable def PA (X : Cx) (es : List Expr) (t : TA) : Prop :=
 ∀ (pos : Pos) (pins : List (Addr × Obj)) (s : Shared) (σ : St) (H : Hp) (Q : List V → Hp → Prop), Inv X pins σ H s → t σ H Q → wpAny (model X.prog X.w) X.A (spliced (backTo pos (starEach es X.env))) (AP X pins σ Q) X.xe s
noncomputable def PS (X : Cx) (st : Stmt) (t : TS) : Prop :=
 ∀ (pins : List (Addr × Obj)) (s : Shared) (σ : St) (H : Hp) (D : Ends), Inv X pins σ H s → t D σ H → wpAny (model X.prog X.w) X.A (exec st X.env) (SP X pins D) X.xe s
noncomputable def PSs (X : Cx) (st : List Stmt) (t : TS) : Prop :=
 ∀ (pins : List (Addr × Obj)) (s : Shared) (σ : St) (H : Hp) (D : Ends), Inv X pins σ H s → t D σ H → wpAny (model X.prog X.w) X.A (execs st X.env) (SP X pins D) X.xe s
theorem thn {α : Type} {t : Sem α} {Q Q' : α → Shared → Prop} {M : Model} {A : Around} {E : Value → Shared → Prop} {s : Shared} (h : wpAny M A t Q E s) (hQ : ∀ a s, Q a s → Q' a s) : wpAny M A t Q' E s := wpAny_mono h hQ fun _ _ x => x
end L2
namespace L2
open PySem PySem.Spec PyProof.Rows
section
variable {X : Cx}
theorem bin {a b : Expr} {ta tb : TE} (ha : PE X a ta) (hb : PE X b tb) {pins : List (Addr × Obj)} {s : Shared} {σ : St} {H : Hp} {R : V → V → Hp → Prop} (I : Inv X pins σ H s) (h : ta σ H fun x H1 => tb σ H1 fun y H2 => R x y H2)
  {α : Type} {Q : α → Shared → Prop} {f : Value → Value → Sem α}
  (hf : ∀ v u s2 x y H2, Inv X pins σ H2 s2 → RelV x v → RelV y u → R x y H2 → wpAny (model X.prog X.w) X.A (f v u) Q X.xe s2) :
  wpAny (model X.prog X.w) X.A (eval a X.env) (fun v s₁ => wpAny (model X.prog X.w) X.A (eval b X.env) (fun u s₂ => wpAny (model X.prog X.w) X.A (f v u) Q X.xe s₂) X.xe s₁) X.xe s := by
 refine thn (ha pins s σ H _ I h) fun v s1 ⟨x, H1, I1, r1, q1⟩ => ?_
 refine thn (hb pins s1 σ H1 _ I1 q1) fun u s2 ⟨y, H2, I2, r2, q2⟩ => ?_
 exact hf v u s2 x y H2 I2 r1 r2 q2
noncomputable def tVar (i : Nat) : TE := fun σ H Q => ∃ v, σ[i]? = some (some v) ∧ Q v H
noncomputable def tC (v : V) : TE := fun _ H Q => Q v H
theorem pe_var {i : Nat} {x : Str} {pos : Pos} (hN : X.N[i]? = some x) (hv : Vis X.env.scope x) (hd : (x == ("__debug__" : Str)) = false := by decide) (hcd : (x == ("__classdict__" : Str)) = false := by decide) : PE X (.Name x pos) (tVar i) := by
 intro pins s σ H Q I h
 obtain ⟨v, e, h⟩ := h
 obtain ⟨m, hn, hl⟩ := I.loc
 obtain ⟨u, r, l⟩ := hl i x v hN e hv
 have fin : EP X pins σ Q u s := ⟨v, H, I, r, h⟩
 rcases l with ⟨hk, hm⟩ | ⟨hk, c, hc, hcell⟩
 ·exact wpAny_Name (wpAny_loadName_local I.ok.kind hk hn hm fin) hd
 ·rcases hk with hk | hk
  ·exact wpAny_Name (wpAny_loadName_cell I.ok.kind hk hc hcell fin) hd
  ·exact wpAny_Name (wpAny_loadName_free I.ok.kind hk hc hcell fin hcd) hd
theorem pe_int {i j pos} : PE X (.Constant (.int i) j pos) (tC (.int i)) := fun _ _ _ H _ I h => wpAny_Constant_int ⟨.int i, H, I.tok _, ⟨_, rfl⟩, h⟩
theorem pe_bl {b j pos} : PE X (.Constant (.bool b) j pos) (tC (.bl b)) := fun _ _ _ H _ I h => Constant_bool ⟨.bl b, H, I, rfl, h⟩
theorem pe_str {x j pos} : PE X (.Constant (.str x) j pos) (tC (.str x)) := fun _ _ _ H _ I h => Calls.Constant_str ⟨.str x, H, I.tok _, ⟨_, rfl⟩, h⟩
noncomputable def Gl (X : Cx) (x : Str) : Prop := X.env.kindOf x = some .globalImplicit
theorem ld_glob {E : Value → Shared → Prop} {pins : List (Addr × Obj)} {s : Shared} {σ : St} {H : Hp} {x : Str} {u : Value} {pos : Pos} {Q : Value → Shared → Prop} (I : Inv X pins σ H s) (hg : Gl X x) (hm : X.mg x = some u) (h : Q u s)
  (hd : (x == ("__debug__" : Str)) = false := by decide) : wpAny (model X.prog X.w) X.A (eval (.Name x pos) X.env) Q E s :=
 Calls.Name_function_global I.ok.kind hg (Calls.loadGlobal_global (by rw [I.ok.glob]; exact I.mod.glob.keeps I.bk) hm h) hd
theorem ld_blt {E : Value → Shared → Prop} {pins : List (Addr × Obj)} {s : Shared} {σ : St} {H : Hp} {x : Str} {u : Value} {pos : Pos} {Q : Value → Shared → Prop} (I : Inv X pins σ H s) (hg : Gl X x) (hm : X.mg x = none) (hv : bootBuiltins x = some u) (h : Q u s)
  (hn : x ≠ "__name__" := by decide) (hd : (x == ("__debug__" : Str)) = false := by decide) : wpAny (model X.prog X.w) X.A (eval (.Name x pos) X.env) Q E s := by
 obtain ⟨mb, h1, h2⟩ := I.mod.blt
 exact Calls.Name_function_global I.ok.kind hg (Calls.loadGlobal_builtin (by rw [I.ok.glob]; exact I.mod.glob.keeps I.bk) hm (by rw [I.ok.blt]; exact h1.keeps I.bk) ((h2 x hn).trans hv) h) hd
theorem pe_glob {x : Str} {v : V} {u : Value} {pos : Pos} (hg : Gl X x) (hm : X.mg x = some u) (r : RelV v u) (hd : (x == ("__debug__" : Str)) = false := by decide) : PE X (.Name x pos) (tC v) :=
 fun _ _ _ H _ I h => ld_glob I hg hm ⟨v, H, I, r, h⟩ hd
theorem pe_bltn {x : Str} {v : V} {u : Value} {pos : Pos} (hg : Gl X x) (hm : X.mg x = none) (hv : bootBuiltins x = some u) (r : RelV v u) (hn : x ≠ "__name__" := by decide) (hd : (x == ("__debug__" : Str)) = false := by decide) : PE X (.Name x pos) (tC v) :=
 fun _ _ _ H _ I h => ld_blt I hg hm hv ⟨v, H, I, r, h⟩ hn hd
variable {a b : Expr} {ta tb : TE} {pos : Pos}
variable {tA tB' : TT} {rest : List Expr}
noncomputable def tAnd (t u : TT) : TT := fun σ H Q => t σ H fun c H1 => if c = true then u σ H1 Q else Q false H1
noncomputable def tOr (t u : TT) : TT := fun σ H Q => t σ H fun c H1 => if c = true then Q true H1 else u σ H1 Q
noncomputable def tNot (t : TT) : TT := fun σ H Q => t σ H fun c H1 => Q (!c) H1
theorem pw_and1 (ha : PT X a tA) : PW X (.BoolOp .And [a] pos) tA := by
 intro wh pins s σ H Q I h
 refine isTrue_and (thn (ha pins s σ H Q I h) fun c s1 e => ?_)
 cases c with
 | true => exact isTrue_and_nil e
 | false => exact e
theorem pw_or1 (ha : PT X a tA) : PW X (.BoolOp .Or [a] pos) tA := by
 intro wh pins s σ H Q I h
 refine isTrue_or (thn (ha pins s σ H Q I h) fun c s1 e => ?_)
 cases c with
 | false => exact isTrue_or_nil e
 | true => exact e
theorem pw_and (ha : PT X a tA) (hb : PW X (.BoolOp .And (b :: rest) pos) tB') : PW X (.BoolOp .And (a :: b :: rest) pos) (tAnd tA tB') := by
 intro wh pins s σ H Q I h
 refine isTrue_and (thn (ha pins s σ H _ I h) fun c s1 ⟨H1, I1, q1⟩ => ?_)
 cases c with
 | true => exact hb wh pins s1 σ H1 Q I1 q1
 | false => exact ⟨H1, I1, q1⟩
theorem pw_or (ha : PT X a tA) (hb : PW X (.BoolOp .Or (b :: rest) pos) tB') : PW X (.BoolOp .Or (a :: b :: rest) pos) (tOr tA tB') := by
 intro wh pins s σ H Q I h
 refine isTrue_or (thn (ha pins s σ H _ I h) fun c s1 ⟨H1, I1, q1⟩ => ?_)
 cases c with
 | true => exact ⟨H1, I1, q1⟩
 | false => exact hb wh pins s1 σ H1 Q I1 q1
theorem pt_not (ha : PT X a tA) : PT X (.UnaryOp .Not a pos) (tNot tA) := by
 intro pins s σ H Q I h
 exact isTrue_not (ha pins s σ H (fun c H1 => Q (!c) H1) I h)
noncomputable def tAndV (ta tb : TE) : TE := fun σ H Q => ta σ H fun x H1 => ∃ c, x = .bl c ∧ if c = true then tb σ H1 Q else Q (.bl false) H1
noncomputable def tOrV (ta tb : TE) : TE := fun σ H Q => ta σ H fun x H1 => ∃ c, x = .bl c ∧ if c = true then Q (.bl true) H1 else tb σ H1 Q
theorem pe_one {op} {t : TE} (h : PE X a t) : PE X (.BoolOp op [a] pos) t := fun pins s σ H Q I hw => BoolOp_one (h pins s σ H Q I hw)
theorem pe_and (ha : PE X a ta) (hb : PE X (.BoolOp .And (b :: rest) pos) tb) : PE X (.BoolOp .And (a :: b :: rest) pos) (tAndV ta tb) := by
 intro pins s σ H Q I h
 refine BoolOp_and (thn (ha pins s σ H _ I h) fun v s1 ⟨x, H1, I1, r1, q1⟩ => ?_)
 obtain ⟨c, rfl, q1⟩ := q1
 cases r1
 refine wpAny_truthy_bool ?_
 cases c with
 | true => exact hb pins s1 σ H1 Q I1 q1
 | false => exact ⟨.bl false, H1, I1, rfl, q1⟩
theorem pe_or (ha : PE X a ta) (hb : PE X (.BoolOp .Or (b :: rest) pos) tb) : PE X (.BoolOp .Or (a :: b :: rest) pos) (tOrV ta tb) := by
 intro pins s σ H Q I h
 refine BoolOp_or (thn (ha pins s σ H _ I h) fun v s1 ⟨x, H1, I1, r1, q1⟩ => ?_)
 obtain ⟨c, rfl, q1⟩ := q1
 cases r1
 refine wpAny_truthy_bool ?_
 cases c with
 | false => exact hb pins s1 σ H1 Q I1 q1
 | true => exact ⟨.bl true, H1, I1, rfl, q1⟩
noncomputable def tIf (t : TT) (ta tb : TE) : TE := fun σ H Q => t σ H fun c H1 => if c = true then ta σ H1 Q else tb σ H1 Q
theorem pe_ifExp {c : Expr} (hc : PT X c tA) (ha : PE X a ta) (hb : PE X b tb) : PE X (.IfExp c a b pos) (tIf tA ta tb) := by
 intro pins s σ H Q I h
 refine wpAny_IfExp (thn (hc pins s σ H _ I h) fun d s1 ⟨H1, I1, q1⟩ => ?_)
 cases d with
 | true => exact ha pins s1 σ H1 Q I1 q1
 | false => exact hb pins s1 σ H1 Q I1 q1
end
end L2
namespace L2
open PySem PySem.Spec PyProof.Rows
noncomputable def SqL (K : PySem.W.Frag) (H : Hp) (a : Addr) (xs : List V) : Prop :=
 Rd H a (.lst xs) ∨
  ∃ (o : Obj) (its : Array Value) (n : Nat), K.lookup a = some o ∧ o.cls = .type "list" ∧ o.dict = none ∧ o.data = .seq its n ∧ its.size ≤ sizeLine ∧ Vals xs its.toList
noncomputable def SqT (K : PySem.W.Frag) (H : Hp) (a : Addr) (xs : List V) : Prop :=
 Rd H a (.tup xs) ∨
  ∃ (o : Obj) (its : Array Value) (n : Nat), K.lookup a = some o ∧ o.cls = .type "tuple" ∧ o.data = .seq its n ∧ its.size ≤ sizeLine ∧ Vals xs its.toList
noncomputable def absV : Value → Option V
 | .none => some .non
 | .bool b => some (.bl b)
 | .int i _ => some (.int i)
 | .str x _ => some (.str x)
 | .bytes b _ => some (.byt b)
 | .float b _ => some (.flt b)
 | .ref a => some (.ref a)
 | .type n => some (.ty n)
 | _ => none
theorem RelV.abs {x : V} {u : Value} (r : RelV x u) : absV u = some x := by
 cases x with
 | non => cases r; rfl
 | bl _ => cases r; rfl
 | int _ => obtain ⟨t, rfl⟩ := r; rfl
 | str _ => obtain ⟨t, rfl⟩ := r; rfl
 | byt _ => obtain ⟨t, rfl⟩ := r; rfl
 | flt _ => obtain ⟨t, rfl⟩ := r; rfl
 | ref _ => cases r; rfl
 | ty _ => cases r; rfl
theorem RelV.inj {x y : V} {u : Value} (r : RelV x u) (q : RelV y u) : x = y := Option.some.inj (r.abs.symm.trans q.abs)
theorem Vals.inj : ∀ {xs ys : List V} {us : List Value}, Vals xs us → Vals ys us → xs = ys
 | _, _, _, .nil, .nil => rfl
 | _, _, _, .cons r t, .cons r' t' => by rw [r.inj r', Vals.inj t t']
section
variable {X : Cx} {pins : List (Addr × Obj)} {σ : St} {H : Hp} {s : Shared} {a : Addr} {xs ys : List V}
theorem SqL.of {K : PySem.W.Frag} (h : H a = some (.lst xs)) : SqL K H a xs := .inl (.inl h)
theorem SqT.of {K : PySem.W.Frag} (h : H a = some (.tup xs)) : SqT K H a xs := .inl (.inl h)
theorem Inv.list (I : Inv X pins σ H s) (h : SqL X.K H a xs) : ∃ its : List Value, Vals xs its ∧ PlainL s.heap a its.toArray ∧ xs.length ≤ sizeLine := by
 rcases h with h | ⟨o, its, n, hk, hc, hd, hs, hz, r⟩
 ·obtain ⟨z, its, n, r, e⟩ := h.ok I.hok
  exact ⟨its, r, ⟨_, n, e, rfl, rfl, rfl⟩, z⟩
 ·refine ⟨its.toList, r, ⟨o, n, I.kIn a o hk, hc, hd, by simpa using hs⟩, ?_⟩
  have e := r.length
  simp only [Array.length_toList] at e
  omega
theorem Inv.tuple (I : Inv X pins σ H s) (h : SqT X.K H a xs) : ∃ its : List Value, Vals xs its ∧ IsTup s.heap a its.toArray ∧ xs.length ≤ sizeLine := by
 rcases h with h | ⟨o, its, n, hk, hc, hs, hz, r⟩
 ·obtain ⟨z, its, r, p⟩ := h.ok I.hok
  exact ⟨its, r, p, z⟩
 ·refine ⟨its.toList, r, ⟨o, I.kIn a o hk, hc, n, by simpa using hs⟩, ?_⟩
  have e := r.length
  simp only [Array.length_toList] at e
  omega
theorem Inv.list_inj (I : Inv X pins σ H s) (h : SqL X.K H a xs) (h' : SqL X.K H a ys) : xs = ys := by
 obtain ⟨its, r, ⟨o, n, e, _, _, d⟩, _⟩ := I.list h
 obtain ⟨its', r', ⟨o', n', e', _, _, d'⟩, _⟩ := I.list h'
 rw [e] at e'; cases e'
 rw [d] at d'
 injection d' with d1 _
 have : its = its' := by simpa using congrArg Array.toList d1
 subst this
 exact r.inj r'
theorem Inv.tuple_inj (I : Inv X pins σ H s) (h : SqT X.K H a xs) (h' : SqT X.K H a ys) : xs = ys := by
 obtain ⟨its, r, ⟨o, e, _, n, d⟩, _⟩ := I.tuple h
 obtain ⟨its', r', ⟨o', e', _, n', d'⟩, _⟩ := I.tuple h'
 rw [e] at e'; cases e'
 rw [d] at d'
 injection d' with d1 _
 have : its = its' := by simpa using congrArg Array.toList d1
 subst this
 exact r.inj r'
end
noncomputable abbrev Cx.wish (X : Cx) (E : Value → Shared → Prop) : Cx := { X with xe := E }
noncomputable abbrev Cx.nox (X : Cx) : Cx := X.wish fun _ _ => False
theorem Cx.Ok.wish {X : Cx} (ok : X.Ok) (E : Value → Shared → Prop) : (X.wish E).Ok :=
 ⟨ok.mod, ok.kind, ok.glob, ok.blt, ok.above, ok.inj, ok.has, ok.cab, ok.hd, ok.frames, ok.stk, ok.exf, ok.bs, ok.bsz, ok.noex, ok.exfs, ok.funs, ok.frf⟩
theorem Cx.Ok.unwish {X : Cx} {E : Value → Shared → Prop} (ok : (X.wish E).Ok) : X.Ok :=
 ⟨ok.mod, ok.kind, ok.glob, ok.blt, ok.above, ok.inj, ok.has, ok.cab, ok.hd, ok.frames, ok.stk, ok.exf, ok.bs, ok.bsz, ok.noex, ok.exfs, ok.funs, ok.frf⟩
section
variable {X : Cx} {pins : List (Addr × Obj)} {σ : St} {H : Hp} {s : Shared} {E : Value → Shared → Prop}
theorem Inv.wish (I : Inv X pins σ H s) (E : Value → Shared → Prop) : Inv (X.wish E) pins σ H s := ⟨I.ok.wish E, I.os, I.bare, I.base, I.loc, I.cell, I.free, I.freeC, I.pin, I.hok, I.len⟩
theorem Inv.unwish (I : Inv (X.wish E) pins σ H s) : Inv X pins σ H s := ⟨I.ok.unwish, I.os, I.bare, I.base, I.loc, I.cell, I.free, I.freeC, I.pin, I.hok, I.len⟩
theorem SP.unwish {D : Ends} {f : Flow} {s' : Shared} (h : SP (X.wish E) pins D f s') : SP X pins D f s' := by
 cases f with
 | next => obtain ⟨σ', H', I, q⟩ := h; exact ⟨σ', H', I.unwish, q⟩
 | brk => obtain ⟨σ', H', I, q⟩ := h; exact ⟨σ', H', I.unwish, q⟩
 | cont => obtain ⟨σ', H', I, q⟩ := h; exact ⟨σ', H', I.unwish, q⟩
 | ret u => obtain ⟨v, σ', H', I, r, q⟩ := h; exact ⟨v, σ', H', I.unwish, r, q⟩
theorem PSs.nox {st : List Stmt} {t : TS} (h : PSs X.nox st t) : PSs X st t := fun pins s σ H D I hw =>
 wpAny_mono (h pins s σ H D (I.wish _) hw) (fun _ _ q => q.unwish) fun _ _ z => False.elim z
end
section
variable {X : Cx} {st : Stmt} {rest : List Stmt} {t u : TS} {e : Expr} {te : TE} {pos : Pos}
noncomputable def tNext : TS := fun D σ H => D.nx σ H
noncomputable def tSeq (t u : TS) : TS := fun D σ H => t { D with nx := u D } σ H
theorem pss_nil : PSs X [] tNext := fun _ _ σ H _ I h => wpAny_execs_nil ⟨σ, H, I, h⟩
theorem pss_cons (h1 : PS X st t) (h2 : PSs X rest u) : PSs X (st :: rest) (tSeq t u) := by
 intro pins s σ H D I h
 refine wpAny_execs_cons (thn (h1 pins s σ H { D with nx := u D } I h) fun f s1 q => ?_)
 cases f with
 | next =>
  obtain ⟨σ', H', I', q⟩ := q
  exact h2 pins s1 σ' H' D I' q
 | ret v => exact q
 | brk => exact q
 | cont => exact q
theorem pss_one (h1 : PS X st t) : PSs X [st] t := by
 intro pins s σ H D I h
 refine wpAny_execs_cons (thn (h1 pins s σ H D I h) fun f s1 q => ?_)
 cases f with
 | next => exact wpAny_execs_nil q
 | ret v => exact q
 | brk => exact q
 | cont => exact q
theorem ps_pass : PS X (.Pass pos) tNext := fun _ _ σ H _ I h => wpAny_Pass ⟨σ, H, I, h⟩
theorem Inv.quiet {pins : List (Addr × Obj)} {σ : St} {H : Hp} {s : Shared} (I : Inv X pins σ H s) : interactive X.env = false := by simp [interactive, I.ok.kind]
noncomputable def tDrop (te : TE) : TS := fun D σ H => te σ H fun _ H1 => D.nx σ H1
theorem ps_expr (he : PE X e te) (hs : swapsWith e none pos.line X.env = pure false := by rfl) : PS X (.Expr e pos) (tDrop te) := by
 intro pins s σ H D I h
 exact wpAny_Expr_any (thn (he pins s σ H _ I h) fun v s1 ⟨x, H1, I1, r1, q1⟩ => ⟨σ, H1, I1, q1⟩) I.quiet hs
noncomputable def tRet (te : TE) : TS := fun D σ H => te σ H D.rt
theorem ps_ret (he : PE X e te) : PS X (.Return (some e) pos) (tRet te) := by
 intro pins s σ H D I h
 exact wpAny_Return_some (thn (he pins s σ H _ I h) fun v s1 ⟨x, H1, I1, r1, q1⟩ => ⟨x, σ, H1, I1, r1, q1⟩)
noncomputable def tIfS (c : TT) (t u : TS) : TS := fun D σ H => c σ H fun b H1 => if b = true then t D σ H1 else u D σ H1
theorem ps_if {c : Expr} {a b : List Stmt} {tc : TT} (hc : PT X c tc) (ha : PSs X a t) (hb : PSs X b u) : PS X (.If c a b pos) (tIfS tc t u) := by
 intro pins s σ H D I h
 refine wpAny_If (thn (hc pins s σ H _ I h) fun d s1 ⟨H1, I1, q1⟩ => ?_)
 cases d with
 | true => exact ha pins s1 σ H1 D I1 q1
 | false => exact hb pins s1 σ H1 D I1 q1
end
noncomputable abbrev TG := V → St → Hp → (St → Hp → Prop) → Prop
noncomputable abbrev TGs := List V → St → Hp → (St → Hp → Prop) → Prop
noncomputable def PG (X : Cx) (target : Expr) (t : TG) : Prop :=
 ∀ (pins : List (Addr × Obj)) (s : Shared) (σ : St) (H : Hp) (v : V) (u : Value) (Q : St → Hp → Prop), Inv X pins σ H s → RelV v u → t v σ H Q →
  wpAny (model X.prog X.w) X.A (assign target X.env u) (fun _ s' => ∃ σ' H', Inv X pins σ' H' s' ∧ Q σ' H') X.xe s
noncomputable def PGs (X : Cx) (ts : List Expr) (t : TGs) : Prop :=
 ∀ (pins : List (Addr × Obj)) (s : Shared) (σ : St) (H : Hp) (vs : List V) (us : List Value) (Q : St → Hp → Prop), Inv X pins σ H s → Vals vs us → t vs σ H Q →
  wpAny (model X.prog X.w) X.A (assignInOrder ((assignEach ts X.env).map (·.2)) us) (fun _ s' => ∃ σ' H', Inv X pins σ' H' s' ∧ Q σ' H') X.xe s
noncomputable abbrev TSet := V → V → V → Hp → (Hp → Prop) → Prop
noncomputable def PSet (X : Cx) (t : TSet) : Prop :=
 ∀ (pins : List (Addr × Obj)) (s : Shared) (σ : St) (H : Hp) (o i v : V) (ov iv u : Value) (Q : Hp → Prop), Inv X pins σ H s → RelV o ov → RelV i iv → RelV v u → t o i v H Q →
  wpAny (model X.prog X.w) X.A (setItem ov iv u) (fun _ s' => ∃ H', Inv X pins σ H' s' ∧ Q H') X.xe s
section
variable {X : Cx} {pos : Pos}
noncomputable def gName (i : Nat) : TG := fun v σ H Q => Q (σ.set i (some v)) H
theorem pg_name {i : Nat} {x : Str} (hN : X.N.Nodup) (hi : X.N[i]? = some x) (hx : Loc X.env.scope x) (hf : X.fn x = true ∨ X.env.scope.names.lookup x = some .local := by first | exact .inl rfl | exact .inr rfl | assumption) : PG X (.Name x pos) (gName i) := by
 intro pins s σ H v u Q I r h
 exact wpAny_assign_Name (store_ok I hN hi hx r (fun s' I' => ⟨_, H, I', h⟩) hf)
noncomputable def gNil : TGs := fun vs σ H Q => vs = [] ∧ Q σ H
noncomputable def gCons (t : TG) (u : TGs) : TGs := fun vs σ H Q => ∃ v r, vs = v :: r ∧ t v σ H fun σ' H' => u r σ' H' Q
theorem pgs_nil : PGs X [] gNil := by
 intro pins s σ H vs us Q I r h
 obtain ⟨e, h⟩ := h
 subst e
 cases r
 exact assignInOrder_nil ⟨σ, H, I, h⟩
theorem pgs_cons {e : Expr} {es : List Expr} {t : TG} {u : TGs} (h1 : PG X e t) (h2 : PGs X es u)
  (hs : (assignEach (e :: es) X.env).map (·.2) = assign e X.env :: (assignEach es X.env).map (·.2) := by rfl) : PGs X (e :: es) (gCons t u) := by
 intro pins s σ H vs us Q I r h
 obtain ⟨v, vr, e1, h⟩ := h
 subst e1
 cases r with
 | cons r rr =>
  rw [hs]
  refine assignInOrder_cons (thn (h1 pins s σ H _ _ _ I r h) fun _ s1 ⟨σ1, H1, I1, q1⟩ => ?_)
  exact h2 pins s1 σ1 H1 _ _ Q I1 rr q1
noncomputable def gTup (K : PySem.W.Frag) (n : Nat) (t : TGs) : TG := fun v σ H Q => ∃ a xs, v = .ref a ∧ SqT K H a xs ∧ xs.length = n ∧ t xs σ H Q
theorem pg_tup {es : List Expr} {k : Nat} {t : TGs} {n : Nat} (hc : X.calm = true) (h : PGs X es t)
  (hn : (assignEach es X.env).length = n := by rfl) (hst : (assignEach es X.env).findIdx? (·.1) = none := by rfl) : PG X (.Tuple es k pos) (gTup X.K n t) := by
 intro pins s σ H v u Q I r hw
 obtain ⟨a, xs, e1, hq, hl, hw⟩ := hw
 subst e1
 cases r
 obtain ⟨its, rv, ht, hz⟩ := I.tuple hq
 refine assign_Tuple_tuple (I.ok.hd hc) ht (by simp [hn, ← hl, rv.length]) hst fun h' hx => ?_
 have I1 : Inv X pins σ H { s with heap := h' } := I.kept (t' := s.toks) fun b o e => hx b o (Nat.ne_of_lt (Heap.lt_size e)) e
 exact h pins _ σ H xs _ Q I1 (by simpa using rv) hw
noncomputable def gSub (to ti : TE) (t : TSet) : TG := fun v σ H Q => to σ H fun o H1 => ti σ H1 fun i H2 => t o i v H2 fun H3 => Q σ H3
theorem pg_sub {o i : Expr} {to ti : TE} {t : TSet} (ho : PE X o to) (hi : PE X i ti) (hs : PSet X t)
  (ha : ∀ v, assign (.Subscript o i pos) X.env v = (do
   let ov ← holding [v] (eval o X.env)
   let iv ← holding [v, ov] (eval i X.env)
   standAt pos
   holding [v, ov, iv] (setItem ov iv v)
   release [v, ov, iv] []) := by intro _; rfl) : PG X (.Subscript o i pos) (gSub to ti t) := by
 intro pins s σ H v u Q I r h
 rw [ha]
 refine wpAny_bind (wpAny_holding (thn (ho pins s σ H _ I h) fun ov s1 ⟨x, H1, I1, r1, q1⟩ => ?_))
 refine wpAny_bind (wpAny_holding (thn (hi pins s1 σ H1 _ I1 q1) fun iv s2 ⟨y, H2, I2, r2, q2⟩ => ?_))
 refine wpAny_bind (wpAny_standAt (wpAny_bind (wpAny_holding (thn (hs pins s2 σ H2 x y v ov iv u _ I2 r1 r2 r q2) fun _ s3 ⟨H3, I3, q3⟩ => ?_))))
 exact wpAny_release ⟨σ, H3, I3, q3⟩
noncomputable def tAsg (te : TE) (g : TG) : TS := fun D σ H => te σ H fun x H1 => g x σ H1 D.nx
theorem ps_asg {tg e : Expr} {te : TE} {g : TG} (he : PE X e te) (hg : PG X tg g) (hs : swapsWithSole [tg] e pos.line X.env = pure false := by rfl) (hw : swappedStores [tg] e X.env = pure none := by rfl)
    (h1 : (assignEach [tg] X.env).map (·.2) = [assign tg X.env] := by rfl) : PS X (.Assign [tg] e pos) (tAsg te g) := by
  intro pins s σ H D I h
  refine wpAny_Assign_stores (thn (he pins s σ H _ I h) fun v s1 ⟨x, H1, I1, r1, q1⟩ => ?_) hs hw
  rw [h1]
  exact thn (hg pins s1 σ H1 x v _ I1 r1 q1) fun _ s2 q => q
theorem ps_set {i : Nat} {x : Str} {e : Expr} {te : TE} {pos' : Pos} (hN : X.N.Nodup) (hi : X.N[i]? = some x) (hx : Loc X.env.scope x) (he : PE X e te) (hs : swapsWith e (some (.Name x pos')) pos.line X.env = pure false := by rfl) (hf : X.fn x = true ∨ X.env.scope.names.lookup x = some .local := by first | exact .inl rfl | exact .inr rfl | assumption) :
    PS X (.Assign [.Name x pos'] e pos) (tAsg te (gName i)) := by
  intro pins s σ H D I h
  refine wpAny_Assign_Name (thn (he pins s σ H _ I h) fun v s1 ⟨y, H1, I1, r1, q1⟩ => ?_) hs
  exact store_ok I1 hN hi hx r1 (fun s2 I2 => ⟨_, H1, I2, q1⟩) hf
end
section
variable {X : Cx} {pos : Pos}
end
structure It where
 go : Nat → Hp → Prop
 yld : Nat → Hp → V → Hp → Prop
 stop : Nat → Hp → Prop
noncomputable def FpOk (X : Cx) (pins : List (Addr × Obj)) (H : Hp) (b : Addr) : Prop :=
 H b = none ∧ b ≠ X.env.locals ∧ b ∉ X.fs ∧ (b ∈ X.ex ∨ X.s₀.heap.objs.size ≤ b) ∧ (∀ x c, X.env.cells.lookup x = some c → c ≠ b) ∧ ∀ p ∈ X.pn ++ pins, p.1 ≠ b
theorem Inv.fpOk {X : Cx} {pins : List (Addr × Obj)} {σ : St} {H H' : Hp} {s : Shared} {b : Addr} (I : Inv X pins σ H s) (hb : s.heap.objs.size ≤ b) (hn : H' b = none) : FpOk X pins H' b := by
 refine ⟨hn, Nat.ne_of_gt (Nat.lt_of_lt_of_le I.lt hb), I.nofs hb, .inr (Nat.le_trans I.sz hb), fun x c e z => ?_, fun p hp z => ?_⟩
 ·obtain ⟨v, q⟩ := I.cell x c e
  exact absurd (Nat.lt_of_lt_of_le q.lt (by rw [z]; exact hb)) (Nat.lt_irrefl _)
 ·exact absurd (Nat.lt_of_lt_of_le (Heap.lt_size (I.pin p hp).1) (by rw [z]; exact hb)) (Nat.lt_irrefl _)
structure Turn (P : Program) (w : World) (K : PySem.W.Frag) (tg : Expr) (J : It) (fp : List Addr) (it : Addr) (tn : Nat → Heap → Prop) : Prop where
 mem : it ∈ fp
 obj : ∀ i h, tn i h → ∀ b ∈ fp, ∃ o, h.get? b = some o ∧ ∀ v, o.data ≠ .cell v
 keep : ∀ i h h', tn i h → (∀ b ∈ fp, ∀ o, h.get? b = some o → h'.get? b = some o) → tn i h'
 item : ∀ (X : Cx), X.prog = P → X.w = w → X.K = K → X.calm = true → ∀ (i : Nat) (pins : List (Addr × Obj)) (s : Shared) (σ : St) (H : Hp) (E : Value → Shared → Prop), Inv X pins σ H s → (∀ b ∈ fp, FpOk X pins H b) → tn i s.heap → J.go i H →
  wpAny (model P w) X.A (pyNext (.ref it)) (fun r s1 => ∃ u, r = some u ∧
   wpAny (model P w) X.A (letOwnedTupleGo tg (.ref it) u) (fun _ s2 => ∃ x H', Inv X pins σ H' s2 ∧ RelV x u ∧ J.yld i H x H' ∧ tn (i + 1) s2.heap ∧ ∀ b ∈ fp, H' b = none) E s1) E s
 done : ∀ (X : Cx), X.prog = P → X.w = w → X.K = K → X.calm = true → ∀ (i : Nat) (pins : List (Addr × Obj)) (s : Shared) (σ : St) (H : Hp) (E : Value → Shared → Prop), Inv X pins σ H s → (∀ b ∈ fp, FpOk X pins H b) → tn i s.heap → J.stop i H →
  wpAny (model P w) X.A (pyNext (.ref it)) (fun r s1 => r = none ∧ Inv X pins σ H s1) E s
 self : ∀ (A : Around) (i : Nat) (s : Shared) (Q : Value → Shared → Prop) (E : Value → Shared → Prop), tn i s.heap → Q (.ref it) s → wpAny (model P w) A (pyIter (.ref it)) Q E s
noncomputable abbrev TI := St → Hp → (It → Hp → Prop) → Prop
noncomputable def PIE (X : Cx) (pins : List (Addr × Obj)) (σ : St) (tg : Expr) (R : It → Hp → Prop) (itv : Value) (s2 : Shared) : Prop :=
 ∃ (it : Addr) (fp : List Addr) (tn : Nat → Heap → Prop) (J : It) (H' : Hp), itv = .ref it ∧ Inv X pins σ H' s2 ∧ Turn X.prog X.w X.K tg J fp it tn ∧ tn 0 s2.heap ∧ (∀ b ∈ fp, FpOk X pins H' b) ∧ R J H'
noncomputable def PI (X : Cx) (tg iter : Expr) (wi : TI) : Prop :=
 ∀ (pins : List (Addr × Obj)) (s : Shared) (σ : St) (H : Hp) (R : It → Hp → Prop), Inv X pins σ H s → wi σ H R →
  wpAny (model X.prog X.w) X.A (eval iter X.env) (fun v s1 => wpAny (model X.prog X.w) X.A (pyIter v) (PIE X pins σ tg R) X.xe s1) X.xe s
theorem go_of {M : Model} {A : Around} {E : Value → Shared → Prop} {s : Shared} {tg : Expr} {it : Addr} {u : Value} {o : Obj} {n : String} {vs : Array Value} {Q : Unit → Shared → Prop} (ho : s.heap.get? it = some o) (hc : o.cls = .type n) (hd : o.data = .fields vs)
    (hn : ["enumerate", "zip", "dict_itemiterator", "dict_reverseitemiterator", "odict_iterator", "itertools.zip_longest", "itertools.pairwise"].contains n = false) (hQ : Q () s) : wpAny M A (letOwnedTupleGo tg (.ref it) u) Q E s := by
  unfold letOwnedTupleGo
  cases tg <;> first
    | exact wpAny_pure hQ
    | (cases u <;> first
        | exact wpAny_pure hQ
        | (refine wpAny_bind (wpAny_load ho ?_)
           rw [hc, hd]
           show wpAny M A (if (["enumerate", "zip", "dict_itemiterator", "dict_reverseitemiterator", "odict_iterator", "itertools.zip_longest", "itertools.pairwise"].contains n && vs[0]? == some (rawInt _)) = true then _ else _) Q E s
           rw [if_neg (by intro h; rw [hn, Bool.false_and] at h; cases h)]
           exact wpAny_pure hQ))
noncomputable def Itl (K : PySem.W.Frag) (a : Addr) : It :=
 ⟨fun i H => ∃ xs x, SqL K H a xs ∧ xs[i]? = some x, fun i H x H' => H' = H ∧ ∀ xs, SqL K H a xs → xs[i]? = some x, fun i H => ∃ xs, SqL K H a xs ∧ xs.length ≤ i⟩
noncomputable def Itt (K : PySem.W.Frag) (a : Addr) : It :=
 ⟨fun i H => ∃ xs x, SqT K H a xs ∧ xs[i]? = some x, fun i H x H' => H' = H ∧ ∀ xs, SqT K H a xs → xs[i]? = some x, fun i H => ∃ xs, SqT K H a xs ∧ xs.length ≤ i⟩
noncomputable def Itr (lo : Int) (n : Nat) : It := ⟨fun i _ => i < n, fun i H x H' => H' = H ∧ x = .int (lo + i), fun i _ => n ≤ i⟩
theorem turn_list {P : Program} {w : World} {K : PySem.W.Frag} {tg : Expr} (a it : Addr) : Turn P w K tg (Itl K a) [it] it (fun i h => h.IsListIter it a i) where
 mem := by simp
 obj := fun i h st b hb => by
  have e : b = it := by simpa using hb
  subst e
  obtain ⟨o, e, c, d⟩ := st
  exact ⟨o, e, fun v z => by rw [d] at z; cases z⟩
 keep := fun i h h' st k => st.at fun o e => k it (by simp) o e
 item := by
  intro X hP hw hK hc i pins s σ H E I hf st hg
  subst hP hw hK
  obtain ⟨xs, x, hq, hx⟩ := hg
  obtain ⟨its, rv, p, hz⟩ := I.list hq
  obtain ⟨u, hu, ru⟩ := rv.get hx
  obtain ⟨f0, f1, f2, f3, f4, f5⟩ := hf it (by simp)
  refine wpAny_pyNext_list_item st p.isList (x := u) (by simpa using hu) fun h' st' sb => ?_
  have I1 : Inv X pins σ H { s with heap := h' } := I.turned (t' := s.toks) (fun b o hb e => (sb.2 b hb).trans e) f0 f1 f3 f4 f5
  obtain ⟨o, e, c, d⟩ := id st'
  exact ⟨u, rfl, go_of (s := { s with heap := h' }) e c d (by decide) ⟨x, H, I1, ru, ⟨rfl, fun ys hy => by rw [I.list_inj hy hq]; exact hx⟩, st', fun b hb => (hf b hb).1⟩⟩
 done := by
  intro X hP hw hK hc i pins s σ H E I hf st hg
  subst hP hw hK
  obtain ⟨xs, hq, hx⟩ := hg
  obtain ⟨its, rv, p, hz⟩ := I.list hq
  obtain ⟨f0, f1, f2, f3, f4, f5⟩ := hf it (by simp)
  have hl := rv.length
  exact wpAny_pyNext_list_end (I.ok.hd hc) st p.isList (by simp; omega) fun h' eb => ⟨rfl, I.turned (t' := s.toks) (fun b o hb e => eb b o hb e) f0 f1 f3 f4 f5⟩
 self := fun _ _ _ _ _ st h => wpAny_pyIter_listiter st h
theorem turn_tuple {P : Program} {w : World} {K : PySem.W.Frag} {tg : Expr} (a it : Addr) : Turn P w K tg (Itt K a) [it] it (fun i h => h.IsTupleIter it a i) where
 mem := by simp
 obj := fun i h st b hb => by
  have e : b = it := by simpa using hb
  subst e
  obtain ⟨o, e, c, d⟩ := st
  exact ⟨o, e, fun v z => by rw [d] at z; cases z⟩
 keep := fun i h h' st k => st.at fun o e => k it (by simp) o e
 item := by
  intro X hP hw hK hc i pins s σ H E I hf st hg
  subst hP hw hK
  obtain ⟨xs, x, hq, hx⟩ := hg
  obtain ⟨its, rv, p, hz⟩ := I.tuple hq
  obtain ⟨u, hu, ru⟩ := rv.get hx
  obtain ⟨f0, f1, f2, f3, f4, f5⟩ := hf it (by simp)
  refine wpAny_pyNext_tuple_item st (show s.heap.IsTuple a its.toArray from p) (x := u) (by simpa using hu) fun h' st' sb => ?_
  have I1 : Inv X pins σ H { s with heap := h' } := I.turned (t' := s.toks) (fun b o hb e => (sb.2 b hb).trans e) f0 f1 f3 f4 f5
  obtain ⟨o, e, c, d⟩ := id st'
  exact ⟨u, rfl, go_of (s := { s with heap := h' }) e c d (by decide) ⟨x, H, I1, ru, ⟨rfl, fun ys hy => by rw [I.tuple_inj hy hq]; exact hx⟩, st', fun b hb => (hf b hb).1⟩⟩
 done := by
  intro X hP hw hK hc i pins s σ H E I hf st hg
  subst hP hw hK
  obtain ⟨xs, hq, hx⟩ := hg
  obtain ⟨its, rv, p, hz⟩ := I.tuple hq
  obtain ⟨f0, f1, f2, f3, f4, f5⟩ := hf it (by simp)
  have hl := rv.length
  exact wpAny_pyNext_tuple_end (I.ok.hd hc) st (show s.heap.IsTuple a its.toArray from p) (by simp; omega) fun h' eb => ⟨rfl, I.turned (t' := s.toks) (fun b o hb e => eb b o hb e) f0 f1 f3 f4 f5⟩
 self := fun _ _ _ _ _ st h => wpAny_pyIter_tupleiter st h
theorem turn_range {P : Program} {w : World} {K : PySem.W.Frag} {tg : Expr} (it : Addr) (lo : Int) (n : Nat) : Turn P w K tg (Itr lo n) [it] it (fun i h => IsRangeIter h it (lo + (i : Nat) * 1) ((n : Int) - (i : Nat)) 1) where
 mem := by simp
 obj := fun i h st b hb => by
  have e : b = it := by simpa using hb
  subst e
  exact ⟨_, st, fun v z => by
   have z' : Data.fields _ = Data.cell v := z
   cases z'⟩
 keep := fun i h h' st k => k it (by simp) _ st
 item := by
  intro X hP hw hK hc i pins s σ H E I hf st hg
  subst hP hw hK
  obtain ⟨f0, f1, f2, f3, f4, f5⟩ := hf it (by simp)
  have W := Walks.range (prog := X.prog) (w := X.w) (I.ok.hd hc) it lo 1 n
  refine W.item i s _ _ hg st fun v h' tk hv st' kk => ?_
  obtain ⟨t, rfl⟩ := hv
  have I1 : Inv X pins σ H { s with heap := h', toks := tk } := I.turned (fun b o hb e => kk b o (by simpa using hb) e) f0 f1 f3 f4 f5
  refine ⟨_, rfl, go_of (s := { s with heap := h', toks := tk }) (n := "range_iterator") st' rfl rfl (by decide) ⟨.int (lo + i), H, I1, ⟨t, ?_⟩, ⟨rfl, rfl⟩, st', fun b hb => (hf b hb).1⟩⟩
  rw [Int.mul_one]
 done := by
  intro X hP hw hK hc i pins s σ H E I hf st hg
  subst hP hw hK
  obtain ⟨f0, f1, f2, f3, f4, f5⟩ := hf it (by simp)
  exact wpAny_pyNext_range_end (I.ok.hd hc) st (by have : n ≤ i := hg; omega) fun h' eb => ⟨rfl, I.turned (t' := s.toks) (fun b o hb e => eb b o hb e) f0 f1 f3 f4 f5⟩
 self := fun _ _ _ _ _ st h => wpAny_pyIter_rangeiter st h
end L2
namespace L2
open PySem PySem.Spec PyProof.Rows
section
variable {X : Cx} {tg : Expr}
noncomputable def iList (K : PySem.W.Frag) (tl : TE) : TI := fun σ H R => tl σ H fun x H1 => ∃ a, x = .ref a ∧ (∃ xs, SqL K H1 a xs) ∧ R (Itl K a) H1
noncomputable def iTup (K : PySem.W.Frag) (tl : TE) : TI := fun σ H R => tl σ H fun x H1 => ∃ a, x = .ref a ∧ (∃ xs, SqT K H1 a xs) ∧ R (Itt K a) H1
theorem pi_list {l : Expr} {tl : TE} (hl : PE X l tl) : PI X tg l (iList X.K tl) := by
 intro pins s σ H R I h
 refine thn (hl pins s σ H _ I h) fun v s1 ⟨x, H1, I1, r1, q1⟩ => ?_
 obtain ⟨a, e, ⟨xs, hq⟩, q⟩ := q1
 subst e
 cases r1
 obtain ⟨its, rv, p, hz⟩ := I1.list hq
 refine wpAny_pyIter_list p.isList ?_
 refine ⟨s1.heap.objs.size, [s1.heap.objs.size], _, _, H1, rfl, I1.kept (t' := s1.toks) fun b o e => Heap.get?_push_of_some _ e, turn_list a _, ⟨_, Heap.get?_push_size _ rfl, rfl, rfl⟩, fun b hb => ?_, q⟩
 have e : b = s1.heap.objs.size := by simpa using hb
 subst e
 exact I1.fpOk (Nat.le_refl _) (I1.hok.fresh (Nat.le_refl _))
theorem pi_tup {l : Expr} {tl : TE} (hl : PE X l tl) : PI X tg l (iTup X.K tl) := by
 intro pins s σ H R I h
 refine thn (hl pins s σ H _ I h) fun v s1 ⟨x, H1, I1, r1, q1⟩ => ?_
 obtain ⟨a, e, ⟨xs, hq⟩, q⟩ := q1
 subst e
 cases r1
 obtain ⟨its, rv, p, hz⟩ := I1.tuple hq
 refine wpAny_pyIter_tuple (show s1.heap.IsTuple a its.toArray from p) ?_
 refine ⟨s1.heap.objs.size, [s1.heap.objs.size], _, _, H1, rfl, I1.kept (t' := s1.toks) fun b o e => Heap.get?_push_of_some _ e, turn_tuple a _, ⟨_, Heap.get?_push_size _ rfl, rfl, rfl⟩, fun b hb => ?_, q⟩
 have e : b = s1.heap.objs.size := by simpa using hb
 subst e
 exact I1.fpOk (Nat.le_refl _) (I1.hok.fresh (Nat.le_refl _))
theorem range_it {pins : List (Addr × Obj)} {σ : St} {H : Hp} {s : Shared} {R : It → Hp → Prop} {E : Value → Shared → Prop} {lo hi : Int} {t u v : Tok} {tk : Nat} (I : Inv X pins σ H s) (h1 : -(2 ^ 62) ≤ lo) (h2 : lo < 2 ^ 62) (h3 : -(2 ^ 62) ≤ hi) (h4 : hi < 2 ^ 62)
  (q : R (Itr lo (hi - lo).toNat) H) : wpAny (model X.prog X.w) X.A (pyIter (.ref s.heap.objs.size)) (PIE X pins σ tg R) E { s with heap := s.heap.push { cls := .type "range", data := .fields #[.int lo t, .int hi u, .int 1 v] }, toks := tk } := by
 refine wpAny_pyIter_range (IsRange.new ..) (small_one h1 h2 h3 h4) ?_
 have I1 : Inv X pins σ H { s with heap := s.heap.push { cls := .type "range", data := .fields #[.int lo t, .int hi u, .int 1 v] }, toks := tk } := I.kept fun b o e => Heap.get?_push_of_some _ e
 refine ⟨(s.heap.push { cls := .type "range", data := .fields #[.int lo t, .int hi u, .int 1 v] }).objs.size, [(s.heap.push { cls := .type "range", data := .fields #[.int lo t, .int hi u, .int 1 v] }).objs.size], _, _, H, rfl,
  I1.kept (t' := tk) fun b o e => Heap.get?_push_of_some _ e, turn_range _ lo (hi - lo).toNat, ?_, fun b hb => ?_, q⟩
 ·have e1 : lo + ((0 : Nat) : Int) * 1 = lo := by simp
  have e2 : (((hi - lo).toNat : Nat) : Int) - ((0 : Nat) : Int) = Builtin.Range.rangeSize lo hi 1 := by rw [rangeSize_one]; split <;> omega
  show IsRangeIter _ _ (lo + ((0 : Nat) : Int) * 1) ((((hi - lo).toNat : Nat) : Int) - ((0 : Nat) : Int)) 1
  rw [e1, e2]
  exact Heap.get?_push_size _ rfl
 ·have e : b = (s.heap.push { cls := .type "range", data := .fields #[.int lo t, .int hi u, .int 1 v] }).objs.size := by simpa using hb
  subst e
  exact I1.fpOk (Nat.le_refl _) (I1.hok.fresh (Nat.le_refl _))
noncomputable def iRng1 (ta : TA) : TI := fun σ H R => ta σ H fun vs H1 => ∃ j : Int, vs = [.int j] ∧ -(2 ^ 62) ≤ j ∧ j < 2 ^ 62 ∧ R (Itr 0 j.toNat) H1
theorem pi_range1 {a : Expr} {ta : TA} {p pos : Pos} (hg : Gl X "range") (hm : X.mg "range" = none) (ha : PA X [a] ta) (hs : starEach [a] X.env = [(false, eval a X.env)] := by rfl) : PI X tg (.Call (.Name "range" p) [a] [] pos) (iRng1 ta) := by
 intro pins s σ H R I h
 refine Call_ (ld_blt I hg hm boot_range (PyProof.Rows.callWith_type1 (thn (ha pos pins s σ H _ I h) fun us s1 ⟨vs, H1, I1, r1, q1⟩ => ?_) hs rfl))
 obtain ⟨j, e, q1, q2, q⟩ := q1
 subst e
 cases r1 with
 | cons r rr =>
  cases rr
  obtain ⟨t, rfl⟩ := r
  exact call_range_1 (range_it I1 (by omega) (by omega) q1 q2 (by simpa using q))
noncomputable def tFor (wi : TI) (g : TG) (tb : TS) : TS := fun D σ H => wi σ H fun J H1 => ∃ W : Nat → Nat → St → Hp → Prop, (∃ m, W 0 m σ H1) ∧ ∀ i m σ H, W i m σ H →
 (J.stop i H ∧ D.nx σ H) ∨ (J.go i H ∧ ∃ N : St → Hp → Prop, (∀ σ' H', N σ' H' → ∃ m', m' < m ∧ W (i + 1) m' σ' H') ∧ ∀ x H', J.yld i H x H' → g x σ H' fun σ2 H2 => tb { D with nx := N, ct := N, bk := D.nx } σ2 H2)
noncomputable def pinsAt (fp : List Addr) (h : Heap) : List (Addr × Obj) := fp.filterMap fun b => (h.get? b).map fun o => (b, o)
theorem mem_pinsAt {fp : List Addr} {h : Heap} {b : Addr} {o : Obj} (hb : b ∈ fp) (e : h.get? b = some o) : (b, o) ∈ pinsAt fp h := List.mem_filterMap.mpr ⟨b, hb, by rw [e]; rfl⟩
theorem of_pinsAt {fp : List Addr} {h : Heap} {p : Addr × Obj} (hp : p ∈ pinsAt fp h) : p.1 ∈ fp ∧ h.get? p.1 = some p.2 := by
 obtain ⟨b, hb, e⟩ := List.mem_filterMap.mp hp
 cases q : h.get? b with
 | none => rw [q] at e; cases e
 | some o =>
  rw [q] at e
  have e' : (b, o) = p := Option.some.inj e
  subst e'
  exact ⟨hb, q⟩
theorem Inv.pinned {pins : List (Addr × Obj)} {σ : St} {H : Hp} {s : Shared} {fp : List Addr} (I : Inv X pins σ H s) (hf : ∀ b ∈ fp, FpOk X pins H b) (ho : ∀ b ∈ fp, ∃ o, s.heap.get? b = some o ∧ ∀ v, o.data ≠ .cell v) : Inv X (pins ++ pinsAt fp s.heap) σ H s :=
 I.pins_of fun p hp => (List.mem_append.mp hp).elim (fun z => I.pin p (List.mem_append_right _ z)) fun z => by
  obtain ⟨hb, e⟩ := of_pinsAt z
  obtain ⟨f0, f1, f2, _⟩ := hf p.1 hb
  obtain ⟨o, e', d⟩ := ho p.1 hb
  rw [e] at e'; cases e'
  exact ⟨e, f0, f1, f2, d⟩
theorem Inv.unpinned {pins pl : List (Addr × Obj)} {σ : St} {H : Hp} {s : Shared} (I : Inv X (pins ++ pl) σ H s) : Inv X pins σ H s := I.pins_of fun p hp => I.pin p (List.mem_append_right _ (List.mem_append_left _ hp))
theorem ps_for {iter : Expr} {body : List Stmt} {wi : TI} {g : TG} {tb : TS} {pos : Pos} (hp : PassesOwn (model X.prog X.w) X.A X.env X.xe) (hc : X.calm = true) (hi : PI X tg iter wi) (hg : PG X tg g) (hb : PSs X body tb)
  (hs : ∀ x, foldedSetIterable iter X.env x = pure x := by intro _; rfl) : PS X (.For tg iter body [] pos) (tFor wi g tb) := by
 intro pins s σ H D I h
 refine wpAny_For (thn (hi pins s σ H _ I h) fun v s1 h1 => thn h1 fun itv s2 h2 => ?_) hs
 obtain ⟨it, fp, tn, J, H2, e, I2, T, st2, f2, W, ⟨m0, w0⟩, turn⟩ := h2
 subst e
 -- what stays true of the iterator's objects through the loop
 have stat : ∀ {H' : Hp}, (∀ b ∈ fp, H' b = none) → ∀ b ∈ fp, FpOk X pins H' b := fun hn b hb => ⟨hn b hb, (f2 b hb).2⟩
 refine codeAny_forLoop_any (fun n s' => ∃ i σ' H', Inv X pins σ' H' s' ∧ tn i s'.heap ∧ (∀ b ∈ fp, H' b = none) ∧ W i n σ' H') ?_ m0 ⟨0, σ, H2, I2, st2, fun b hb => (f2 b hb).1, w0⟩
 rintro n s3 ⟨i, σ3, H3, I3, st3, fr3, w3⟩
 rcases turn i n σ3 H3 w3 with ⟨stop, qn⟩ | ⟨go, N, hN, step⟩
 ·refine wpAny_passesOwn hp (thn (T.done X rfl rfl rfl hc i pins s3 σ3 H3 X.xe I3 (stat fr3) st3 stop) fun r s4 ⟨hr, I4⟩ => ?_)
  subst hr
  exact wpAny_execs_nil ⟨σ3, H3, I4, qn⟩
 ·refine wpAny_passesOwn hp (thn (T.item X rfl rfl rfl hc i pins s3 σ3 H3 X.xe I3 (stat fr3) st3 go) fun r s4 ⟨u, hr, h4⟩ => ?_)
  subst hr
  refine wpAny_passesOwn hp (thn h4 fun _ s5 ⟨x, H5, I5, r5, y5, st5, fr5⟩ => ?_)
  have I5' := I5.pinned (stat fr5) (T.obj _ _ st5)
  refine wpAny_passesOwn hp (thn (hg _ s5 σ3 H5 x u _ I5' r5 (step x H5 y5)) fun _ s6 ⟨σ6, H6, I6, q6⟩ => ?_)
  refine wpAny_passesOwn hp (thn (hb _ s6 σ6 H6 _ I6 q6) fun f s7 q7 => ?_)
  have again : ∀ {σ7 : St} {H7 : Hp}, Inv X (pins ++ pinsAt fp s5.heap) σ7 H7 s7 → N σ7 H7 → ∃ m, m < n ∧ ∃ i σ' H', Inv X pins σ' H' s7 ∧ tn i s7.heap ∧ (∀ b ∈ fp, H' b = none) ∧ W i m σ' H' := fun {σ7 H7} I7 n7 => by
   obtain ⟨m', hm, w7⟩ := hN σ7 H7 n7
   refine ⟨m', hm, i + 1, σ7, H7, I7.unpinned, T.keep _ _ _ st5 fun b hb o e => (I7.pin (b, o) (List.mem_append_right _ (List.mem_append_right _ (mem_pinsAt hb e)))).1, fun b hb => ?_, w7⟩
   obtain ⟨o, e, d⟩ := T.obj _ _ st5 b hb
   exact (I7.pin (b, o) (List.mem_append_right _ (List.mem_append_right _ (mem_pinsAt hb e)))).2.1
  cases f with
  | next => obtain ⟨σ7, H7, I7, n7⟩ := q7; exact again I7 n7
  | cont => obtain ⟨σ7, H7, I7, n7⟩ := q7; exact again I7 n7
  | brk => obtain ⟨σ7, H7, I7, q7⟩ := q7; exact ⟨σ7, H7, I7.unpinned, q7⟩
  | ret v => obtain ⟨x7, σ7, H7, I7, r7, q7⟩ := q7; exact ⟨x7, σ7, H7, I7.unpinned, r7, q7⟩
end
theorem for_list {K : PySem.W.Frag} {a : Addr} {xs : List V} {g : TG} {tb : TS} {D : Ends} {σ : St} {H : Hp} (Pv : Nat → St → Hp → Prop) (h0 : Pv 0 σ H) (hl : ∀ i σ H, i ≤ xs.length → Pv i σ H → SqL K H a xs)
  (hs : ∀ i x σ H, xs[i]? = some x → Pv i σ H → g x σ H fun σ2 H2 => tb { D with nx := Pv (i + 1), ct := Pv (i + 1), bk := D.nx } σ2 H2) (hd : ∀ σ H, Pv xs.length σ H → D.nx σ H) :
  ∃ W : Nat → Nat → St → Hp → Prop, (∃ m, W 0 m σ H) ∧ ∀ i m σ H, W i m σ H →
   ((Itl K a).stop i H ∧ D.nx σ H) ∨ ((Itl K a).go i H ∧ ∃ N : St → Hp → Prop, (∀ σ' H', N σ' H' → ∃ m', m' < m ∧ W (i + 1) m' σ' H') ∧ ∀ x H', (Itl K a).yld i H x H' → g x σ H' fun σ2 H2 => tb { D with nx := N, ct := N, bk := D.nx } σ2 H2) := by
 refine ⟨fun i m σ H => m = xs.length - i ∧ i ≤ xs.length ∧ Pv i σ H, ⟨xs.length, by simp, Nat.zero_le _, h0⟩, ?_⟩
 rintro i m σ H ⟨rfl, hi, p⟩
 have q := hl i σ H hi p
 by_cases hlt : i < xs.length
 ·refine .inr ⟨⟨xs, xs[i], q, by simp [hlt]⟩, Pv (i + 1), fun σ' H' p' => ⟨xs.length - (i + 1), by omega, rfl, hlt, p'⟩, fun x H' y => ?_⟩
  obtain ⟨e, y⟩ := y
  subst e
  exact hs i x σ _ (y xs q) p
 ·have e : i = xs.length := by omega
  subst e
  exact .inl ⟨⟨xs, q, Nat.le_refl _⟩, hd σ H p⟩
end L2
namespace L2
open PySem PySem.Spec PyProof.Rows
noncomputable abbrev R2 := V → V → Hp → VK → Prop
noncomputable def OpR (X : Cx) (f : Value → Value → Sem Value) (r : R2) : Prop :=
 ∀ (pins : List (Addr × Obj)) (s : Shared) (σ : St) (H : Hp) (x y : V) (v u : Value) (Q : VK), Inv X pins σ H s → RelV x v → RelV y u → r x y H Q →
  wpAny (model X.prog X.w) X.A (f v u) (EP X pins σ Q) X.xe s
noncomputable def UnR (X : Cx) (f : Value → Sem Value) (r : V → Hp → VK → Prop) : Prop :=
 ∀ (pins : List (Addr × Obj)) (s : Shared) (σ : St) (H : Hp) (x : V) (v : Value) (Q : VK), Inv X pins σ H s → RelV x v → r x H Q →
  wpAny (model X.prog X.w) X.A (f v) (EP X pins σ Q) X.xe s
noncomputable def CallR (X : Cx) (f : Value) (r : List V → Hp → VK → Prop) : Prop :=
 ∀ (pins : List (Addr × Obj)) (s : Shared) (σ : St) (H : Hp) (xs : List V) (us : List Value) (Q : VK), Inv X pins σ H s → Vals xs us → r xs H Q →
  wpAny (model X.prog X.w) X.A (call f us) (EP X pins σ Q) X.xe s
noncomputable def TruR (X : Cx) (r : V → Hp → (Bool → Hp → Prop) → Prop) : Prop :=
 ∀ (pins : List (Addr × Obj)) (s : Shared) (σ : St) (H : Hp) (x : V) (v : Value) (Q : Bool → Hp → Prop), Inv X pins σ H s → RelV x v → r x H Q →
  wpAny (model X.prog X.w) X.A (truthy v) (TP X pins σ Q) X.xe s
noncomputable def tOp (r : R2) (ta tb : TE) : TE := fun σ H Q => ta σ H fun x H1 => tb σ H1 fun y H2 => r x y H2 Q
noncomputable def tUn (r : V → Hp → VK → Prop) (ta : TE) : TE := fun σ H Q => ta σ H fun x H1 => r x H1 Q
noncomputable def rI (C : Int → Int → Prop) (g : Int → Int → V) : R2 := fun x y H Q => ∃ i j, x = .int i ∧ y = .int j ∧ C i j ∧ Q (g i j) H
noncomputable def rI0 (g : Int → Int → V) : R2 := fun x y H Q => ∃ i j, x = .int i ∧ y = .int j ∧ Q (g i j) H
section
variable {X : Cx} {a b c : Expr} {ta tb tc : TE} {pos : Pos}
theorem binT (ha : PE X a ta) (hb : PE X b tb) {pins : List (Addr × Obj)} {s : Shared} {σ : St} {H : Hp} {R : V → V → Hp → Prop} (I : Inv X pins σ H s)
  (h : ta σ H fun x H1 => tb σ H1 fun y H2 => R x y H2) {Q : Value → Shared → Prop} {f : Value → Value → Sem Value}
  (hf : ∀ v u s2 x y H2, Inv X pins σ H2 s2 → RelV x v → RelV y u → R x y H2 → wpAny (model X.prog X.w) X.A (f v u) Q X.xe s2) :
  wpAny (model X.prog X.w) X.A (eval a X.env) (fun v s₁ => wpAny (model X.prog X.w) X.A (eval b X.env) (fun u s₂ => wpAny (model X.prog X.w) X.A (f v u) Q X.xe s₂) X.xe s₁) X.xe s := by
 refine thn (ha pins s σ H _ I h) fun v s1 ⟨x, H1, I1, r1, q1⟩ => ?_
 refine thn (hb pins s1 σ H1 _ I1 q1) fun u s2 ⟨y, H2, I2, r2, q2⟩ => ?_
 exact hf v u s2 x y H2 I2 r1 r2 q2
theorem pe_op {op : Operator} {r : R2} (ho : OpR X (binaryOp op) r) (ha : PE X a ta) (hb : PE X b tb) : PE X (.BinOp a op b pos) (tOp r ta tb) := by
 intro pins s σ H Q I h
 exact wpAny_BinOp (binT ha hb I h fun v u s2 x y H2 I2 rx ry q => ho pins s2 σ H2 x y v u Q I2 rx ry q)
theorem pe_un {op : UnaryOp} {r : V → Hp → VK → Prop} (ho : UnR X (unaryOp op) r) (ha : PE X a ta) : PE X (.UnaryOp op a pos) (tUn r ta) := by
 intro pins s σ H Q I h
 exact UnaryOp_ (thn (ha pins s σ H _ I h) fun v s1 ⟨x, H1, I1, r1, q1⟩ => ho pins s1 σ H1 x v Q I1 r1 q1)
theorem opI {f : Value → Value → Sem Value} {C : Int → Int → Prop} {g : Int → Int → Int}
  (rule : ∀ (i j : Int) (t u : Tok) (s : Shared) (Q : Value → Shared → Prop) (E : Value → Shared → Prop), C i j → Q (.int (g i j) s.toks) { s with toks := s.toks + 1 } → wpAny (model X.prog X.w) X.A (f (.int i t) (.int j u)) Q E s) :
  OpR X f (rI C fun i j => .int (g i j)) := by
 intro pins s σ H x y v u Q I rx ry h
 obtain ⟨i, j, rfl, rfl, hc, q⟩ := h
 obtain ⟨t, rfl⟩ := rx
 obtain ⟨t', rfl⟩ := ry
 exact rule i j t t' s _ _ hc ⟨.int (g i j), H, I.tok _, ⟨_, rfl⟩, q⟩
theorem opI0 {f : Value → Value → Sem Value} {g : Int → Int → Int}
  (rule : ∀ (i j : Int) (t u : Tok) (s : Shared) (Q : Value → Shared → Prop) (E : Value → Shared → Prop), Q (.int (g i j) s.toks) { s with toks := s.toks + 1 } → wpAny (model X.prog X.w) X.A (f (.int i t) (.int j u)) Q E s) :
  OpR X f (rI0 fun i j => .int (g i j)) := by
 intro pins s σ H x y v u Q I rx ry h
 obtain ⟨i, j, rfl, rfl, q⟩ := h
 obtain ⟨t, rfl⟩ := rx
 obtain ⟨t', rfl⟩ := ry
 exact rule i j t t' s _ _ ⟨.int (g i j), H, I.tok _, ⟨_, rfl⟩, q⟩
theorem opB0 {f : Value → Value → Sem Value} {g : Int → Int → Bool}
  (rule : ∀ (i j : Int) (t u : Tok) (s : Shared) (Q : Value → Shared → Prop) (E : Value → Shared → Prop), Q (.bool (g i j)) s → wpAny (model X.prog X.w) X.A (f (.int i t) (.int j u)) Q E s) :
  OpR X f (rI0 fun i j => .bl (g i j)) := by
 intro pins s σ H x y v u Q I rx ry h
 obtain ⟨i, j, rfl, rfl, q⟩ := h
 obtain ⟨t, rfl⟩ := rx
 obtain ⟨t', rfl⟩ := ry
 exact rule i j t t' s _ _ ⟨.bl (g i j), H, I, rfl, q⟩
noncomputable def CDiv (i j : Int) : Prop := 0 < j ∧ j < 1073741824
noncomputable def CPow (i j : Int) : Prop := 0 ≤ j ∧ j ≤ 1000000 ∧ i.natAbs < 2 ^ 64
noncomputable def CMul (i j : Int) : Prop := (-(2 ^ 64) < i ∧ i < 2 ^ 64) ∨ (-(2 ^ 64) < j ∧ j < 2 ^ 64)
theorem CMul.ok {i j : Int} (h : CMul i j) : IntMulOk i j := by
 rcases h with ⟨h1, h2⟩ | ⟨h1, h2⟩
 ·exact .of_left (intBits_le_64 h1 h2)
 ·exact .of_right (intBits_le_64 h1 h2)
theorem two_pow_nn (k : Nat) : (0 : Int) ≤ 2 ^ k := by
 rw [two_pow_cast]
 exact Int.natCast_nonneg _
theorem op_add : OpR X (binaryOp .Add) (rI0 fun i j => .int (i + j)) := opI0 fun _ _ _ _ _ _ _ q => add_int q
theorem op_sub : OpR X (binaryOp .Sub) (rI0 fun i j => .int (i - j)) := opI0 fun _ _ _ _ _ _ _ q => sub_int q
theorem op_mul : OpR X (binaryOp .Mult) (rI CMul fun i j => .int (i * j)) := opI fun _ _ _ _ _ _ _ hc q => mul_int q hc.ok
theorem op_fdiv : OpR X (binaryOp .FloorDiv) (rI CDiv fun i j => .int (i / j)) := opI fun i j _ _ _ _ _ hc q => by
 have h1 : (0 : Int) < j := hc.1
 have h2 : j < 1073741824 := hc.2
 exact floordiv_int (by omega) (by rw [Int.fdiv_eq_ediv_of_nonneg i (by omega)]; exact q) (.inl (PyProof.noPylong_small (by omega)))
theorem op_mod : OpR X (binaryOp .Mod) (rI (fun _ j => 0 < j) fun i j => .int (i % j)) := opI fun i j _ _ _ _ _ hc q => by
 have h1 : (0 : Int) < j := hc
 exact mod_int' (by omega) (by rw [Int.fmod_eq_emod_of_nonneg i (by omega)]; exact q)
theorem op_pow : OpR X (binaryOp .Pow) (rI CPow fun i j => .int (i ^ j.toNat)) := opI fun _ _ _ _ _ _ _ hc q => pow_int_small hc.1 hc.2.1 hc.2.2 q
theorem op_shl : OpR X (binaryOp .LShift) (rI CPow fun i j => .int (i * 2 ^ j.toNat)) := opI fun _ _ _ _ _ _ _ hc q => lshift_int_small hc.1 hc.2.1 hc.2.2 q
theorem op_shr : OpR X (binaryOp .RShift) (rI (fun _ j => 0 ≤ j) fun i j => .int (i / 2 ^ j.toNat)) := opI fun i j _ _ _ _ _ hc q =>
 rshift_int hc (by rw [Int.fdiv_eq_ediv_of_nonneg i (two_pow_nn _)]; exact q)
theorem op_and : OpR X (binaryOp .BitAnd) (rI0 fun i j => .int (Builtin.bitAnd i j)) := opI0 fun _ _ _ _ _ _ _ q => and_int q
end
section
variable {X : Cx} {a b c : Expr} {ta tb tc : TE} {pos : Pos}
theorem fin_bl {pins : List (Addr × Obj)} {σ : St} {H : Hp} {s : Shared} {Q : VK} {k k' : Bool} (I : Inv X pins σ H s) (q : Q (.bl k) H) (e : k = k') : EP X pins σ Q (.bool k') s := by
 subst e
 exact ⟨.bl k, H, I, rfl, q⟩
theorem op_lt : OpR X (compareOp .Lt) (rI0 fun i j => .bl (decide (i < j))) := opB0 fun _ _ _ _ _ _ _ q => lt_int q
theorem op_le : OpR X (compareOp .LtE) (rI0 fun i j => .bl (decide (i ≤ j))) := opB0 fun _ _ _ _ _ _ _ q => le_int q
theorem op_gt : OpR X (compareOp .Gt) (rI0 fun i j => .bl (decide (j < i))) := opB0 fun _ _ _ _ _ _ _ q => gt_int q
theorem op_ge : OpR X (compareOp .GtE) (rI0 fun i j => .bl (decide (j ≤ i))) := opB0 fun _ _ _ _ _ _ _ q => ge_int q
theorem op_isN : OpR X (compareOp .Is) (fun x y H Q => y = .non ∧ Q (.bl (decide (x = .non))) H) := by
 intro pins s σ H x y v u Q I rx ry h
 obtain ⟨rfl, q⟩ := h
 cases ry
 refine is_none_gen (fin_bl I q ?_)
 cases x <;> first
  | (cases rx; rfl)
  | (obtain ⟨t, rfl⟩ := rx; rfl)
theorem op_notN : OpR X (compareOp .IsNot) (fun x y H Q => y = .non ∧ Q (.bl (!decide (x = .non))) H) := by
 intro pins s σ H x y v u Q I rx ry h
 obtain ⟨rfl, q⟩ := h
 cases ry
 refine isnot_none_gen (fin_bl I q ?_)
 cases x <;> first
  | (cases rx; rfl)
  | (obtain ⟨t, rfl⟩ := rx; rfl)
theorem pe_cmpR {op : CmpOp} {r : R2} (ho : OpR X (compareOp op) r) (ha : PE X a ta) (hb : PE X b tb) (hm : behindInMarks op b = false) : PE X (.Compare a [op] [b] pos) (tOp r ta tb) := by
 intro pins s σ H Q I h
 exact wpAny_Compare1 (binT ha hb I h fun v u s2 x y H2 I2 rx ry q => ho pins s2 σ H2 x y v u Q I2 rx ry q) hm
noncomputable def tTest (t : TE) : TT := fun σ H Q => t σ H fun x H' => ∃ k, x = .bl k ∧ Q k H'
theorem pt_cmpR {op : CmpOp} {r : R2} (ho : OpR X (compareOp op) r) (ha : PE X a ta) (hb : PE X b tb) (hm : behindInMarks op b = false) : PT X (.Compare a [op] [b] pos) (tTest (tOp r ta tb)) := by
 intro pins s σ H Q I h
 refine wpAny_isTrue_Compare1 (thn (ha pins s σ H _ I h) fun v s1 ⟨x, H1, I1, r1, q1⟩ => thn (hb pins s1 σ H1 _ I1 q1) fun u s2 ⟨y, H2, I2, r2, q2⟩ =>
  thn (ho pins s2 σ H2 x y v u _ I2 r1 r2 q2) fun c s3 ⟨z, H3, I3, r3, k, e, q3⟩ => ?_) hm
 subst e
 cases r3
 exact wpAny_truthy_bool ⟨H3, I3, q3⟩
noncomputable def TruV (K : PySem.W.Frag) (x : V) (H : Hp) (k : Bool) : Prop :=
 match x with
 | .non => k = false
 | .bl b => k = b
 | .int i => k = (i != 0)
 | .str y => y.length ≤ sizeLine ∧ k = ((y.length : Int) != 0)
 | .byt y => y.size ≤ sizeLine ∧ k = ((y.size : Int) != 0)
 | .ref p => (∃ xs, SqL K H p xs ∧ k = !xs.isEmpty) ∨ (∃ xs, SqT K H p xs ∧ k = !xs.isEmpty) ∨ ∃ kvs, H p = some (.dK kvs) ∧ k = !kvs.isEmpty
 | _ => False
theorem isEmpty_kv {κ : Type} {kvs : List (κ × V)} {vs : List (κ × Value)} (r : KV kvs vs) : (!vs.isEmpty) = !kvs.isEmpty := by
 cases r <;> rfl
theorem isEmpty_of {xs : List V} {its : List Value} (r : Vals xs its) : (!its.toArray.isEmpty) = !xs.isEmpty := by
 cases r <;> simp
theorem line63 : (sizeLine : Nat) < 2 ^ 63 := by rw [sizeLine_eq]; decide
theorem tru_ok : TruR X (fun x H Q => ∃ k, TruV X.K x H k ∧ Q k H) := by
 intro pins s σ H x v Q I rx h
 obtain ⟨k, e, q⟩ := h
 have hl := line63
 have hs : sizeLine = 16777216 := sizeLine_eq
 cases x with
 | non =>
  cases rx
  have e' : k = false := e
  subst e'
  exact truthy_none ⟨H, I, q⟩
 | bl b =>
  cases rx
  have e' : k = b := e
  subst e'
  exact wpAny_truthy_bool ⟨H, I, q⟩
 | int i =>
  obtain ⟨t, rfl⟩ := rx
  have e' : k = (i != 0) := e
  subst e'
  exact PySem.P.truthy_int ⟨H, I, q⟩
 | str y =>
  obtain ⟨t, rfl⟩ := rx
  obtain ⟨hy, e'⟩ : y.length ≤ sizeLine ∧ k = ((y.length : Int) != 0) := e
  subst e'
  exact PySem.P.truthy_str (by omega) ⟨H, I.tok _, q⟩
 | byt y =>
  obtain ⟨t, rfl⟩ := rx
  obtain ⟨hy, e'⟩ : y.size ≤ sizeLine ∧ k = ((y.size : Int) != 0) := e
  subst e'
  exact PySem.W.truthy_bytes (by omega) ⟨H, I.tok _, q⟩
 | ref p =>
  cases rx
  have e' : (∃ xs, SqL X.K H p xs ∧ k = !xs.isEmpty) ∨ (∃ xs, SqT X.K H p xs ∧ k = !xs.isEmpty) ∨ ∃ kvs, H p = some (.dK kvs) ∧ k = !kvs.isEmpty := e
  rcases e' with ⟨xs, hx, e'⟩ | ⟨xs, hx, e'⟩ | ⟨kvs, hx, e'⟩
  ·subst e'
   obtain ⟨its, r, pl, hz⟩ := I.list hx
   have hlen := r.length
   exact wpAny_truthy_list pl.isList (by simp only [List.size_toArray]; omega) ⟨H, I.tok _, by rw [isEmpty_of r]; exact q⟩
  ·subst e'
   obtain ⟨its, r, pl, hz⟩ := I.tuple hx
   have hlen := r.length
   exact truthy_tuple pl (by simp only [List.size_toArray]; omega) ⟨H, I.tok _, by rw [isEmpty_of r]; exact q⟩
  ·subst e'
   obtain ⟨hz, hS, vs, r, m⟩ : kvs.length ≤ sizeLine ∧ (p == sysModules) = false ∧ ∃ vs, KV kvs vs ∧ s.heap.DictOf (mixKind X.prog X.w) p vs := I.hok p _ hx
   have hlen : kvs.length = vs.length := Paired.length r
   exact wpAny_truthy_dict hS m (by omega) ⟨H, I.tok _, by rw [isEmpty_kv r]; exact q⟩
 | _ => exact (show False from e).elim
theorem pt_truth (ha : PE X a ta) (he : ∀ whole, isTrue a X.env whole = (do let v ← whole; standAt a.pos; holding [v] (truthy v))) :
  PT X a (fun σ H Q => ta σ H fun x H' => ∃ k, TruV X.K x H' k ∧ Q k H') := by
 intro pins s σ H Q I h
 exact isTrue_plain (thn (ha pins s σ H _ I h) fun v s1 ⟨x, H1, I1, r1, q1⟩ => tru_ok pins s1 σ H1 x v Q I1 r1 q1) (he _)
theorem vals1 {x : V} {us : List Value} (r : Vals [x] us) : ∃ u, us = [u] ∧ RelV x u := by
 cases r with
 | cons r1 r2 => cases r2; exact ⟨_, rfl, r1⟩
theorem vals2 {x y : V} {us : List Value} (r : Vals [x, y] us) : ∃ u w', us = [u, w'] ∧ RelV x u ∧ RelV y w' := by
 cases r with
 | cons r1 r2 =>
  cases r2 with
  | cons r3 r4 => cases r4; exact ⟨_, _, rfl, r1, r3⟩
end
end L2
namespace L2
open PySem PySem.Spec PyProof.Rows
structure ObjM (h : Heap) (x dx C : Addr) (mA : Str → Option Value) : Prop where
 obj : h.get? x = some (PySem.W.instObj C dx)
 ns : h.Ns1 dx mA
 ne : dx ≠ x
theorem lookIn_ns {h : Heap} {dx : Addr} {mA : Str → Option Value} (n : h.Ns1 dx mA) : ∃ od, h.get? dx = some od ∧ ∀ name, PySem.W.lookIn name od = some (mA name) := by
 obtain ⟨o, es, ep, ho, hd, hk, _, hm⟩ := n
 refine ⟨o, ho, fun name => ?_⟩
 have e := hm name
 unfold nsFind findBy at e
 rw [← Array.find?_toList] at e
 unfold PySem.W.lookIn
 rw [hd]
 dsimp only
 split
 ·rename_i y q
  rw [q] at e
  exact congrArg some e
 ·rename_i q
  rw [q] at e
  have a : es.toList.any (·.refKey) = false := by
   rw [List.any_eq_false]
   intro y hy
   obtain ⟨z, t, hkey⟩ := hk y (Array.mem_toList_iff.mp hy)
   simp [DictEntry.refKey, hkey]
  have a' : ¬ es.toList.any (·.refKey) = true := by rw [a]; exact Bool.false_ne_true
  rw [if_neg a']
  exact congrArg some e
theorem ObjM.look {h : Heap} {x dx C : Addr} {mA : Str → Option Value} (I : ObjM h x dx C mA) : ∃ od, PySem.W.InstAt h x (PySem.W.instObj C dx) C (some od) ∧ ∀ name, PySem.W.lookIn name od = some (mA name) :=
 let ⟨od, ho, hl⟩ := lookIn_ns I.ns
 ⟨od, ⟨I.obj, rfl, rfl, ho⟩, hl⟩
section
variable {prog : Program} {w : World} {A : Around} {E : Value → Shared → Prop} {s : Shared} {K : PySem.W.Frag} {x dx C f : Addr} {mA : Str → Option Value} {name : Str} {v : Value}
end
section
variable {P : Program} {w : World} {H H' : Hp} {h h' : Heap} {a C dx : Addr} {fs fs' : List (Str × V)}
theorem ins_get (hok : HOk P w H h) (e : H a = some (.ins C dx fs)) : ∃ mA, ObjM h a dx C mA ∧ (∀ f, RelO (fs.lookup f) (mA f)) ∧ PySem.Within mA (fs.map (·.1)) ∧ fs.length ≤ 1000 ∧ H dx = some (.own a) := by
 obtain ⟨d, z, ne, ob, mA, n, r, q⟩ := (show ObjOk P w H h a (.ins C dx fs) from hok a _ e)
 exact ⟨mA, ⟨ob, n, ne⟩, r, q, z, d⟩
end
structure Cls (K : PySem.W.Frag) (C : Addr) : Prop where
 pg : PySem.W.plainGet K C Str.empty = true
 hd : PySem.W.hasDictIn K C = true
 po : PySem.W.plainOver K C = true
 sa : PySem.W.findIn K (.ref C) "__setattr__" = some (some (.builtin "object.__setattr__"))
theorem Cls.get {K : PySem.W.Frag} {C : Addr} (c : Cls K C) (f : Str) : PySem.W.plainGet K C f = true := c.pg
noncomputable def NoAttr (K : PySem.W.Frag) (C : Addr) (f : Str) : Prop := PySem.W.findIn K (.ref C) f = some none
structure Meth (K : PySem.W.Frag) (C : Addr) (m : Str) (f : Addr) : Prop where
 at_ : PySem.W.findIn K (.ref C) m = some (some (.ref f))
 fn : PySem.W.isFn K (.ref f) = true
 kp : PySem.W.keepIn K (.ref f) = true
section
variable {X : Cx} {pins : List (Addr × Obj)} {σ : St} {H : Hp} {s : Shared} {a C dx : Addr} {fs : List (Str × V)} {f : Str} {v : V} {A : Around} {E : Value → Shared → Prop}
theorem attr_of {prog : Program} {w : World} {env : Env} {e : Expr} {f : Str} {pos : Pos} {s : Shared} {Q : Value → Shared → Prop} (hb : attributeBase e f env (eval e env) = eval e env)
  (h : wpAny (model prog w) A (eval e env) (fun o s₁ => wpAny (model prog w) A (getAttr o f true) Q E s₁) E s) : wpAny (model prog w) A (eval (.Attribute e f pos) env) Q E s :=
 Attribute_any_ h (by rw [arm_eval_Attribute, hb])
end
section
variable {X : Cx} {o e value : Expr} {f : Str} {pos pos' tpos : Pos} {ta tv : TE}
end
section
variable {X : Cx} {pins : List (Addr × Obj)} {σ : St} {H : Hp} {s : Shared} {A : Around} {E : Value → Shared → Prop} {Q : Value → Shared → Prop} {c : Value} {b : Bool}
inductive TyOf (K : PySem.W.Frag) (H : Hp) : V → Value → Prop where
 | non : TyOf K H .non (.type "NoneType")
 | bl (x : Bool) : TyOf K H (.bl x) (.type "bool")
 | int (i : Int) : TyOf K H (.int i) (.type "int")
 | str (x : Str) : TyOf K H (.str x) (.type "str")
 | flt (x : UInt64) : TyOf K H (.flt x) (.type "float")
 | lst {a : Addr} {xs : List V} (e : H a = some (.lst xs)) : TyOf K H (.ref a) (.type "list")
 | frz {a : Addr} {o : Obj} {xs : List V} (e : H a = some (.frz o (.lst xs))) : TyOf K H (.ref a) (.type "list")
 | tup {a : Addr} {xs : List V} (e : H a = some (.tup xs)) : TyOf K H (.ref a) (.type "tuple")
 | dK {a : Addr} {kvs : List (Key × V)} (e : H a = some (.dK kvs)) : TyOf K H (.ref a) (.type "dict")
 | dT {a : Addr} {kvs : List (List Key × V)} (e : H a = some (.dT kvs)) : TyOf K H (.ref a) (.type "dict")
 | ins {a C dx : Addr} {fs : List (Str × V)} (e : H a = some (.ins C dx fs)) (cl : Cls K C) (ha : PySem.W.findIn K (.ref C) "__class__" = some (some (.builtin "object.__class__")))
   (hn : PySem.W.specialIn K (.builtin "object.__class__") "__get__" = some (some (.builtin "getset_descriptor.__get__"))) (htk : PySem.W.takesIn K (.builtin "object.__class__") = some true)
   (hm : PySem.W.mroIn K C (.type "object") = some true) : TyOf K H (.ref a) (.ref C)
theorem isinst_ok {x : V} {u t : Value} (I : Inv X pins σ H s) (rx : RelV x u) (ty : TyOf X.K H x t) (e : PySem.W.kitOne X.K t c = some b) (h : ∀ tk, Q (.bool b) { s with toks := tk }) :
  wpAny (model X.prog X.w) A (call (.builtin "isinstance") [u, c]) Q E s := by
 cases ty with
 | non => cases (show u = Value.none from rx); exact PySem.W.kia_one PySem.W.kitx_none I.kIn True.intro e (fun z => nomatch z) h
 | bl y => cases (show u = Value.bool y from rx); exact PySem.W.kia_one PySem.W.kitx_bool I.kIn True.intro e (fun z => nomatch z) h
 | int i => obtain ⟨t, q⟩ := (show ∃ t, u = Value.int i t from rx); cases q; exact PySem.W.kia_one PySem.W.kitx_int I.kIn True.intro e (fun z => nomatch z) h
 | str y => obtain ⟨t, q⟩ := (show ∃ t, u = Value.str y t from rx); cases q; exact PySem.W.kia_one PySem.W.kitx_str I.kIn True.intro e (fun z => nomatch z) h
 | flt y => obtain ⟨t, q⟩ := (show ∃ t, u = Value.float y t from rx); cases q; exact PySem.W.kia_one PySem.W.kitx_float I.kIn True.intro e (fun z => nomatch z) h
 | @lst a xs ea =>
  cases (show u = Value.ref a from rx)
  obtain ⟨_, _, n, _, h1⟩ := (show ObjOk X.prog X.w H s.heap a (.lst xs) from I.hok a _ ea)
  exact PySem.W.kia_one PySem.W.kitx_list I.kIn ⟨_, h1, rfl⟩ e (fun z => nomatch z) h
 | @frz a ob xs ea =>
  cases (show u = Value.ref a from rx)
  obtain ⟨_, _, _, n, _, h1⟩ := (show ObjOk X.prog X.w H s.heap a (.frz ob (.lst xs)) from I.hok a _ ea)
  exact PySem.W.kia_one PySem.W.kitx_list I.kIn ⟨_, h1, rfl⟩ e (fun z => nomatch z) h
 | @tup a xs ea =>
  cases (show u = Value.ref a from rx)
  obtain ⟨_, _, _, p⟩ := (show ObjOk X.prog X.w H s.heap a (.tup xs) from I.hok a _ ea)
  obtain ⟨o, h1, h2, _⟩ := p
  exact PySem.W.kia_one PySem.W.kitx_tuple I.kIn ⟨o, h1, h2⟩ e (fun z => nomatch z) h
 | @dK a kvs ea =>
  cases (show u = Value.ref a from rx)
  obtain ⟨_, _, vs, _, p⟩ := (show ObjOk X.prog X.w H s.heap a (.dK kvs) from I.hok a _ ea)
  obtain ⟨o, es, ep, h1, h2, _⟩ := p
  exact PySem.W.kia_one PySem.W.kitx_dict I.kIn ⟨o, h1, h2.1⟩ e (fun z => nomatch z) h
 | @dT a kvs ea =>
  cases (show u = Value.ref a from rx)
  obtain ⟨_, _, xs, _, o, es, ep, h1, h2, _⟩ := (show ObjOk X.prog X.w H s.heap a (.dT kvs) from I.hok a _ ea)
  exact PySem.W.kia_one PySem.W.kitx_dict I.kIn ⟨o, h1, h2.1⟩ e (fun z => nomatch z) h
 | @ins a C dx fs ea cl ha hn htk hm =>
  cases (show u = Value.ref a from rx)
  obtain ⟨mA, O, _⟩ := ins_get I.hok ea
  obtain ⟨od, J, _⟩ := O.look
  exact PySem.W.kia_one (PySem.W.kitx_own (cl.get _) cl.hd ha hn htk hm) I.kIn J e (fun z => nomatch z) h
end
end L2
namespace L2
open PySem PySem.Spec PyProof.Rows
structure Room (k : Nat) (A : Around) : Prop where
 hd : A.handled = none
 dp : A.depth + 3 * k + 5 < recursionLimit
 un : A.units + 16 * k + 200 < cLine
theorem Room.mono {j k : Nat} {A : Around} (r : Room k A) (h : j ≤ k) : Room j A := ⟨r.hd, by have := r.dp; omega, by have := r.un; omega⟩
theorem Room.deeper {k : Nat} {A : Around} (r : Room (k + 1) A) (env : Env) : Room k (A.deeper env) :=
 ⟨r.hd, by have := r.dp; show A.depth + 1 + 3 * k + 5 < _; omega, by have := r.un; show A.units + 3 + 16 * k + 200 < _; omega⟩
theorem Room.in1 {k : Nat} {A : Around} (r : Room (k + 1) A) : Room k A.in1 :=
 ⟨r.hd, by have := r.dp; show A.depth + 3 * k + 5 < _; omega, by have := r.un; show A.units + 1 + 16 * k + 200 < _; omega⟩
theorem make_depth {A : Around} {C : Addr} {us : List Value} {kw : List (Str × Value)} : (A.under (.builtin "type.__call__" ⟨.ref C :: us, kw⟩)).depth = A.depth + 1 := by
 first | rfl | simp [Around.under, Code.weight, Code.isCreation, Code.isGuard, Code.isCaller, Code.frames, Code.isFrame, guardIds]
theorem make_units {A : Around} {C : Addr} {us : List Value} {kw : List (Str × Value)} : (A.under (.builtin "type.__call__" ⟨.ref C :: us, kw⟩)).units = A.units + 1 := by
 first | rfl | simp [Around.under, Code.cUnits, Code.frames, Code.isFrame]
theorem Room.make {k : Nat} {A : Around} (r : Room (k + 1) A) (C : Addr) (us : List Value) (kw : List (Str × Value)) : Room k (A.under (.builtin "type.__call__" ⟨.ref C :: us, kw⟩)) :=
 ⟨r.hd, by have := r.dp; rw [make_depth]; omega, by have := r.un; rw [make_units]; omega⟩
theorem Room.depth {k : Nat} {A : Around} (r : Room k A) : A.depth < recursionLimit := by have := r.dp; omega
theorem Room.units {k : Nat} {A : Around} (r : Room k A) : A.units + 64 < cLine := by have := r.un; omega
noncomputable def tNil : TA := fun _ H Q => Q [] H
noncomputable def tCons (ta : TE) (tr : TA) : TA := fun σ H Q => ta σ H fun x H1 => tr σ H1 fun xs H2 => Q (x :: xs) H2
section
variable {X : Cx} {e : Expr} {es : List Expr} {te : TE} {t : TA} {pos : Pos}
theorem pa_nil : PA X [] tNil := fun _ _ _ _ H Q I h => Calls.spliced_nil ⟨[], H, I, .nil, h⟩
theorem pa_cons (ha : PE X e te) (hr : PA X es t) (hs : starEach (e :: es) X.env = (false, eval e X.env) :: starEach es X.env := by rfl) : PA X (e :: es) (tCons te t) := by
 intro pos pins s σ H Q I h
 rw [hs]
 show wpAny _ _ (spliced ((false, eval e X.env) :: backTo pos (starEach es X.env))) _ _ s
 refine Calls.spliced_cons (thn (ha pins s σ H _ I h) fun u s1 ⟨x, H1, I1, r1, q1⟩ => ?_)
 exact thn (hr pos pins s1 σ H1 _ I1 q1) fun us s2 ⟨xs, H2, I2, r2, q2⟩ => ⟨x :: xs, H2, I2, .cons r1 r2, q2⟩
noncomputable def tTup (t : TA) : TE := fun σ H Q => t σ H fun xs H1 => xs.length ≤ sizeLine ∧ ∀ p, H1 p = none → Q (.ref p) (upd H1 p (.tup xs))
noncomputable def tLst (t : TA) : TE := fun σ H Q => t σ H fun xs H1 => xs.length ≤ sizeLine ∧ ∀ p, H1 p = none → Q (.ref p) (upd H1 p (.lst xs))
theorem pe_tup {x1} (h : PA X es t) : PE X (.Tuple es x1 pos) (tTup t) := by
 intro pins s σ H Q I hq
 refine wpAny_Tuple_spliced (thn (h pos pins s σ H _ I hq) fun us s1 ⟨xs, H1, I1, r, z, q⟩ => ⟨by rw [← r.length]; exact z, ?_⟩)
 have hf : H1 s1.heap.objs.size = none := I1.hok.fresh (Nat.le_refl _)
 refine ⟨.ref s1.heap.objs.size, upd H1 s1.heap.objs.size (.tup xs), I1.laid (t' := s1.toks) (fun b u e => Heap.get?_push_of_some _ e) (Nat.le_refl _) ?_, rfl, q _ hf⟩
 exact ⟨z, us, r, ⟨_, Heap.get?_push_size _ rfl, rfl, _, rfl⟩⟩
theorem pe_lst (h : PA X es t) : PE X (.List es pos) (tLst t) := by
 intro pins s σ H Q I hq
 refine wpAny_List_spliced (thn (h pos pins s σ H _ I hq) fun us s1 ⟨xs, H1, I1, r, z, q⟩ => ⟨by rw [← r.length]; exact z, ?_⟩)
 have hf : H1 s1.heap.objs.size = none := I1.hok.fresh (Nat.le_refl _)
 refine ⟨.ref s1.heap.objs.size, upd H1 s1.heap.objs.size (.lst xs), I1.laid (t' := s1.toks) (fun b u e => Heap.get?_push_of_some _ e) (Nat.le_refl _) ?_, rfl, q _ hf⟩
 exact ⟨z, us, 0, r, Heap.get?_push_size _ rfl⟩
end
noncomputable abbrev Sp := List V → Hp → VK → XK → Prop
noncomputable abbrev CXT := List Env → Hp → Shared → XK → Value → Shared → Prop
structure Env0 (P : Program) (w : World) (K : PySem.W.Frag) (mg : Str → Option Value) (base : Heap) (A : Around) (outer : List Env) (s : Shared) (H : Hp) : Prop where
 frames : A.frames = some outer
 mod : Mod K mg base
 bs : ∀ b o, base.get? b = some o → s.heap.get? b = some o ∧ H b = none
 bsz : base.objs.size ≤ s.heap.objs.size
 funs : s.heap.FunFrames base outer
 frf : ∀ b ∈ frs outer, H b = none
 hok : HOk P w H s.heap
 bare : AllBare s.gens
noncomputable def CE (outer : List Env) (P : Program) (w : World) (H : Hp) (s : Shared) (Q : VK) (u : Value) (s' : Shared) : Prop :=
 ∃ v H', s'.os = s.os ∧ AllBare s'.gens ∧ Un (frs outer) [] H H' s.heap s'.heap ∧ HOk P w H' s'.heap ∧ RelV v u ∧ Q v H'
noncomputable def CR (CX : CXT) (outer : List Env) (P : Program) (w : World) (H : Hp) (s : Shared) (Q : VK) (E : XK) (r : Result) (s' : Shared) : Prop :=
 match r with
 | .ok (.ret u) => CE outer P w H s Q u s'
 | .ok _ => False
 | .error e => CX outer H s E e s'
structure FnOk (P : Program) (w : World) (K : PySem.W.Frag) (mg : Str → Option Value) (base : Heap) (CX : CXT) (k : Nat) (f : Addr) (fd : FuncData) (ps : List Str) (sp : Sp) : Prop where
 len : ∀ vs H Q E, sp vs H Q E → vs.length = ps.length
 run : ∀ (A : Around) (outer : List Env) (s : Shared) (H : Hp) (args : Args) (us : List Value) (vs : List V) (Q : VK) (E : XK), Room k A → Env0 P w K mg base A outer s H → BindsTo s fd args (ps.zip us) → Vals vs us → sp vs H Q E →
  codeAny (model P w) A (.call (.ref f) args) (CR CX outer P w H s Q E) s
theorem FnOk.mono {P : Program} {w : World} {K : PySem.W.Frag} {mg : Str → Option Value} {base : Heap} {CX : CXT} {j k : Nat} {f : Addr} {fd : FuncData} {ps : List Str} {sp : Sp} (F : FnOk P w K mg base CX j f fd ps sp) (h : j ≤ k) :
  FnOk P w K mg base CX k f fd ps sp := ⟨F.len, fun A outer s H args us vs Q E hr => F.run A outer s H args us vs Q E (hr.mono h)⟩
theorem Env0.make {P : Program} {w : World} {K : PySem.W.Frag} {mg : Str → Option Value} {base : Heap} {A : Around} {outer : List Env} {s : Shared} {H : Hp} (e : Env0 P w K mg base A outer s H) (C : Addr) (us : List Value) (kw : List (Str × Value)) :
  Env0 P w K mg base (A.under (.builtin "type.__call__" ⟨.ref C :: us, kw⟩)) outer s H := ⟨by first | exact e.frames | (simpa [Around.under, Code.envs, Code.isFrame, pushEnvs] using e.frames), e.mod, e.bs, e.bsz, e.funs, e.frf, e.hok, e.bare⟩
section
variable {X : Cx} {pins : List (Addr × Obj)} {σ : St} {H : Hp} {s s' : Shared}
theorem Inv.env0 (I : Inv X pins σ H s) : Env0 X.prog X.w X.K X.mg X.base X.A X.stack s H :=
 ⟨I.ok.frames, I.ok.mod, I.bs, Nat.le_trans I.ok.bsz I.sz, I.stack, I.stkFree, I.hok, I.bare⟩
theorem Inv.after {Q : VK} {u : Value} (I : Inv X pins σ H s) (h : CE X.stack X.prog X.w H s Q u s') : EP X pins σ Q u s' := by
 obtain ⟨v, H', os, bare, un, hok, r, q⟩ := h
 obtain ⟨hh, g, d, t, os'⟩ := s'
 obtain rfl : os' = s.os := os
 exact ⟨v, H', I.call (h' := hh) (g' := g) (d' := d) (t' := t) (ch := []) un hok bare (fun b z => absurd z (by simp)), r, q⟩
end
noncomputable def tCall (sp : Sp) (dvs : List V) (E : XK) (t : TA) : TE := fun σ H Q => t σ H fun vs H1 => sp (vs ++ dvs) H1 Q E
noncomputable def Binds (K : PySem.W.Frag) (fd : FuncData) (ps : List Str) (ds : List Value) : Prop :=
 ∀ (s : Shared) (us : List Value), K.In s.heap → (us ++ ds).length = ps.length → BindsTo s fd ⟨us, []⟩ (ps.zip (us ++ ds))
theorem Binds.all {K : PySem.W.Frag} {fd : FuncData} {ps : List Str} (h : ∀ us : List Value, us.length = ps.length → bindArgs fd ⟨us, []⟩ = pure (ps.zip us)) : Binds K fd ps [] := fun s us _ hl => by
 rw [List.append_nil] at hl ⊢
 exact .of_eq (h us hl)
noncomputable def Passes (CX : CXT) (X : Cx) (E : XK) : Prop := ∀ (pins : List (Addr × Obj)) (σ : St) (H : Hp) (s : Shared) (e : Value) (s' : Shared), Inv X pins σ H s → CX X.stack H s E e s' → X.xe e s'
section
variable {X : Cx} {CX : CXT} {k : Nat} {f C : Addr} {fd : FuncData} {ps : List Str} {sp : Sp} {dvs : List V} {ds : List Value} {E : XK} {x m : Str} {p pos apos : Pos} {e o : Expr} {es : List Expr} {ta : TE} {t : TA}
theorem run_fn {pins : List (Addr × Obj)} {σ : St} {H : Hp} {s : Shared} {Q : VK} {us : List Value} {vs : List V} (F : FnOk X.prog X.w X.K X.mg X.base CX k f fd ps sp) (hr : Room k X.A) (hb : Binds X.K fd ps ds) (hd : Vals dvs ds) (hx : Passes CX X E)
  (I : Inv X pins σ H s) (r : Vals vs us) (h : sp (vs ++ dvs) H Q E) : wpAny (model X.prog X.w) X.A (call (.ref f) us) (EP X pins σ Q) X.xe s := by
 have r2 : Vals (vs ++ dvs) (us ++ ds) := r.append hd
 have hl : (us ++ ds).length = ps.length := by rw [← r2.length]; exact F.len _ _ _ _ h
 refine wpAny_call (codeAny_mono (F.run X.A X.stack s H ⟨us, []⟩ (us ++ ds) (vs ++ dvs) Q E hr I.env0 (hb s us I.kIn hl) r2 h) fun r s' hq => ?_)
 cases r with
 | error e => exact hx pins σ H s e s' I hq
 | ok fl =>
  cases fl with
  | ret u => exact I.after hq
  | next => exact False.elim hq
  | brk => exact False.elim hq
  | cont => exact False.elim hq
theorem pe_call (F : FnOk X.prog X.w X.K X.mg X.base CX k f fd ps sp) (hr : Room k X.A) (hg : Gl X x) (hm : X.mg x = some (.ref f)) (hk : PySem.W.keepIn X.K (.ref f) = true) (hb : Binds X.K fd ps ds) (hd : Vals dvs ds) (hx : Passes CX X E)
  (ha : PA X (e :: es) t) (hdb : (x == ("__debug__" : Str)) = false := by decide) (he : starEach (e :: es) X.env = (false, eval e X.env) :: starEach es X.env := by rfl) (hpl : (backTo pos (starEach es X.env)).any (·.1) = false := by rfl) :
  PE X (.Call (.Name x p) (e :: es) [] pos) (tCall sp dvs E t) := by
 intro pins s σ H Q I h
 refine wpAny_Call_Name_kw (ld_glob I hg hm ?_ hdb)
 refine PySem.W.callWith_K (h₀ := X.base) I.ok.mod.kin hk (thn (ha pos pins s σ H _ I h) fun us s1 ⟨vs, H1, I1, r, q⟩ => ⟨I1.kIn, ?_⟩) he hpl
 exact run_fn F hr hb hd hx I1 r q
structure Mk (K : PySem.W.Frag) (C f : Addr) : Prop where
 makes : PySem.W.makesIn K C = true
 init : PySem.W.findIn K (.ref C) "__init__" = some (some (.ref f))
 fn : PySem.W.isFn K (.ref f) = true
 kp : PySem.W.keepIn K (.ref C) = true
end
section
variable {X : Cx} {CX : CXT} {k : Nat} {f C : Addr} {fd : FuncData} {ps ks : List Str} {sp : Sp} {E : XK} {x m : Str} {p pos apos kpos : Pos} {e o : Expr} {es : List Expr} {kws : List Keyword} {te ta : TE} {t tk : TA} {nm : Option Str}
variable {g : List Value → List Value → List Value} {gV : List V → List V → List V}
end
structure FnScope (N P : List Str) (sc : Scope) : Prop where
 kind : sc.kind = .function
 co : sc.isCoroutine = false
 gen : sc.isGenerator = false
 nd : N.Nodup
 pre : N.take P.length = P
 par : ∀ x ∈ P, sc.names.lookup x = some .local ∨ sc.names.lookup x = some .cell
 nofree : ∀ y ∈ sc.names, y.2 ≠ .free
theorem bindL_out {kindOf : Str → Option NameKind} {x : Str} : ∀ {binds : List (Str × Value)} {m : Str → Option Value}, (∀ v, (x, v) ∉ binds) → bindL kindOf binds m x = m x
 | [], _, _ => rfl
 | (n, v) :: r, m, h => by
  unfold bindL
  rw [bindL_out fun w hw => h w (List.mem_cons_of_mem _ hw)]
  split
  ·have : x ≠ n := by rintro rfl; exact h v List.mem_cons_self
   simp [this]
  ·rfl
theorem bindC_out {kindOf : Str → Option NameKind} {x : Str} : ∀ {binds : List (Str × Value)} {m : Str → Option Value}, (∀ v, (x, v) ∉ binds) → bindC kindOf binds m x = m x
 | [], _, _ => rfl
 | (n, v) :: r, m, h => by
  unfold bindC
  rw [bindC_out fun w hw => h w (List.mem_cons_of_mem _ hw)]
  split
  ·rfl
  ·have : x ≠ n := by rintro rfl; exact h v List.mem_cons_self
   simp [this]
theorem bindL_get {kindOf : Str → Option NameKind} {x : Str} {v : Value} : ∀ {P : List Str} {vs : List Value} {i : Nat} {m : Str → Option Value}, P.Nodup → P[i]? = some x → vs[i]? = some v → kindOf x = some .local →
  bindL kindOf (P.zip vs) m x = some v
 | [], _, _, _, _, h, _, _ => by simp at h
 | _ :: _, [], _, _, _, _, h, _ => by simp at h
 | p :: P, w :: vs, 0, m, nd, h1, h2, hk => by
  simp at h1 h2; subst h1; subst h2
  show bindL kindOf ((p, w) :: P.zip vs) m p = _
  unfold bindL
  rw [bindL_out fun v hv => (List.nodup_cons.mp nd).1 (List.of_mem_zip hv).1, if_pos hk]
  simp
 | p :: P, w :: vs, i + 1, m, nd, h1, h2, hk => by
  show bindL kindOf ((p, w) :: P.zip vs) m x = _
  unfold bindL
  exact bindL_get (i := i) (List.nodup_cons.mp nd).2 (by simpa using h1) (by simpa using h2) hk
theorem bindC_get {kindOf : Str → Option NameKind} {x : Str} {v : Value} : ∀ {P : List Str} {vs : List Value} {i : Nat} {m : Str → Option Value}, P.Nodup → P[i]? = some x → vs[i]? = some v → kindOf x ≠ some .local →
  bindC kindOf (P.zip vs) m x = some v
 | [], _, _, _, _, h, _, _ => by simp at h
 | _ :: _, [], _, _, _, _, h, _ => by simp at h
 | p :: P, w :: vs, 0, m, nd, h1, h2, hk => by
  simp at h1 h2; subst h1; subst h2
  show bindC kindOf ((p, w) :: P.zip vs) m p = _
  unfold bindC
  rw [bindC_out fun v hv => (List.nodup_cons.mp nd).1 (List.of_mem_zip hv).1, if_neg hk]
  simp
 | p :: P, w :: vs, i + 1, m, nd, h1, h2, hk => by
  show bindC kindOf ((p, w) :: P.zip vs) m x = _
  unfold bindC
  exact bindC_get (i := i) (List.nodup_cons.mp nd).2 (by simpa using h1) (by simpa using h2) hk
noncomputable def start (N : List Str) (vs : List V) : St := vs.map some ++ List.replicate (N.length - vs.length) none
noncomputable def cxOf (CX : CXT) (P : Program) (w : World) (K : PySem.W.Frag) (mg : Str → Option Value) (base : Heap) (N : List Str) (qual : Str) (scope : Scope) (f : Addr) (cd : Value) (A : Around) (outer : List Env) (s : Shared) (H : Hp) (E : XK) : Cx where
 prog := P
 w := w
 K := K
 mg := mg
 base := base
 A := A.deeper (envOfC qual scope s.heap.objs.size f cd)
 N := N
 s₀ := s
 H₀ := H
 env := envOfC qual scope s.heap.objs.size f cd
 outer := outer
 stack := envOfC qual scope s.heap.objs.size f cd :: outer
 ex := []
 calm := true
 fn := fun _ => true
 pn := []
 xe := fun e s' => wpAny (model P w) (A.deeper (envOfC qual scope s.heap.objs.size f cd)) (leaving (envOfC qual scope s.heap.objs.size f cd) e) (fun _ s'' => CX outer H s E e s'') (fun e' s'' => CX outer H s E e' s'') s'
theorem cell_has {sc : Scope} {n : Nat} {x : Str} (h : sc.names.lookup x = some .cell) : ∃ c, (cellsFrom n sc.names []).lookup x = some c := by
 have q := PySem.W.cellsFrom_some sc.names n [] (.inl h)
 exact Option.isSome_iff_exists.mp q
theorem inv_start {CX : CXT} {P : Program} {w : World} {K : PySem.W.Frag} {mg : Str → Option Value} {base : Heap} {N ps : List Str} {qual : Str} {scope : Scope} {f : Addr} {cd : Value} {A : Around} {outer : List Env} {s s1 : Shared} {H : Hp} {E : XK} {us : List Value} {vs : List V}
  (S : FnScope N ps scope) (hd : A.handled = none) (e0 : Env0 P w K mg base A outer s H) (hl : vs.length = ps.length) (r : Vals vs us)
  (x : InCallC s s.heap.objs.size (bindL (envOfC qual scope s.heap.objs.size f cd).kindOf (ps.zip us) fun _ => none) (cellsFrom (s.heap.objs.size + 1) scope.names []) (bindC (envOfC qual scope s.heap.objs.size f cd).kindOf (ps.zip us) fun _ => none) s1) :
  Inv (cxOf CX P w K mg base N qual scope f cd A outer s H E) [] (start N vs) H s1 := by
 have hpl : ps.length ≤ N.length := by have := congrArg List.length S.pre; rw [List.length_take] at this; omega
 obtain ⟨h1, tk, rfl, hk⟩ := x.done
 have noA : ∀ b : Addr, b ∉ (cxOf CX P w K mg base N qual scope f cd A outer s H E).ex := fun b z => absurd (show b ∈ ([] : List Addr) from z) (by simp)
 refine ⟨⟨e0.mod, S.kind, rfl, rfl, Nat.le_refl _, fun y z c h1 h2 => ?_, fun y hy => ?_, fun y c _ h => ?_, fun _ => hd, Around.frames_deeper e0.frames, .inr ⟨rfl, rfl⟩, fun b z => absurd z (noA b), e0.bs, e0.bsz, fun b _ _ => noA b, fun b z => absurd z (noA b), e0.funs, e0.frf⟩,
  rfl, e0.bare, Un.kept hk, ⟨_, x.toInCall.ns, fun i y v h1 h2 h3 => ?_⟩, fun y c h => ⟨_, x.cell y c h⟩, e0.hok.fresh (Nat.le_refl _), fun y c h => ?_, fun p hp => absurd (show p ∈ ([] : List (Addr × Obj)) from hp) (by simp), e0.hok.kept hk, ?_⟩
 ·exact name_of_addr x.apart (PySem.mem_of_lookup h1) (PySem.mem_of_lookup h2)
 ·have hy : scope.names.lookup y = some .cell ∨ scope.names.lookup y = some .free := hy
  rcases hy with hy | hy
  ·exact cell_has hy
  ·exact absurd rfl (S.nofree _ (PySem.mem_of_lookup hy))
 ·exact Nat.le_of_lt (x.above y c (PySem.mem_of_lookup h))
 ·have hi : i < vs.length := by
   unfold start at h2
   by_cases hi : i < vs.length
   ·exact hi
   ·rw [List.getElem?_append_right (by simpa using hi)] at h2
    rw [List.getElem?_replicate] at h2
    split at h2 <;> cases h2
  have ha : vs[i]? = some v := by
   unfold start at h2
   rw [List.getElem?_append_left (by simpa using hi), List.getElem?_map] at h2
   cases e : vs[i]? with
   | none => rw [e] at h2; cases h2
   | some a => rw [e] at h2; cases h2; rfl
  obtain ⟨u, hu, rv⟩ := r.get ha
  have hp : ps[i]? = some y := by
   rw [← S.pre, List.getElem?_take_of_lt (by omega)]; exact h1
  have ndP : ps.Nodup := by rw [← S.pre]; exact S.nd.sublist (List.take_sublist _ _)
  refine ⟨u, rv, ?_⟩
  rcases S.par y (List.mem_of_getElem? hp) with k | k
  ·exact .inl ⟨k, bindL_get ndP hp hu k⟩
  ·obtain ⟨c, e⟩ := cell_has (n := s.heap.objs.size + 1) k
   refine .inr ⟨.inl k, c, e, ?_⟩
   have q := x.cell y c e
   rw [bindC_get ndP hp hu (by show scope.names.lookup y ≠ _; rw [k]; decide)] at q
   exact q
 ·exact e0.hok.fresh (Nat.le_of_lt (x.above y c (PySem.mem_of_lookup h)))
 ·unfold start
  show _ = N.length
  rw [List.length_append, List.length_map, List.length_replicate]
  omega
theorem fn_of {CX : CXT} {P : Program} {w : World} {K : PySem.W.Frag} {mg : Str → Option Value} {base : Heap} {k : Nat} {f : Addr} {name qual : Str} {params : Arguments} {body : List Stmt} {scope : Scope} {dV kV doc pm cdv ct oc : Value} {an od : Option Addr}
  {osl : Array (Option Value)} {N ps : List Str} {sp : Sp} (lk : K.lookup f = some ⟨oc, od, .func (PySem.W.fnOf name qual params body scope dV kV doc pm an cdv ct), osl⟩) (hcd : PySem.W.codeIn K cdv qual = true) (S : FnScope N ps scope)
  (len : ∀ vs H Q E, sp vs H Q E → vs.length = ps.length)
  (hbody : ∀ (A : Around) (outer : List Env) (s : Shared) (H : Hp) (vs : List V) (Q : VK) (E : XK), Room k (A.deeper (envOfC qual scope s.heap.objs.size f cdv)) → sp vs H Q E →
   ∃ t, PSs (cxOf CX P w K mg base N qual scope f cdv A outer s H E) body t ∧ t { nx := fun _ H' => Q .non H', rt := Q } (start N vs) H) :
  FnOk P w K mg base CX (k + 1) f (PySem.W.fnOf name qual params body scope dV kV doc pm an cdv ct) ps sp := by
 refine ⟨len, fun A outer s H args us vs Q E hr e0 hb r hsp => ?_⟩
 have hl := len _ _ _ _ hsp
 have KX : K.In s.heap := e0.mod.kin.keeps fun b o e => (e0.bs b o e).1
 have lim : s.heap.NoLimit := e0.mod.nolimit.keeps fun b o e => (e0.bs b o e).1
 have hkind : ∀ y ∈ ps.zip us, scope.names.lookup y.1 = some .local ∨ (scope.names.lookup y.1 = some .cell ∧ ((cellsFrom (s.heap.objs.size + 1) scope.names []).lookup y.1).isSome = true) := fun ⟨n, v⟩ hy => by
  rcases S.par n (List.of_mem_zip hy).1 with q | q
  ·exact .inl q
  ·exact .inr ⟨q, PySem.W.cellsFrom_some _ _ _ (.inl q)⟩
 refine codeAny_call_function hr.depth (KX _ _ lk) rfl S.co S.gen rfl (PySem.W.codeRec_of KX hcd) (hb _ _ _ _ ?_)
 refine wpAny_newFunctionEnv_cells S.kind hkind fun env he s1 x => ?_
 subst he
 refine ⟨lim.keeps x.toInCall.keep, codeAny_func ?_⟩
 obtain ⟨t, ht, hq⟩ := hbody A outer s H vs Q E (hr.deeper _) hsp
 have I : Inv (cxOf CX P w K mg base N qual scope f cdv A outer s H E) [] (start N vs) H s1 := inv_start S hr.hd e0 hl r x
 refine wpAny_mono (ht [] s1 (start N vs) H _ I hq) (fun fl s' hs => ?_) fun e s' hs => hs
 have fin : ∀ {σ' : St} {H' : Hp} {v : V} {u : Value}, Inv (cxOf CX P w K mg base N qual scope f cdv A outer s H E) [] σ' H' s' → RelV v u → Q v H' → CE outer P w H s Q u s' :=
  fun {σ' H' v u} J rv q => ⟨v, H', J.os, J.bare, J.base, J.hok, rv, q⟩
 cases fl with
 | ret u =>
  obtain ⟨v, σ', H', J, rv, q⟩ := hs
  exact fin J rv q
 | next =>
  obtain ⟨σ', H', J, q⟩ := hs
  exact fin (v := V.non) (u := Value.none) J rfl q
 | brk =>
  obtain ⟨_, _, _, q⟩ := hs
  exact False.elim q
 | cont =>
  obtain ⟨_, _, _, q⟩ := hs
  exact False.elim q
end L2
namespace L2
open PySem PySem.Spec PyProof.Rows
section
variable {X : Cx} {x : Str} {p pos : Pos} {e : Expr} {es : List Expr} {t : TA} {id T : String} {r : List V → Hp → VK → Prop}
noncomputable def tCB (r : List V → Hp → VK → Prop) (t : TA) : TE := fun σ H Q => t σ H fun vs H1 => r vs H1 Q
theorem pe_callB (hc : CallR X (.builtin id) r) (hg : Gl X x) (hm : X.mg x = none) (hv : bootBuiltins x = some (.builtin id)) (ha : PA X (e :: es) t) (hn : x ≠ "__name__" := by decide) (hdb : (x == ("__debug__" : Str)) = false := by decide)
    (he : starEach (e :: es) X.env = (false, eval e X.env) :: starEach es X.env := by rfl) (hpl : (backTo pos (starEach es X.env)).any (·.1) = false := by rfl) : PE X (.Call (.Name x p) (e :: es) [] pos) (tCB r t) := by
  intro pins s σ H Q I h
  refine wpAny_Call_Name_kw (ld_blt I hg hm hv ?_ hn hdb)
  exact PyProof.Rows.callWith_builtin1 (thn (ha pos pins s σ H _ I h) fun us s1 ⟨vs, H1, I1, r1, q1⟩ => hc pins s1 σ H1 vs us Q I1 r1 q1) he hpl
theorem pe_callTy (hc : CallR X (.type T) r) (hg : Gl X x) (hm : X.mg x = none) (hv : bootBuiltins x = some (.type T)) (ha : PA X (e :: es) t) (hn : x ≠ "__name__" := by decide) (hdb : (x == ("__debug__" : Str)) = false := by decide)
    (he : starEach (e :: es) X.env = (false, eval e X.env) :: starEach es X.env := by rfl) (hpl : (backTo pos (starEach es X.env)).any (·.1) = false := by rfl) : PE X (.Call (.Name x p) (e :: es) [] pos) (tCB r t) := by
  intro pins s σ H Q I h
  refine wpAny_Call_Name_kw (ld_blt I hg hm hv ?_ hn hdb)
  exact PyProof.Rows.callWith_type1 (thn (ha pos pins s σ H _ I h) fun us s1 ⟨vs, H1, I1, r1, q1⟩ => hc pins s1 σ H1 vs us Q I1 r1 q1) he hpl
end
end L2
namespace HT
open PySem PyProof.Rows
section
open PySem.SeqAt
open PySem.AutoSeq1 (wpAny_loadPart')
open PySem.MeetsSeq PySem.MeetsSeq2 PySem.MeetsSeq3
end
section
variable {prog : Program} {w : World} {A : Around} {E : Value → Shared → Prop} {s : Shared}
theorem cat_tup {t b : Addr} {vs ws : List Value} {Q : Value → Shared → Prop} (ht : IsTup s.heap t vs.toArray) (hb : IsTup s.heap b ws.toArray) (hv : vs ≠ [])
  (h1 : ws = [] → Q (.ref t) s) (h2 : ws ≠ [] → Q (.ref s.heap.objs.size) { s with heap := s.heap.push { cls := .type "tuple", data := .seq (vs ++ ws).toArray } })
  (hsz : vs.length + ws.length ≤ sizeLine) : wpAny (model prog w) A (binaryOp .Add (.ref t) (.ref b)) Q E s := by
 obtain ⟨⟨cls, dd, data, sl⟩, ho, hc, n, hd⟩ := id ht
 obtain ⟨⟨cls2, dd2, data2, sl2⟩, ho2, hc2, n2, hd2⟩ := id hb
 simp only at hc hd hc2 hd2
 subst hc hd hc2 hd2
 have e : vs.toArray ++ ws.toArray = (vs ++ ws).toArray := by simp
 by_cases hw : ws = []
 ·exact concat_meets ⟨_, ho, rfl⟩ ⟨_, ho2, rfl⟩ noFill_tuple_add seq_tuple_add PySem.F.slot_tuple_add PySem.F.entry_tuple_add (PySem.F.args_tuple_add_2 _ _)
   (tuple_addW1 t b vs.toArray ws.toArray n n2 dd dd2 sl sl2 (by simpa using hv) (by simp [hw])) ⟨ho, ho2, h1 hw⟩
 ·refine concat_meets ⟨_, ho, rfl⟩ ⟨_, ho2, rfl⟩ noFill_tuple_add seq_tuple_add PySem.F.slot_tuple_add PySem.F.entry_tuple_add (PySem.F.args_tuple_add_2 _ _)
   (tuple_addW2 t b vs.toArray ws.toArray n n2 dd dd2 sl sl2 (by simpa using hv) (by simpa using hw) (by rw [List.size_toArray, List.size_toArray]; exact hsz)) ⟨ho, ho2, ?_⟩
  rw [e]
  exact h2 hw
noncomputable def sIx (n d : Nat) : Option Int → Nat
 | none => d
 | some v => if v < 0 then (v + (n : Int)).toNat else min v.toNat n
end
end HT
namespace L2
open PySem PySem.Spec PyProof.Rows
noncomputable abbrev TO := St → Hp → (Option Int → Hp → Prop) → Prop
noncomputable def PO (X : Cx) (e : Option Expr) (t : TO) : Prop :=
 ∀ (pins : List (Addr × Obj)) (s : Shared) (σ : St) (H : Hp) (Q : Option Int → Hp → Prop), Inv X pins σ H s → t σ H Q →
  wpAny (model X.prog X.w) X.A (evalPart e X.env) (fun u s' => ∃ o H', Inv X pins σ H' s' ∧ IsPart u o ∧ Q o H') X.xe s
noncomputable def tNoPart : TO := fun _ H Q => Q none H
noncomputable def tPart (t : TE) : TO := fun σ H Q => t σ H fun x H1 => ∃ i, x = .int i ∧ Q (some i) H1
section
variable {X : Cx} {e : Expr} {te : TE} {lo hi : Option Expr} {tl th : TO} {pos p2 : Pos}
theorem po_none : PO X none tNoPart := by
 intro pins s σ H Q I h
 rw [evalPart_none]
 exact wpAny_pure ⟨none, H, I, .none, h⟩
theorem po_some (h : PE X e te) : PO X (some e) (tPart te) := by
 intro pins s σ H Q I hw
 rw [evalPart_some]
 refine thn (h pins s σ H _ I hw) fun u s1 ⟨x, H1, I1, r1, q1⟩ => ?_
 obtain ⟨i, rfl, q⟩ := q1
 obtain ⟨t, rfl⟩ := r1
 exact ⟨some i, H1, I1, .int i t, q⟩
noncomputable def SlR (X : Cx) (r : V → Option Int → Option Int → Hp → VK → Prop) : Prop :=
 ∀ (pins : List (Addr × Obj)) (s : Shared) (σ : St) (H : Hp) (x : V) (v vl vu : Value) (lo hi : Option Int) (sl : Addr) (Q : VK), Inv X pins σ H s → RelV x v → s.heap.IsSliceOf sl vl vu .none → IsPart vl lo → IsPart vu hi → r x lo hi H Q →
  ∃ T id, typeLookup (.type T) "__getitem__" = pure (some (.builtin id)) ∧ s.TypeIs v T ∧ wpAny (model X.prog X.w) X.A (getItem v (.ref sl)) (EP X pins σ Q) X.xe s
noncomputable def tSl (r : V → Option Int → Option Int → Hp → VK → Prop) (te : TE) (tl th : TO) : TE := fun σ H Q => te σ H fun x H1 => tl σ H1 fun l H2 => th σ H2 fun u H3 => r x l u H3 Q
theorem pe_slice {r : V → Option Int → Option Int → Hp → VK → Prop} (hr : SlR X r) (he : PE X e te) (hl : PO X lo tl) (hu : PO X hi th) : PE X (.Subscript e (.Slice lo hi none p2) pos) (tSl r te tl th) := by
 intro pins s σ H Q I h
 refine Subscript_ (thn (he pins s σ H _ I h) fun v s1 ⟨x, H1, I1, r1, q1⟩ => ?_)
 refine wpAny_Slice (thn (hl pins s1 σ H1 _ I1 q1) fun vl s2 ⟨l, H2, I2, pl, q2⟩ => thn (hu pins s2 σ H2 _ I2 q2) fun vu s3 ⟨u, H3, I3, pu, q3⟩ => ?_)
 rw [evalPart_none]
 refine wpAny_pure ?_
 have I4 : Inv X pins σ H3 { s3 with heap := s3.heap.push { cls := .type "slice", data := .fields #[vl, vu, .none] } } := I3.kept (t' := s3.toks) fun b ob q => Heap.get?_push_of_some _ q
 obtain ⟨T, id, hT, ht, hg⟩ := hr pins { s3 with heap := s3.heap.push { cls := .type "slice", data := .fields #[vl, vu, .none] } } σ H3 x v vl vu l u s3.heap.objs.size Q I4 r1 (Heap.IsSliceOf.new ..) pl pu q3
 show wpAny (model X.prog X.w) X.A (subscriptTail e (.Slice lo hi none p2) v (.ref s3.heap.objs.size)) (EP X pins σ Q) X.xe { s3 with heap := s3.heap.push { cls := .type "slice", data := .fields #[vl, vu, .none] } }
 exact tail_any (ops := [.ref s3.heap.objs.size, v]) ht hT hg (by with_unfolding_all rfl)
noncomputable def cutV (xs : List V) (lo hi : Option Int) : List V := (xs.drop (HT.sIx xs.length 0 lo)).take (HT.sIx xs.length xs.length hi - HT.sIx xs.length 0 lo)
theorem cutV_length (xs : List V) (lo hi : Option Int) : (cutV xs lo hi).length ≤ xs.length := by
 unfold cutV
 rw [List.length_take, List.length_drop]
 omega
theorem Vals.nil_iff {xs : List V} {us : List Value} (r : Vals xs us) : us = [] ↔ xs = [] := by
 cases r with
 | nil => simp
 | cons _ _ => simp
end
end L2
namespace L2
open PySem PySem.Spec PyProof.Rows
noncomputable def ixN (n : Nat) (i : Int) : Option Nat := if 0 ≤ i then (if i < n then some i.toNat else none) else if -(n : Int) ≤ i then some (i + n).toNat else none
noncomputable def atI {α : Type} (xs : List α) (i : Int) : Option α := (ixN xs.length i).bind fun j => xs[j]?
theorem ixN_seq {n : Nat} {i : Int} {j : Nat} (h : ixN n i = some j) : seqIndex? i n = some j ∧ j < n ∧ -(n : Int) ≤ i ∧ i < n := by
 unfold ixN at h
 by_cases h0 : 0 ≤ i
 ·rw [if_pos h0] at h
  by_cases h1 : i < n
  ·rw [if_pos h1] at h
   have e : i.toNat = j := Option.some.inj h
   exact ⟨by rw [seqIndex_of h0 h1, e], by omega, by omega, h1⟩
  ·rw [if_neg h1] at h; cases h
 ·rw [if_neg h0] at h
  by_cases h1 : -(n : Int) ≤ i
  ·rw [if_pos h1] at h
   have e : (i + n).toNat = j := Option.some.inj h
   exact ⟨by rw [seqIndex_neg (by omega) h1, e], by omega, h1, by omega⟩
  ·rw [if_neg h1] at h; cases h
theorem atI_get {α : Type} {xs : List α} {i : Int} {v : α} (h : atI xs i = some v) : ∃ j, seqIndex? i xs.length = some j ∧ xs[j]? = some v ∧ j < xs.length ∧ -(xs.length : Int) ≤ i ∧ i < xs.length := by
 unfold atI at h
 cases e : ixN xs.length i with
 | none => rw [e] at h; cases h
 | some j =>
  rw [e] at h
  obtain ⟨h1, h2, h3, h4⟩ := ixN_seq e
  exact ⟨j, h1, h, h2, h3, h4⟩
noncomputable def PlainIx (b : Expr) : Prop := ∀ o i, subscripted b false o i = operate [o, i] (getItem o i)
noncomputable def IxR (X : Cx) (r : R2) : Prop :=
 ∀ (value slice : Expr) (pins : List (Addr × Obj)) (s : Shared) (σ : St) (H : Hp) (x y : V) (v u : Value) (Q : VK), Inv X pins σ H s → RelV x v → RelV y u → r x y H Q →
  subscripted slice false v u = operate [v, u] (getItem v u) → wpAny (model X.prog X.w) X.A (subscriptTail value slice v u) (EP X pins σ Q) X.xe s
noncomputable def MtR (X : Cx) (id : String) (r : V → List V → Hp → VK → Prop) : Prop :=
 ∀ (pins : List (Addr × Obj)) (s : Shared) (σ : St) (H : Hp) (x : V) (xs : List V) (v : Value) (us : List Value) (Q : VK), Inv X pins σ H s → RelV x v → Vals xs us → r x xs H Q →
  wpAny (model X.prog X.w) X.A (call (.builtin id) (v :: us)) (EP X pins σ Q) X.xe s
section
variable {X : Cx} {a b : Expr} {ta tb : TE} {pos : Pos}
theorem IxR.or {r r' : R2} (h : IxR X r) (h' : IxR X r') : IxR X (fun x y H Q => r x y H Q ∨ r' x y H Q) := by
 intro value slice pins s σ H x y v u Q I rx ry q hs
 rcases q with q | q
 ·exact h value slice pins s σ H x y v u Q I rx ry q hs
 ·exact h' value slice pins s σ H x y v u Q I rx ry q hs
theorem pe_ix {r : R2} (hr : IxR X r) (ha : PE X a ta) (hb : PE X b tb) (hs : PlainIx b) : PE X (.Subscript a b pos) (tOp r ta tb) := by
 intro pins s σ H Q I h
 exact Subscript_ (binT ha hb I h fun v u s2 x y H2 I2 rx ry q => hr a b pins s2 σ H2 x y v u Q I2 rx ry q (hs _ _))
noncomputable def rIxL (K : PySem.W.Frag) : R2 := fun x y H Q => ∃ p xs i v, x = .ref p ∧ y = .int i ∧ SqL K H p xs ∧ atI xs i = some v ∧ Q v H
noncomputable def rIxT (K : PySem.W.Frag) : R2 := fun x y H Q => ∃ p xs i v, x = .ref p ∧ y = .int i ∧ SqT K H p xs ∧ atI xs i = some v ∧ Q v H
theorem ix_list : IxR X (rIxL X.K) := by
 intro value slice pins s σ H x y v u Q I rx ry h hs
 obtain ⟨p, xs, i, z, rfl, rfl, hq, he, q⟩ := h
 cases rx
 obtain ⟨t, rfl⟩ := ry
 obtain ⟨its, r, pl, hz⟩ := I.list hq
 obtain ⟨j, h1, h2, h3, h4, h5⟩ := atI_get he
 obtain ⟨w, ew, rw'⟩ := r.get h2
 have hl := r.length
 have hn := line63
 have fin : EP X pins σ Q w s := ⟨z, H, I, rw', q⟩
 by_cases h0 : 0 ≤ i
 ·have hj : i.toNat = j := by
   rw [seqIndex_of h0 h5] at h1
   exact Option.some.inj h1
  exact item_listR pl.isList h0 (by omega) (by rw [hj]; simpa using ew) fin hs
 ·have hj : (i + (its.toArray.size : Int)).toNat = j := by
   rw [seqIndex_neg (by omega) h4] at h1
   rw [List.size_toArray, ← hl]
   exact Option.some.inj h1
  exact subscriptTail_builtinR (x := w) pl.isList.typeIs slot_list_getitem.lookup
   (wpAny_getItem_list_neg (Q := fun r s' => r = w ∧ EP X pins σ Q r s') pl.isList (by omega) (by rw [List.size_toArray] <;> omega) (by omega) (by rw [hj]; simpa using ew) ⟨rfl, fin⟩) hs
theorem ix_tup : IxR X (rIxT X.K) := by
 intro value slice pins s σ H x y v u Q I rx ry h hs
 obtain ⟨p, xs, i, z, rfl, rfl, hq, he, q⟩ := h
 cases rx
 obtain ⟨t, rfl⟩ := ry
 obtain ⟨its, r, pl, hz⟩ := I.tuple hq
 obtain ⟨j, h1, h2, h3, h4, h5⟩ := atI_get he
 obtain ⟨w, ew, rw'⟩ := r.get h2
 have hl := r.length
 have hn := line63
 have fin : EP X pins σ Q w s := ⟨z, H, I, rw', q⟩
 exact subscriptTail_builtinR (x := w) pl.typeIs slot_tuple_getitem.lookup
  (getItem_tuple (j := j) (Q := fun r s' => r = w ∧ EP X pins σ Q r s') pl (by omega) (by omega) (by rw [List.size_toArray, ← hl]; exact h1) (by simpa using ew) ⟨rfl, fin⟩) hs
theorem mapSeq_set (its : List Value) (n j : Nat) (u : Value) : Obj.mapSeq (·.setIfInBounds j u) { cls := .type "list", data := .seq its.toArray n } = { cls := .type "list", data := .seq (its.set j u).toArray n } := by
 simp [Obj.mapSeq]
theorem Inv.lst {pins : List (Addr × Obj)} {σ : St} {H : Hp} {s : Shared} {p : Addr} {xs : List V} (I : Inv X pins σ H s) (h : H p = some (.lst xs)) :
  ∃ (its : List Value) (n : Nat), Vals xs its ∧ s.heap.get? p = some { cls := .type "list", data := .seq its.toArray n } ∧ xs.length ≤ sizeLine := by
 obtain ⟨z, its, n, r, e⟩ := I.hok p _ h
 exact ⟨its, n, r, e, z⟩
theorem Inv.lstUpd {pins : List (Addr × Obj)} {σ : St} {H : Hp} {s : Shared} {p : Addr} {xs ys : List V} {its its' : List Value} {n n' : Nat} {f : Obj → Obj} (I : Inv X pins σ H s) (h : H p = some (.lst xs))
  (ho : s.heap.get? p = some { cls := .type "list", data := .seq its.toArray n }) (hf : f { cls := .type "list", data := .seq its.toArray n } = { cls := .type "list", data := .seq its'.toArray n' }) (r : Vals ys its') (hz : ys.length ≤ sizeLine) (t : Nat) :
  Inv X pins σ (upd H p (.lst ys)) { s with heap := s.heap.update p f, toks := t } := by
 have e : (s.heap.update p f).get? p = some { cls := .type "list", data := .seq its'.toArray n' } := by
  rw [Heap.get?_update_self f ho (by rw [hf] <;> rfl), hf]
 refine I.write (x := p) (e := p) (by rw [h]; trivial) (.inl rfl) (fun b u hb q => (Heap.get?_update_other _ _ (Ne.symm hb)).trans q) ⟨_, e⟩ ?_
 exact ⟨hz, its', n', r, e⟩
noncomputable def rSetL : V → V → V → Hp → (Hp → Prop) → Prop := fun o i v H Q => ∃ p xs k j, o = .ref p ∧ i = .int k ∧ H p = some (.lst xs) ∧ ixN xs.length k = some j ∧ Q (upd H p (.lst (xs.set j v)))
theorem set_list : PSet X rSetL := by
 intro pins s σ H o i v ov iv u Q I ro ri rv h
 obtain ⟨p, xs, k, j, rfl, rfl, hp, hj, q⟩ := h
 cases ro
 obtain ⟨t, rfl⟩ := ri
 obtain ⟨its, n, r, ho, hz⟩ := I.lst hp
 obtain ⟨h1, h2, h3, h4⟩ := ixN_seq hj
 have hl := r.length
 have hn := line63
 have I' : Inv X pins σ (upd H p (.lst (xs.set j v))) { s with heap := s.heap.update p (Obj.mapSeq (·.setIfInBounds j u)) } :=
  I.lstUpd hp ho (mapSeq_set its n j u) (r.set rv j) (by rw [List.length_set]; exact hz) s.toks
 by_cases h0 : 0 ≤ k
 ·have hk : k.toNat = j := by
   rw [seqIndex_of h0 h4] at h1
   exact Option.some.inj h1
  exact PySem.W.ki_setAt ho h0 (by omega) (by rw [List.size_toArray, ← hl]; exact h4) (by rw [hk]; exact ⟨_, I', q⟩)
 ·have hk : (k + (its.toArray.size : Int)).toNat = j := by
   rw [seqIndex_neg (by omega) h3] at h1
   rw [List.size_toArray, ← hl]
   exact Option.some.inj h1
  exact PySem.W.ki_setBack ho (by omega) (by rw [List.size_toArray, ← hl]; exact h3) (by omega) (by rw [hk]; exact ⟨_, I', q⟩)
theorem slice_bounds (lo hi : Option Int) (n : Nat) : (sliceBounds lo hi none n).1 = ((HT.sIx n 0 lo : Nat) : Int) ∧ (sliceBounds lo hi none n).2.1 = ((HT.sIx n n hi : Nat) : Int) ∧ (sliceBounds lo hi none n).2.2 = 1 := by
 refine ⟨?_, ?_, rfl⟩
 ·cases lo with
  | none => simp [sliceBounds, HT.sIx]
  | some i =>
   simp only [sliceBounds, HT.sIx, Option.getD_none, show (1 : Int) > 0 by decide, if_true]
   by_cases h : i < 0
   ·simp only [h, if_true] <;> omega
   ·simp only [h, if_false] <;> omega
 ·cases hi with
  | none => simp [sliceBounds, HT.sIx]
  | some i =>
   simp only [sliceBounds, HT.sIx, Option.getD_none, show (1 : Int) > 0 by decide, if_true]
   by_cases h : i < 0
   ·simp only [h, if_true] <;> omega
   ·simp only [h, if_false] <;> omega
theorem slicePick_cut (its : List Value) (lo hi : Option Int) : slicePick its.toArray lo hi none = ((its.drop (HT.sIx its.length 0 lo)).take (HT.sIx its.length its.length hi - HT.sIx its.length 0 lo)).toArray := by
 obtain ⟨h1, h2, h3⟩ := slice_bounds lo hi its.toArray.size
 unfold slicePick
 rw [h1, h2, h3]
 simp only [sliceRange_one, pick_run, List.size_toArray] <;> rfl
noncomputable def rSlL (K : PySem.W.Frag) : V → Option Int → Option Int → Hp → VK → Prop := fun x lo hi H Q => ∃ a xs, x = .ref a ∧ SqL K H a xs ∧ ∀ p, H p = none → Q (.ref p) (upd H p (.lst (cutV xs lo hi)))
theorem sl_list : SlR X (rSlL X.K) := by
 intro pins s σ H x v vl vu lo hi sl Q I rx hs pl pu h
 obtain ⟨a, xs, rfl, hx, q⟩ := h
 cases rx
 obtain ⟨its, r, ht, hz⟩ := I.list hx
 have hlen := r.length
 refine ⟨"list", _, slot_list_getitem.lookup, ht.isList.typeIs, ?_⟩
 refine wpAny_getItem_list_slice ht.isList hs pl pu .none (by simp) ?_ (by rw [List.size_toArray] <;> omega)
 rw [slicePick_cut, ← hlen]
 refine ⟨.ref s.heap.objs.size, _, I.laid (t' := s.toks) (o := .lst (cutV xs lo hi)) (fun b ob q => Heap.get?_push_of_some _ q) (Nat.le_refl _) ?_, rfl, q _ (I.hok.fresh (Nat.le_refl _))⟩
 exact ⟨Nat.le_trans (cutV_length xs lo hi) hz, _, 0, (r.drop (HT.sIx xs.length 0 lo)).take (HT.sIx xs.length xs.length hi - HT.sIx xs.length 0 lo), Heap.get?_push_size _ rfl⟩
theorem call_len_seq : CallR X (.builtin "len") (fun xs H Q => ∃ p ys, xs = [.ref p] ∧ (SqL X.K H p ys ∨ SqT X.K H p ys) ∧ Q (.int ys.length) H) := by
 intro pins s σ H xs us Q I r h
 obtain ⟨p, ys, rfl, hq, q⟩ := h
 obtain ⟨u, rfl, rx⟩ := vals1 r
 cases rx
 have hn := line63
 rcases hq with hq | hq
 ·obtain ⟨its, r', pl, hz⟩ := I.list hq
  have hlen := r'.length
  exact Calls.call_len_list pl.isList (by simp only [List.size_toArray] <;> omega) ⟨.int ys.length, H, I.tok _, ⟨s.toks + 1, by rw [List.size_toArray, hlen]⟩, q⟩
 ·obtain ⟨its, r', pl, hz⟩ := I.tuple hq
  have hlen := r'.length
  exact len_tuple pl (by simp only [List.size_toArray] <;> omega) ⟨.int ys.length, H, I.tok _, ⟨s.toks + 1, by rw [List.size_toArray, hlen]⟩, q⟩
theorem call_list_of : CallR X (.type "list") (fun xs H Q => ∃ p ys, xs = [.ref p] ∧ (SqL X.K H p ys ∨ SqT X.K H p ys) ∧ ∀ l, H l = none → Q (.ref l) (upd H l (.lst ys))) := by
 intro pins s σ H xs us Q I r h
 obtain ⟨p, ys, rfl, hq, q⟩ := h
 obtain ⟨u, rfl, rx⟩ := vals1 r
 cases rx
 have fin : ∀ (its : List Value), Vals ys its → ys.length ≤ sizeLine → ∀ (h' : Heap) (c' : Nat), (∀ b o', s.heap.get? b = some o' → h'.get? b = some o') →
   h'.get? s.heap.objs.size = some { cls := .type "list", dict := none, data := .seq its.toArray c', slots := #[] } → EP X pins σ Q (.ref s.heap.objs.size) { s with heap := h' } := fun its r' hz h' c' kp e =>
  ⟨.ref s.heap.objs.size, _, I.laid (t' := s.toks) kp (Nat.le_refl _) (show ObjOk X.prog X.w _ h' _ (.lst ys) from ⟨hz, its, c', r', e⟩), rfl, q _ (I.hok.fresh (Nat.le_refl _))⟩
 rcases hq with hq | hq
 ·obtain ⟨its, r', pl, hz⟩ := I.list hq
  have hlen := r'.length
  obtain ⟨o, ho, hc, n, hd⟩ := pl.isList
  exact call_list_seq p (.inl rfl) ho hc hd (fun h' c' kp e => fin its r' hz h' c' kp e) (by simp only [List.size_toArray] <;> omega)
 ·obtain ⟨its, r', pl, hz⟩ := I.tuple hq
  have hlen := r'.length
  obtain ⟨o, ho, hc, n, hd⟩ := pl
  exact call_list_seq p (.inr rfl) ho hc hd (fun h' c' kp e => fin its r' hz h' c' kp e) (by simp only [List.size_toArray] <;> omega)
noncomputable def tyV (K : PySem.W.Frag) (T : String) (x : V) (H : Hp) : Prop := match x with
 | .str _ => T = "str"
 | .int _ => T = "int"
 | .ref p => (T = "list" ∧ ∃ xs, SqL K H p xs) ∨ (T = "tuple" ∧ ∃ o, K.lookup p = some o ∧ o.cls = .type "tuple" ∧ o.dict = none) ∨
   (T = "dict" ∧ ((∃ kvs, H p = some (.dK kvs)) ∨ ∃ kvs, H p = some (.dT kvs))) ∨ (T = "set" ∧ ∃ S n, H p = some (.set S n))
 | _ => False
theorem tyV_is {pins : List (Addr × Obj)} {σ : St} {H : Hp} {s : Shared} {T : String} {x : V} {v : Value} (I : Inv X pins σ H s) (r : RelV x v) (ty : tyV X.K T x H) :
  s.TypeIs v T ∧ ∀ a, v = .ref a → ∃ ob, s.heap.get? a = some ob ∧ ob.dict = none := by
 cases x with
 | str z =>
  obtain ⟨t, rfl⟩ := r
  cases (show T = "str" from ty)
  exact ⟨typeIs_str s z t, fun _ e => nomatch e⟩
 | int i =>
  obtain ⟨t, rfl⟩ := r
  cases (show T = "int" from ty)
  exact ⟨typeIs_int s i t, fun _ e => nomatch e⟩
 | ref p =>
  cases r
  rcases ty with ⟨rfl, xs, hq⟩ | ⟨rfl, o, hk, hc, hd⟩ | ⟨rfl, hk⟩ | ⟨rfl, S, n, hk⟩
  ·obtain ⟨its, _, pl, _⟩ := I.list hq
   refine ⟨pl.isList.typeIs, fun a e => ?_⟩
   cases e
   obtain ⟨o, n, e, c, hd, _⟩ := pl
   exact ⟨o, e, hd⟩
  ·refine ⟨⟨o, I.kIn p o hk, hc⟩, fun a e => ?_⟩
   cases e
   exact ⟨o, I.kIn _ o hk, hd⟩
  ·have z : ∃ o, s.heap.get? p = some o ∧ o.ExactDict := by
    rcases hk with ⟨kvs, hk⟩ | ⟨kvs, hk⟩
    ·obtain ⟨_, _, _, _, o, _, _, e, ex, _⟩ := I.hok p _ hk
     exact ⟨o, e, ex⟩
    ·obtain ⟨_, _, _, _, o, _, _, e, ex, _⟩ := I.hok p _ hk
     exact ⟨o, e, ex⟩
   obtain ⟨o, e, ex⟩ := z
   refine ⟨⟨o, e, ex.1⟩, fun a e2 => ?_⟩
   cases e2
   exact ⟨o, e, ex.2.1⟩
  ·obtain ⟨o, _, _, _, e, ex, _⟩ := I.hok p _ hk
   refine ⟨⟨o, e, ex.1⟩, fun a e2 => ?_⟩
   cases e2
   exact ⟨o, e, ex.2.1⟩
 | _ => exact False.elim ty
noncomputable def tBM (K : PySem.W.Frag) (T : String) (r : V → List V → Hp → VK → Prop) (to : TE) (t : TA) : TE := fun σ H Q => to σ H fun x H1 => tyV K T x H1 ∧ t σ H1 fun xs H2 => r x xs H2 Q
variable {o e : Expr} {es : List Expr} {to : TE} {t : TA} {name : Str} {apos cpos : Pos} {T id : String} {r : V → List V → Hp → VK → Prop}
theorem pe_bm (pa : PlainAttrs T) (slot : Slot T name id) (hty : typeOf (.builtin id) = pure (.type "method_descriptor")) (hm : MtR X id r) (ho : PE X o to) (ha : PA X (e :: es) t)
  (hbase : attributeBase o name X.env (eval o X.env) = eval o X.env := by rfl)
  (hfew : ((backTo cpos (starEach (e :: es) X.env)).all (fun x => !x.1) && (backToKw cpos (keywordEach [] X.env)).all (fun x => x.1.isSome)
   && decide ((e :: es).length + ([] : List Keyword).length + (if ([] : List Keyword).isEmpty then 0 else 1) < 30)) = true := by rfl)
  (hline : (apos.endLine == cpos.line) = true := by rfl) (hs : starEach (e :: es) X.env = (false, eval e X.env) :: starEach es X.env := by rfl) (hplain : (backTo cpos (starEach es X.env)).any (·.1) = false := by rfl) :
  PE X (.Call (.Attribute o name apos) (e :: es) [] cpos) (tBM X.K T r to t) := by
 intro pins s σ H Q I h
 refine wpAny_Call_method_late hbase hfew hline rfl (thn (ho pins s σ H _ I h) fun v s1 ⟨x, H1, I1, r1, ty, q1⟩ => ?_)
 obtain ⟨h1, h2⟩ := tyV_is I1 r1 ty
 refine ⟨T, id, pa, slot, hty, h1, h2, ?_⟩
 have hA := ha cpos pins s1 σ H1 _ I1 q1
 rw [hs] at hA ⊢
 refine Calls.callWith_builtin (by show (false || (backTo cpos (starEach es X.env)).any (·.1)) = false; rw [hplain] <;> rfl) (Calls.evalArgs_plain ?_)
 exact thn hA fun us s2 ⟨vs, H2, I2, r2, q2⟩ => hm pins s2 σ H2 x vs v us Q I2 r1 r2 q2
end
end L2
namespace L2
open PySem PySem.Spec PyProof.Rows
noncomputable def MtM (X : Cx) (id : String) (r : V → List V → Hp → VK → Prop) : Prop :=
 ∀ (pins : List (Addr × Obj)) (s : Shared) (σ : St) (H : Hp) (x : V) (xs : List V) (v : Value) (us : List Value) (Q : VK), Inv X pins σ H s → RelV x v → Vals xs us → r x xs H Q →
  wpAny (model X.prog X.w) X.A (call (.builtin id) (v :: us)) (EP X pins σ Q) X.xe s
theorem Vals.one : ∀ {x : V} {us : List Value}, Vals [x] us → ∃ u, us = [u] ∧ RelV x u
 | _, _, .cons r .nil => ⟨_, rfl, r⟩
theorem Vals.zero : ∀ {us : List Value}, Vals [] us → us = []
 | _, .nil => rfl
theorem Vals.dropLast {xs : List V} {us : List Value} (h : Vals xs us) : Vals xs.dropLast us.dropLast := by
 induction h with
 | nil => exact .nil
 | cons r t ih =>
  cases t with
  | nil => exact .nil
  | cons q t' => exact .cons r ih
theorem Vals.rep {xs : List V} {us : List Value} (h : Vals xs us) : ∀ k : Nat, Vals (List.replicate k xs).flatten (List.replicate k us).flatten
 | 0 => .nil
 | k + 1 => by
  rw [List.replicate_succ, List.replicate_succ, List.flatten_cons, List.flatten_cons]
  exact Vals.append h (Vals.rep h k)
theorem foldl_rep (its : List Value) : ∀ (k : Nat) (acc : List Value),
  List.foldl (fun x1 x2 => x1 ++ x2) acc.toArray (List.replicate k its.toArray) = (acc ++ (List.replicate k its).flatten).toArray
 | 0, acc => by simp
 | k + 1, acc => by
  have e : acc.toArray ++ its.toArray = (acc ++ its).toArray := by simp
  have e2 : (acc ++ its) ++ (List.replicate k its).flatten = acc ++ (List.replicate (k + 1) its).flatten := by
   rw [List.replicate_succ, List.flatten_cons, List.append_assoc]
  rw [← e2, ← foldl_rep its k (acc ++ its), ← e, List.replicate_succ, List.foldl_cons]
section
variable {X : Cx} {pins : List (Addr × Obj)} {σ : St} {H : Hp} {s : Shared} {l b : Addr} {xs ys zs : List V}
theorem Inv.lset {its its' : List Value} {n : Nat} {f : Array Value → Array Value} {t' : Nat} (I : Inv X pins σ H s) (hH : H l = some (.lst xs))
  (e : s.heap.get? l = some { cls := .type "list", data := .seq its.toArray n }) (hf : f its.toArray = its'.toArray) (hv : Vals ys its') (hz : ys.length ≤ sizeLine) :
  Inv X pins σ (upd H l (.lst ys)) { s with heap := s.heap.update l (Obj.mapSeq f), toks := t' } := by
 have q := PySem.IsL.update e f
 rw [hf] at q
 refine I.write (x := l) (e := l) (by rw [hH]; exact trivial) (.inl rfl) (fun b' u hb hu => (Heap.get?_update_other s.heap (Obj.mapSeq f) (Ne.symm hb)).trans hu) ⟨_, q⟩ ?_
 exact ⟨hz, its', _, hv, q⟩
theorem Inv.lnew {its : List Value} {t' : Nat} (I : Inv X pins σ H s) (hv : Vals ys its) (hz : ys.length ≤ sizeLine) :
  Inv X pins σ (upd H s.heap.objs.size (.lst ys)) { s with heap := s.heap.push { cls := .type "list", data := .seq its.toArray }, toks := t' } :=
 I.laid (fun _ _ q => Heap.get?_push_of_some _ q) (Nat.le_refl _) ⟨hz, its, 0, hv, Heap.get?_push_size _ rfl⟩
theorem Inv.fresh (I : Inv X pins σ H s) : H s.heap.objs.size = none := I.hok.fresh (Nat.le_refl _)
theorem Inv.lstM (I : Inv X pins σ H s) (hH : H l = some (.lst xs)) : xs.length ≤ sizeLine ∧ ∃ (its : List Value) (n : Nat), Vals xs its ∧ xs.length = its.length ∧ s.heap.get? l = some { cls := .type "list", data := .seq its.toArray n } := by
 obtain ⟨z, its, n, r, e⟩ := I.hok l _ hH
 exact ⟨z, its, n, r, r.length, e⟩
end
section
variable {X : Cx}
noncomputable def rAppend : V → List V → Hp → VK → Prop := fun x vs H Q => ∃ l xs y, x = .ref l ∧ vs = [y] ∧ H l = some (.lst xs) ∧ xs.length < sizeLine ∧ Q .non (upd H l (.lst (xs ++ [y])))
theorem mt_append : MtM X "list.append" rAppend := by
 intro pins s σ H x vs v us Q I rx rv h
 obtain ⟨l, xs, y, rfl, rfl, hH, hz, q⟩ := h
 cases rx
 obtain ⟨u, rfl, ru⟩ := rv.one
 obtain ⟨z, its, n, r, hl, e⟩ := I.lstM hH
 refine call_meets F.slot_list_append ⟨_, e, rfl⟩ F.entry_list_append (F.args_list_append_2 _ _) (PySem.list_append l its.toArray n u (by rw [List.size_toArray]; omega)) ⟨e, ?_⟩
 refine ⟨.non, _, I.lset (its' := its ++ [u]) hH e (by simp) (r.append (.cons ru .nil)) ?_, rfl, q⟩
 rw [List.length_append, List.length_singleton]
 omega
noncomputable def rCat : R2 := fun x y H Q => ∃ l b xs zs, x = .ref l ∧ y = .ref b ∧ H l = some (.lst xs) ∧ H b = some (.lst zs) ∧ xs.length + zs.length ≤ sizeLine ∧ ∀ p, H p = none → Q (.ref p) (upd H p (.lst (xs ++ zs)))
theorem op_cat : OpR X (binaryOp .Add) rCat := by
 intro pins s σ H x y v u Q I rx ry h
 obtain ⟨l, b, xs, zs, rfl, rfl, hH, hB, hz, q⟩ := h
 cases rx
 cases ry
 obtain ⟨z, its, n, r, hl, e⟩ := I.lstM hH
 obtain ⟨z2, its2, n2, r2, hl2, e2⟩ := I.lstM hB
 refine PySem.P.add_list e e2 ?_ (by rw [List.size_toArray, List.size_toArray]; omega)
 have ea : its.toArray ++ its2.toArray = (its ++ its2).toArray := by simp
 rw [ea]
 exact ⟨.ref _, _, I.lnew (t' := s.toks) (r.append r2) (by rw [List.length_append]; omega), rfl, q _ I.fresh⟩
theorem len_rep {α : Type} (xs : List α) (k : Nat) : (List.replicate k xs).flatten.length = k * xs.length := by
 induction k with
 | zero => simp
 | succ k ih => rw [List.replicate_succ, List.flatten_cons, List.length_append, ih, Nat.succ_mul, Nat.add_comm]
end
section
variable {prog : Program} {w : World} {A : Around} {E : Value → Shared → Prop} {s : Shared}
end
section
variable {X : Cx}
end
end L2
namespace Att
open PySem PySem.W PySem.Calls PyProof.Rows
theorem ints_of_wellAll {P : Params} {h : Heap} : ∀ (ns : List Int) (vs : List Value), WellAll P h vs (ns.map WData.int) → IntsAre vs ns := by
 intro ns
 induction ns with
 | nil =>
  intro vs w
  rw [List.map_nil] at w
  cases w
  exact .nil
 | cons n ns ih =>
  intro vs w
  rw [List.map_cons] at w
  cases w with
  | cons a b =>
   cases a
   exact .cons _ _ (ih _ b)
theorem script_of {l : OpenLaw} {n : Nat} (hn : l.most = some n) {P : Params} {h : Heap} {args : List WData} {vals : List Value}
  (hpre : l.row.toRowW.claim.pre args = true) (hwl : WellAll P h vals args) :
  ∃ a vs ns, vals = [Value.ref a] ∧ args = [WData.list (ns.map WData.int)] ∧ h.get? a = some { cls := .type "list", data := .seq vs.toArray } ∧ IntsAre vs ns ∧ ns.length ≤ n := by
 have hsh : WShape.hasAll [] args [.list .int] = true := (pre_splitW hpre).1
 have hc : l.pre.holds [] { args := args } = true := (pre_splitW hpre).2
 obtain ⟨d, r, rfl, h1, h2⟩ := hasAllW_cons hsh
 obtain rfl := hasAllW_nil h2
 obtain ⟨xs, rfl, h3⟩ := hasW_list h1
 obtain ⟨ns, rfl⟩ := items_int h3
 have hlen : ns.length ≤ n := by
  unfold OpenLaw.pre at hc
  have h4 : (WTm.not (.lt (.lit (.int (n : Int))) (.len (.arg 0)))).holds [] { args := [.list (ns.map .int)] } = true := by
   have h4 := (holds_andW hc).1
   rw [hn] at h4
   exact h4
  have h5 := condW_of h4 (w_not (w_lt w_lit (w_len_list (w_arg rfl))))
  rw [List.length_map] at h5
  refine Nat.le_of_not_lt fun q => ?_
  have q' : (n : Int) < ((ns.length : Nat) : Int) := by omega
  first
   | (rw [decide_eq_true q'] at h5; exact absurd h5 (by decide))
   | (simp at h5; omega)
 cases hwl with
 | cons w1 w2 =>
  cases w2
  cases w1 with
  | list ho hall => exact ⟨_, _, ns, rfl, rfl, ho, ints_of_wellAll ns _ hall, hlen⟩
theorem post_true (l : OpenLaw) (args : List WData) : l.row.toRowW.claim.post args (.bool true) args = true :=
 postW_of (r := l.row.toRowW) (X := (true == true))
  (show WShape.has [] (.bool true) .bool = true by first | rfl | decide | simp [WShape.has, WShape.arms, WShape.armsAll])
  (show (WTm.eq .res (.lit (.bool true))).value [] { args := args, res := some (.bool true), after := args } = some (.bool (true == true)) from w_eq_bool (w_res rfl) w_lit) rfl
theorem attach_call {l : OpenLaw} {n : Nat} {q : Program} {loose : List Str} {XP : (Str → Option Value) → Heap → Prop} {YP : World → Heap → Prop} {d : DefRec}
  (hn : l.most = some n) (hdf : d.params.defaults = [])
  (call : ∀ (w : World) (s₀ s₁ : Shared) (mg mb : Str → Option Value) (fa : Addr) (o : Obj) (pm cd doc : Value) (a : Addr) (vs : List Value) (ns : List Int),
   Ground q loose [] XP w s₀ mg mb s₁.heap → YP w s₁.heap →
   s₁.heap.get? fa = some o → o.data = .func (docDef d.name d.params d.body d.scope pm cd doc) → s₁.heap.CodeRec cd d.name → mg d.name = some (.ref fa) →
   s₁.heap.get? a = some { cls := .type "list", data := .seq vs.toArray } → IntsAre vs ns → ns.length ≤ n → s₁.gens = #[] →
   codeAny (model l.prog w) callerA (.call (.ref fa) ⟨[.ref a], []⟩) (fun r s' => r = .ok (.ret (.bool true)) ∧ OldK s₁.heap s'.heap ∧ s'.os = s₁.os ∧ AllBare s'.gens) s₁) :
  WalkO q loose XP YP l.row.toRowW d [] (fun f vs => PySem.call f vs) := by
 intro w s₀ s₁ mg mb G Y fa o pm cd doc dV kV ho hd hcd hD hmg hg args vals as hpre hlay hrd hwl hlo
 obtain rfl : dV = .none := Dflts.none hD hdf
 obtain rfl : kV = .none := Dflts.noKw hD
 obtain ⟨a, vs, ns, rfl, rfl, hobj, hints, hlen⟩ := script_of hn hpre hwl
 refine enter_call (codeAny_mono (call w s₀ s₁ mg mb fa o pm cd doc a vs ns G Y ho (fd_plain hd) hcd hmg hobj hints hlen hg) fun r s' hq => ?_)
 obtain ⟨rfl, h2, h3, h4⟩ := hq
 exact ⟨.inl ⟨.bool true, .bool true, [], rfl, fun _ => rfl, .bool true, post_true l _, fun _ => ⟨List.Pairwise.nil, fun _ hm => (nomatch hm)⟩⟩, h2, h3, h4⟩
section
variable {prog : Program} {w : World} {A : Around} {E : Value → Shared → Prop} {s : Shared} {K : Frag}
end
end Att
namespace L2
open PySem PySem.Spec PyProof.Rows
theorem vals_ints : ∀ {vs : List Value} {ns : List Int}, IntsAre vs ns → Vals (ns.map V.int) vs
 | _, _, .nil => .nil
 | _, _, .cons n t h => .cons ⟨t, rfl⟩ (vals_ints h)
noncomputable def Only (H : Hp) : Prop := ∀ b, H b = none ∨ ∃ o xs, H b = some (.frz o (.lst xs))
theorem law_call {P : Program} {w : World} {K : PySem.W.Frag} {mg mb : Str → Option Value} {CX : CXT} {k : Nat} {fa a : Addr} {fd : FuncData} {x : Str} {sp : Sp} {s₁ : Shared} {vs : List Value} {ns : List Int}
  (KX : K.In s₁.heap) (hns : s₁.heap.Ns mainGlobals mg) (hb : s₁.heap.Ns builtinsNs mb) (hbb : ∀ x : Str, x ≠ "__name__" → mb x = bootBuiltins x) (hlim : s₁.heap.NoLimit) (hg : s₁.gens = #[])
  (ha : s₁.heap.get? a = some { cls := .type "list", data := .seq vs.toArray }) (hi : IntsAre vs ns) (hl : ns.length ≤ sizeLine) (hr : Room k callerA)
  (F : ∀ base : Heap, K.In base → base.Ns mainGlobals mg → FnOk P w K mg base CX k fa fd [x] sp) (hbind : ∀ (s : Shared) (u : Value), BindsTo s fd ⟨[u], []⟩ [(x, u)])
  (hsp : ∀ H : Hp, Only H → SqL K H a (ns.map V.int) → sp [.ref a] H (fun v _ => v = .bl true) fun _ _ _ => False)
  (hCX : ∀ H e s', CX [] H s₁ (fun _ _ _ => False) e s' → False) :
  codeAny (model P w) callerA (.call (.ref fa) ⟨[.ref a], []⟩) (fun r s' => r = .ok (.ret (.bool true)) ∧ OldK s₁.heap s'.heap ∧ s'.os = s₁.os ∧ AllBare s'.gens) s₁ := by
 have rv := vals_ints hi
 have lenV := hi.length
 -- from an abstract heap in which nothing but the script may be tracked
 have core : ∀ H : Hp, Only H → SqL K H a (ns.map V.int) → HOk P w H s₁.heap → (∀ b, H b ≠ none → b = a) → (H a ≠ none → K.lookup a = none) →
   codeAny (model P w) callerA (.call (.ref fa) ⟨[.ref a], []⟩) (fun r s' => r = .ok (.ret (.bool true)) ∧ OldK s₁.heap s'.heap ∧ s'.os = s₁.os ∧ AllBare s'.gens) s₁ := by
  intro H hO hS hok hA hK
  have base_of : ∀ {b : Addr} {o : Obj}, s₁.heap.get? b = some o → H b = none → (hidT s₁.heap H).get? b = some o := fun e n => hidT_get e n
  have noA : ∀ {b : Addr} {o : Obj} {es : Array DictEntry} {ep : Nat}, s₁.heap.get? b = some o → o.data = .dict es ep → H b = none := fun {b o es ep} e d => by
   cases q : H b with
   | none => rfl
   | some u =>
    have e' : b = a := hA b (by rw [q]; simp)
    subst e'
    rw [ha] at e; cases e
    have d' : Data.seq vs.toArray _ = Data.dict es ep := d
    cases d'
  have nsK : ∀ {b : Addr} {m : Str → Option Value}, s₁.heap.Ns b m → (hidT s₁.heap H).Ns b m := fun {b m} ⟨o, es, ep, e, d, r⟩ => ⟨o, es, ep, base_of e (noA e d), d, r⟩
  have hKb : K.In (hidT s₁.heap H) := fun b o e => base_of (KX b o e) (by
   cases q : H b with
   | none => rfl
   | some u =>
    have e' : b = a := hA b (by rw [q]; simp)
    subst e'
    rw [hK (by rw [q]; simp)] at e; cases e)
  have hM : Mod K mg (hidT s₁.heap H) := ⟨hKb, nsK hns, ⟨mb, nsK hb, hbb⟩, let ⟨mc, h1, h2⟩ := hlim; ⟨mc, nsK h1, h2⟩⟩
  have e0 : Env0 P w K mg (hidT s₁.heap H) callerA [] s₁ H := ⟨rfl, hM, fun b o e => of_hidT e, Nat.le_of_eq (hidT_size _ _), trivial, fun b hb => absurd (show b ∈ ([] : List Addr) from hb) (by simp), hok, .of_eq hg⟩
  refine codeAny_mono ((F _ hKb (nsK hns)).run callerA [] s₁ H ⟨[.ref a], []⟩ [.ref a] [.ref a] _ _ hr e0 (hbind s₁ (.ref a)) (.cons rfl .nil) (hsp H hO hS)) fun r s' h => ?_
  cases r with
  | error e => exact (hCX H e s' h).elim
  | ok fl =>
   cases fl with
   | next => exact False.elim h
   | brk => exact False.elim h
   | cont => exact False.elim h
   | ret u =>
    obtain ⟨v, H', os, bare, un, hok', r', q⟩ := h
    have q' : v = .bl true := q
    subst q'
    obtain rfl : u = Value.bool true := r'
    refine ⟨rfl, OldK.of_keep fun b o e => ?_, os, bare⟩
    cases q : H b with
    | none => exact un.keep b o e q (by intro z; exact absurd (show b ∈ ([] : List Addr) from z) (by simp)) (by simp)
    | some u =>
     rcases hO b with z | ⟨ob, xs, z⟩
     ·rw [q] at z; cases z
     ·have z2 := un.frzs b ob _ z
      obtain ⟨e1, _⟩ := hok b _ z
      obtain ⟨e2, _⟩ := hok' b _ z2
      rw [e] at e1; cases e1
      exact e2
 cases hk : K.lookup a with
 | some o =>
  -- the script is one of the module's own objects
  have e := KX a o hk
  rw [ha] at e
  cases e
  refine core (fun _ => none) (fun _ => .inl rfl) (.inr ⟨_, vs.toArray, _, hk, rfl, rfl, rfl, by rw [List.size_toArray, lenV]; exact hl, by simpa using rv⟩) (fun b u z => by have z' : (none : Option HO) = some u := z; cases z') (fun b z => absurd rfl z) fun z => absurd rfl z
 | none =>
  refine core (fun b => if b = a then some (.frz { cls := .type "list", data := .seq vs.toArray } (.lst (ns.map V.int))) else none) (fun b => ?_) (.inl (.inr ⟨{ cls := .type "list", data := .seq vs.toArray }, if_pos rfl⟩)) (fun b u z => ?_) (fun b z => ?_) fun _ => hk
  ·by_cases hb : b = a
   ·exact .inr ⟨_, _, if_pos hb⟩
   ·exact .inl (if_neg hb)
  ·by_cases hb : b = a
   ·have z' := (if_pos hb).symm.trans z
    cases z'
    subst hb
    exact ⟨ha, by rw [List.length_map]; exact hl, vs, _, rv, ha⟩
   ·have z' := (if_neg hb).symm.trans z
    cases z'
  ·by_cases hb : b = a
   ·exact hb
   ·exact absurd (if_neg hb) z
end L2
namespace L2
open PySem PySem.Spec PyProof.Rows
noncomputable abbrev KOf {K : PySem.W.Frag} {h : Heap} (_ : K.In h) : PySem.W.Frag := K
theorem walk_of {l : PySem.W.OpenLaw} {n k : Nat} {q : Program} {loose : List Str} {XP : (Str → Option Value) → Heap → Prop} {YP : World → Heap → Prop} {d : DefRec} {K : Params → PySem.W.Frag} {CX : World → CXT} {sp : World → Sp} {x : Str}
  (hn : l.most = some n) (hn2 : n ≤ sizeLine) (hdf : d.params.defaults = []) (hr : Room k callerA)
  (hY : ∀ (w : World) (h : Heap), YP w h → (K w.params).In h)
  (F : ∀ (w : World) (mg : Str → Option Value) (fa : Addr) (h : Heap), (K w.params).In h → h.Ns mainGlobals mg → mg d.name = some (.ref fa) →
   ∃ fd : FuncData, (∀ (s : Shared) (u : Value), BindsTo s fd ⟨[u], []⟩ [(x, u)]) ∧
    ∀ base : Heap, (K w.params).In base → base.Ns mainGlobals mg → FnOk l.prog w (K w.params) mg base (CX w) k fa fd [x] (sp w))
  (hsp : ∀ (w : World) (H : Hp) (a : Addr) (ns : List Int), ns.length ≤ n → Only H → SqL (K w.params) H a (ns.map V.int) → sp w [.ref a] H (fun v _ => v = .bl true) fun _ _ _ => False)
  (hCX : ∀ (w : World) (H : Hp) (s : Shared) (e : Value) (s' : Shared), CX w [] H s (fun _ _ _ => False) e s' → False) :
  PySem.W.WalkO q loose XP YP l.row.toRowW d [] (fun f vs => PySem.call f vs) := by
 refine Att.attach_call hn hdf fun w s₀ s₁ mg mb fa o pm cd doc a vs ns G Y ho hd hcd hmg hobj hints hlen hg => ?_
 have KX := hY w _ Y
 obtain ⟨fd, hb, hF⟩ := F w mg fa _ KX G.T.g hmg
 exact law_call KX G.T.g G.T.b G.T.builtins G.T.nolimit hg hobj hints (Nat.le_trans hlen hn2) hr hF hb (fun H hO hS => hsp w H a ns hlen hO hS) fun H e s' => hCX w H s₁ e s'
end L2
namespace L2
open PySem PySem.Spec PyProof.Rows
noncomputable def defArgs (s : Stmt) : Arguments := match s with
 | .FunctionDef _ a _ _ _ _ _ _ _ _ => a
 | _ => { posonlyargs := [], args := [], vararg := none, kwonlyargs := [], kw_defaults := [], kwarg := none, defaults := [] }
noncomputable def defBody (s : Stmt) : List Stmt := match s with
 | .FunctionDef _ _ b _ _ _ _ _ _ _ => b
 | _ => []
noncomputable def defScope (s : Stmt) : Scope := match s with
 | .FunctionDef _ _ _ _ _ _ sc _ _ _ => sc
 | _ => { kind := .function, names := [], isGenerator := false, isCoroutine := false }
noncomputable abbrev CX0 : CXT := fun _ _ _ _ _ _ => False
noncomputable abbrev E0 : XK := fun _ _ _ => False
theorem pass0 {X : Cx} : Passes CX0 X E0 := fun _ _ _ _ _ _ _ h => h.elim
structure Fun (K : PySem.W.Frag) (x qual : Str) (st : Stmt) (f : Addr) (fd : FuncData) : Prop where
 ex : ∃ (oc : Value) (od : Option Addr) (kV doc pm : Value) (an : Option Addr) (cdv ct : Value) (osl : Array (Option Value)),
  fd = PySem.W.fnOf x qual (defArgs st) (defBody st) (defScope st) .none kV doc pm an cdv ct ∧ K.lookup f = some ⟨oc, od, .func fd, osl⟩ ∧ PySem.W.codeIn K cdv qual = true
 kp : PySem.W.keepIn K (.ref f) = true
section
variable {P : Program} {w : World} {K : PySem.W.Frag} {mg : Str → Option Value} {base : Heap}
theorem Fun.ok {x qual : Str} {st : Stmt} {f : Addr} {fd : FuncData} {N ps : List Str} {k : Nat} {sp : Sp} (F : Fun K x qual st f fd) (S : FnScope N ps (defScope st)) (len : ∀ vs H Q E, sp vs H Q E → vs.length = ps.length)
  (hbody : ∀ (cdv : Value) (A : Around) (outer : List Env) (s : Shared) (H : Hp) (vs : List V) (Q : VK) (E : XK), Room k (A.deeper (envOfC qual (defScope st) s.heap.objs.size f cdv)) → sp vs H Q E →
   ∃ t, PSs (cxOf CX0 P w K mg base N qual (defScope st) f cdv A outer s H E).nox (defBody st) t ∧ t { nx := fun _ H' => Q .non H', rt := Q } (start N vs) H) : FnOk P w K mg base CX0 (k + 1) f fd ps sp := by
 obtain ⟨oc, od, kV, doc, pm, an, cdv, ct, osl, rfl, lk, hcd⟩ := F.ex
 refine fn_of lk hcd S len fun A outer s H vs Q E hr hsp => ?_
 obtain ⟨t, h, q⟩ := hbody cdv A outer s H vs Q E hr hsp
 exact ⟨t, h.nox, q⟩
theorem Fun.binds {x qual : Str} {st : Stmt} {f : Addr} {fd : FuncData} {ps : List Str} (F : Fun K x qual st f fd)
  (h : ∀ (kV doc pm : Value) (an : Option Addr) (cdv ct : Value) (us : List Value), us.length = ps.length → bindArgs (PySem.W.fnOf x qual (defArgs st) (defBody st) (defScope st) .none kV doc pm an cdv ct) ⟨us, []⟩ = pure (ps.zip us)) : Binds K fd ps [] := by
 obtain ⟨oc, od, kV, doc, pm, an, cdv, ct, osl, rfl, lk, hcd⟩ := F.ex
 exact .all (h kV doc pm an cdv ct)
theorem fun_mk {x qual : Str} {st : Stmt} {f : Addr} {oc : Value} {od an : Option Addr} {osl : Array (Option Value)} {kV doc pm cdv ct : Value} (l : K.lookup f = some ⟨oc, od, .func (PySem.W.fnOf x qual (defArgs st) (defBody st) (defScope st) .none kV doc pm an cdv ct), osl⟩)
  (c : PySem.W.codeIn K cdv qual = true) (k : PySem.W.keepIn K (.ref f) = true) : Fun K x qual st f (PySem.W.fnOf x qual (defArgs st) (defBody st) (defScope st) .none kV doc pm an cdv ct) := ⟨⟨oc, od, kV, doc, pm, an, cdv, ct, osl, rfl, l, c⟩, k⟩
end
section
variable {X : Cx}
theorem pv (i : Nat) {x : Str} {pos : Pos} (hN : X.N[i]? = some x := by rfl) (hv : Vis X.env.scope x := by first | exact Or.inl rfl | exact Or.inr (Or.inl rfl) | exact Or.inr (Or.inr rfl)) (hd : (x == ("__debug__" : Str)) = false := by decide)
    (hcd : (x == ("__classdict__" : Str)) = false := by decide) : PE X (.Name x pos) (tVar i) := pe_var hN hv hd hcd
end
theorem iteF {A B : Prop} (h : B) : if false = true then A else B := by
 rw [if_neg Bool.false_ne_true]
 exact h
theorem iteT {A B : Prop} (h : A) : if true = true then A else B := by
 rw [if_pos rfl]
 exact h
noncomputable def Same (H H' : Hp) : Prop := ∀ b o, H b = some o → H' b = some o
theorem Same.refl (H : Hp) : Same H H := fun _ _ h => h
theorem Same.trans {H H1 H2 : Hp} (a : Same H H1) (b : Same H1 H2) : Same H H2 := fun c o h => b c o (a c o h)
theorem Same.free {H H' : Hp} (e : Same H H') {l : Addr} (h : H' l = Option.none) : H l = Option.none := by
 cases q : H l with
 | none => rfl
 | some o =>
  rw [e l o q] at h
  cases h
theorem Same.seq {K : PySem.W.Frag} {H H' : Hp} {a : Addr} {xs : List V} (e : Same H H') (h : SqL K H a xs) : SqL K H' a xs := by
 rcases h with (h | ⟨o, h⟩) | h
 ·exact .inl (.inl (e _ _ h))
 ·exact .inl (.inr ⟨o, e _ _ h⟩)
 ·exact .inr h
end L2
namespace L2
open PySem PySem.Spec PyProof.Rows
section
variable {κ : Type} [DecidableEq κ]
noncomputable def valV (kvs : List (κ × V)) (k : κ) : Option V := (kvs.find? fun kv => decide (kv.1 = k)).map (·.2)
noncomputable def putK (kvs : List (κ × V)) (k : κ) (v : V) : List (κ × V) :=
 if (kvs.any fun kv => decide (kv.1 = k)) = true then kvs.map (fun kv => if kv.1 = k then (kv.1, v) else kv) else kvs ++ [(k, v)]
noncomputable def dropK (kvs : List (κ × V)) (k : κ) : List (κ × V) := kvs.filter fun kv => decide (kv.1 ≠ k)
theorem valV_pos {p : κ × V} {r : List (κ × V)} {k : κ} (e : p.1 = k) : valV (p :: r) k = some p.2 := by simp [valV, List.find?_cons, e]
theorem valV_neg {p : κ × V} {r : List (κ × V)} {k : κ} (e : ¬ p.1 = k) : valV (p :: r) k = valV r k := by simp [valV, List.find?_cons, e]
theorem valV_any (k : κ) : ∀ kvs : List (κ × V), (kvs.any fun kv => decide (kv.1 = k)) = (valV kvs k).isSome
 | [] => rfl
 | p :: r => by
  rw [List.any_cons]
  by_cases e : p.1 = k
  ·simp only [valV_pos e, decide_eq_true e, Bool.true_or, Option.isSome_some]
  ·rw [valV_neg e, decide_eq_false e, Bool.false_or]; exact valV_any k r
theorem RelO.isSome_eq {o : Option V} {u : Option Value} (r : RelO o u) : o.isSome = u.isSome := by
 cases o with
 | none => cases u with
  | none => rfl
  | some _ => exact (show False from r).elim
 | some _ => cases u with
  | none => exact (show False from r).elim
  | some _ => rfl
theorem KV.val {kvs : List (κ × V)} {vs : List (κ × Value)} (r : KV kvs vs) (k : κ) : RelO (valV kvs k) (valueAt vs k) := by
 unfold KV at r
 induction r with
 | nil => exact True.intro
 | @cons p q ps qs h t ih =>
  obtain ⟨h1, h2⟩ := h
  by_cases e : p.1 = k
  ·have e' : q.1 = k := h1.symm.trans e
   have b : valueAt (q :: qs) k = some q.2 := by simp [valueAt, List.find?_cons, e']
   rw [valV_pos e, b]; exact h2
  ·have e' : ¬ q.1 = k := fun z => e (h1.trans z)
   have b : valueAt (q :: qs) k = valueAt qs k := by simp [valueAt, List.find?_cons, e']
   rw [valV_neg e, b]; exact ih
theorem KV.any {kvs : List (κ × V)} {vs : List (κ × Value)} (r : KV kvs vs) (k : κ) : (kvs.any fun kv => decide (kv.1 = k)) = vs.any fun kv => decide (kv.1 = k) := by
 unfold KV at r
 induction r with
 | nil => rfl
 | cons h t ih => rw [List.any_cons, List.any_cons, ih, h.1]
theorem KV.repl {kvs : List (κ × V)} {vs : List (κ × Value)} (r : KV kvs vs) (k : κ) {y : V} {u : Value} (ry : RelV y u) :
  KV (kvs.map fun kv => if kv.1 = k then (kv.1, y) else kv) (vs.map fun kv => if kv.1 = k then (kv.1, u) else kv) := by
 unfold KV at r ⊢
 induction r with
 | nil => exact .nil
 | @cons p q ps qs h t ih =>
  rw [List.map_cons, List.map_cons]
  refine .cons ?_ ih
  obtain ⟨h1, h2⟩ := h
  by_cases e : p.1 = k
  ·rw [if_pos e, if_pos (h1.symm.trans e)]; exact ⟨h1, ry⟩
  ·rw [if_neg e, if_neg (fun z => e (h1.trans z))]; exact ⟨h1, h2⟩
theorem KV.put {kvs : List (κ × V)} {vs : List (κ × Value)} (r : KV kvs vs) (k : κ) {y : V} {u : Value} (ry : RelV y u) : KV (putK kvs k y) (stored vs k u) := by
 unfold putK stored
 rw [r.any k]
 by_cases e : (vs.any fun kv => decide (kv.1 = k)) = true
 ·rw [if_pos e, if_pos e]; exact r.repl k ry
 ·rw [if_neg e, if_neg e]; exact Paired.snoc r ⟨rfl, ry⟩
theorem KV.drop {kvs : List (κ × V)} {vs : List (κ × Value)} (r : KV kvs vs) (k : κ) : KV (dropK kvs k) (without vs k) := by
 unfold KV at r ⊢
 unfold dropK without
 induction r with
 | nil => exact .nil
 | @cons p q ps qs h t ih =>
  obtain ⟨h1, h2⟩ := h
  rw [List.filter_cons, List.filter_cons]
  by_cases e : p.1 = k
  ·have a : ¬ decide (p.1 ≠ k) = true := by simp [e]
   have b : ¬ decide (q.1 ≠ k) = true := by simp [h1.symm.trans e]
   rw [if_neg a, if_neg b]; exact ih
  ·have e' : ¬ q.1 = k := fun z => e (h1.trans z)
   have a : decide (p.1 ≠ k) = true := by simp [e]
   have b : decide (q.1 ≠ k) = true := by simp [e']
   rw [if_pos a, if_pos b]; exact .cons ⟨h1, h2⟩ ih
theorem KV.keys {kvs : List (κ × V)} {vs : List (κ × Value)} (r : KV kvs vs) : kvs.map (·.1) = vs.map (·.1) := by
 unfold KV at r
 induction r with
 | nil => rfl
 | cons h t ih => rw [List.map_cons, List.map_cons, ih, h.1]
theorem KV.length {kvs : List (κ × V)} {vs : List (κ × Value)} (r : KV kvs vs) : kvs.length = vs.length := Paired.length r
end
noncomputable abbrev KT (H : Hp) : List (List Key × V) → List (List Key × Addr × Value) → Prop := Paired fun p q => p.1 = q.1 ∧ H q.2.1 = some (.tup (p.1.map kV)) ∧ RelV p.2 q.2.2
theorem KT.val {H : Hp} {kvs : List (List Key × V)} {xs : List (List Key × Addr × Value)} (r : KT H kvs xs) (k : List Key) : RelO (valV kvs k) ((atKey xs k).map (·.2)) := by
 induction r with
 | nil => exact True.intro
 | @cons p q ps qs h t ih =>
  obtain ⟨h1, _, h2⟩ := h
  by_cases e : p.1 = k
  ·have e' : q.1 = k := h1.symm.trans e
   have b : atKey (q :: qs) k = some q.2 := by simp [atKey, List.find?_cons, e']
   rw [valV_pos e, b]; exact h2
  ·have e' : ¬ q.1 = k := fun z => e (h1.trans z)
   have b : atKey (q :: qs) k = atKey qs k := by simp [atKey, List.find?_cons, e']
   rw [valV_neg e, b]; exact ih
theorem KT.repl {H : Hp} {kvs : List (List Key × V)} {xs : List (List Key × Addr × Value)} (r : KT H kvs xs) (k : List Key) {y : V} {u : Value} (ry : RelV y u) :
  KT H (kvs.map fun kv => if kv.1 = k then (kv.1, y) else kv) (xs.map (putAt k u)) := by
 induction r with
 | nil => exact .nil
 | @cons p q ps qs h t ih =>
  rw [List.map_cons, List.map_cons]
  refine .cons ?_ ih
  obtain ⟨h1, h2, h3⟩ := h
  unfold putAt
  by_cases e : p.1 = k
  ·rw [if_pos e, if_pos (h1.symm.trans e)]; exact ⟨h1, h2, ry⟩
  ·rw [if_neg e, if_neg (fun z => e (h1.trans z))]; exact ⟨h1, h2, h3⟩
theorem KT.put {H : Hp} {kvs : List (List Key × V)} {xs : List (List Key × Addr × Value)} (r : KT H kvs xs) (k : List Key) {b : Addr} {y : V} {u : Value} (hb : H b = some (.tup (k.map kV))) (ry : RelV y u) :
  KT H (putK kvs k y) (storedH xs k b u) := by
 have e : (kvs.any fun kv => decide (kv.1 = k)) = (atKey xs k).isSome := by
  rw [valV_any, (r.val k).isSome_eq, Option.isSome_map]
 unfold putK storedH
 rw [e]
 by_cases q : (atKey xs k).isSome = true
 ·rw [if_pos q, if_pos q]; exact r.repl k ry
 ·rw [if_neg q, if_neg q]; exact Paired.snoc r ⟨rfl, hb, ry⟩
theorem KT.keeps {H H' : Hp} {kvs : List (List Key × V)} {xs : List (List Key × Addr × Value)} (r : KT H kvs xs) (ht : ∀ b ys, H b = some (.tup ys) → H' b = some (.tup ys)) : KT H' kvs xs :=
 Paired.mapP r fun _ _ z => ⟨z.1, ht _ _ z.2.1, z.2.2⟩
section
variable {P : Program} {w : World} {H : Hp} {h : Heap} {a : Addr}
end
section
variable {X : Cx} {pins : List (Addr × Obj)} {σ : St} {H : Hp} {s : Shared} {a : Addr} {y v : V} {u r : Value} {o : Option V} {A : Around} {E : Value → Shared → Prop}
theorem Inv.big (I : Inv X pins σ H s) : sysModules < s.heap.objs.size := by
 have h : mainGlobals < s.heap.objs.size := (I.mod.glob.keeps I.bk).lt
 exact Nat.lt_trans (by decide) h
end
section
variable {X : Cx} {pins : List (Addr × Obj)} {σ : St} {H : Hp} {s : Shared} {a : Addr} {kvs : List (Key × V)} {k : Key} {u : Value} {A : Around} {E : Value → Shared → Prop}
end
section
variable {X : Cx} {o i e value : Expr} {pos pos' tpos : Pos} {td ty tv : TE}
end
section
variable {X : Cx} {pos : Pos}
end
section
variable {X : Cx} {pins : List (Addr × Obj)} {σ : St} {H : Hp} {s : Shared} {a : Addr} {y d : V} {u r : Value} {o : Option V} {A : Around} {E : Value → Shared → Prop}
end
section
variable {X : Cx} {o e f : Expr} {apos cpos : Pos} {td ty tx : TE}
end
section
variable {X : Cx} {pins : List (Addr × Obj)} {σ : St} {H : Hp} {s : Shared} {a : Addr} {kvs : List (Key × V)} {A : Around} {E : Value → Shared → Prop}
end
section
variable {X : Cx} {pins : List (Addr × Obj)} {σ : St} {H : Hp} {s : Shared} {a : Addr} {y : V} {u : Value} {A : Around} {E : Value → Shared → Prop}
end
end L2
namespace L2
open PySem PySem.Spec PyProof.Rows
section
variable {X : Cx}
end
end L2
namespace L2
open PySem PySem.Spec PyProof.Rows
theorem lookup_mem {α β : Type} [BEq α] [LawfulBEq α] : ∀ {l : List (α × β)} {x : α} {v : β}, l.lookup x = some v → (x, v) ∈ l
 | [], _, _, h => by simp at h
 | (a, b) :: r, x, v, h => by
  rw [List.lookup_cons] at h
  cases e : x == a with
  | true => rw [e] at h; have e' := eq_of_beq e; subst e'; cases h; exact List.mem_cons_self
  | false => rw [e] at h; exact List.mem_cons_of_mem _ (lookup_mem h)
theorem closure_go {env : Env} : ∀ (names : List (Str × NameKind)) (cs : List (Str × Addr)),
    (∀ y ∈ names, y.2 = .free → ∃ c, env.cells.lookup y.1 = some c) → (∀ x c, cs.lookup x = some c → env.cells.lookup x = some c) →
    ∃ cl, (forIn names cs fun x r => if (x.snd == NameKind.free) = true then do
                let z ← cellOf env x.fst
                pure (ForInStep.yield ((x.fst, z) :: r))
              else pure (ForInStep.yield r) : Sem (List (Str × Addr))) = pure cl ∧ (∀ x c, cl.lookup x = some c → env.cells.lookup x = some c) ∧
      (∀ x, (∃ c, cs.lookup x = some c) ∨ (x, NameKind.free) ∈ names → ∃ c, cl.lookup x = some c)
  | [], cs, _, h2 => ⟨cs, by simp, h2, fun x hx => by
      rcases hx with h | h
      · exact h
      · cases h⟩
  | (n, k) :: r, cs, h1, h2 => by
    rw [List.forIn_cons]
    by_cases hk : k = .free
    · subst hk
      obtain ⟨c, hc⟩ := h1 (n, .free) List.mem_cons_self rfl
      have e : cellOf env n = pure c := by unfold cellOf; rw [hc]
      obtain ⟨cl, e1, h3, h4⟩ := closure_go r ((n, c) :: cs) (fun y hy => h1 y (List.mem_cons_of_mem _ hy)) (fun x c' hx => by
        rw [List.lookup_cons] at hx
        cases q : x == n with
        | true => rw [q] at hx; cases hx; rw [eq_of_beq q]; exact hc
        | false => rw [q] at hx; exact h2 x c' hx)
      refine ⟨cl, ?_, h3, fun x hx => h4 x ?_⟩
      · simp only [beq_self_eq_true, if_true, e, pure_bind]
        exact e1
      · by_cases q : x = n
        · subst q; exact .inl ⟨c, by simp⟩
        · rcases hx with ⟨c', hx⟩ | hx
          · exact .inl ⟨c', by rw [List.lookup_cons, beq_eq_false_iff_ne.mpr q]; exact hx⟩
          · rcases List.mem_cons.mp hx with z | z
            · exact absurd (congrArg Prod.fst z) q
            · exact .inr z
    · have hb : (k == NameKind.free) = false := by simpa using hk
      obtain ⟨cl, e1, h3, h4⟩ := closure_go r cs (fun y hy => h1 y (List.mem_cons_of_mem _ hy)) h2
      refine ⟨cl, ?_, h3, fun x hx => h4 x ?_⟩
      · simp only [hb, Bool.false_eq_true, if_false, pure_bind]
        exact e1
      · rcases hx with hx | hx
        · exact .inl hx
        · rcases List.mem_cons.mp hx with z | z
          · exact absurd (congrArg Prod.snd z).symm hk
          · exact .inr z
theorem closure_of {sc : Scope} {env : Env} (h : ∀ y ∈ sc.names, y.2 = .free → ∃ c, env.cells.lookup y.1 = some c) :
  ∃ cl, closureFor sc env = pure cl ∧ (∀ x c, cl.lookup x = some c → env.cells.lookup x = some c) ∧ (∀ x, (x, NameKind.free) ∈ sc.names → ∃ c, cl.lookup x = some c) := by
 obtain ⟨cl, e, h1, h2⟩ := closure_go (env := env) sc.names [] h (fun x c z => by simp at z)
 refine ⟨cl, ?_, h1, fun x hx => h2 x (.inr hx)⟩
 simp only [closureFor]
 rw [bind_pure]
 exact e
noncomputable def ErrC (X : Cx) (C : Addr) (x : Value) (s' : Shared) : Prop := ∃ m, s'.heap.Ns C m ∧ ∀ h', Heap.SameBut C s'.heap h' → ∀ cenv : Env, cenv.locals = C → wpAny (model X.prog X.w) X.A (passOn "comprehension.variables-let-go" x cenv : Sem Value) (fun _ _ => False) X.xe { s' with heap := h' }
noncomputable abbrev Cx.comp (X : Cx) (N' : List Str) (scope : Scope) (cl : List (Str × Addr)) (C : Addr) (s2 : Shared) (H2 : Hp) (fp : List Addr) : Cx :=
 { X with N := N', env := compEnvC scope cl C X.env, s₀ := s2, H₀ := H2, outer := X.stack, stack := X.stack, ex := fp, fn := fun x => decide (scope.names.lookup x = some .cell), pn := [], xe := notedBy (model X.prog X.w) X.A (compEnvC scope cl C X.env) (ErrC X C) }
noncomputable def Cat (X : Cx) (σ : St) (C : Addr) (s2 : Shared) (H2 : Hp) (fp : List Addr) : Prop := ∃ pins, Inv X pins σ H2 s2 ∧ (∀ b ∈ fp, FpOk X pins H2 b) ∧ s2.heap.objs.size ≤ C
structure CSc (psc : Scope) (N : List Str) (sc : Scope) (N' : List Str) (k : Nat) (ix : List Nat) : Prop where
 kind : sc.kind = .function
 cel : ∀ y ∈ sc.names, y.2 = .cell → sc.names.lookup y.1 = some .cell
 loc : ∀ y ∈ sc.names, y.2 = .local → sc.names.lookup y.1 = some .local
 fre : ∀ y ∈ sc.names, y.2 = .free → psc.names.lookup y.1 = some .cell ∨ psc.names.lookup y.1 = some .free
 len : N'.length = k + ix.length
 nd : N'.Nodup
 cap : ∀ (j i : Nat), ix[j]? = some i → ∃ y, N'[k + j]? = some y ∧ N[i]? = some y ∧ sc.names.lookup y = some .free
noncomputable def cscOk (psc : Scope) (N : List Str) (sc : Scope) (N' : List Str) (k : Nat) (ix : List Nat) : Bool :=
 decide (sc.kind = .function) && sc.names.all (fun y => (decide (y.2 ≠ .cell) || decide (sc.names.lookup y.1 = some .cell)) && (decide (y.2 ≠ .local) || decide (sc.names.lookup y.1 = some .local)) && (decide (y.2 ≠ .free) || decide (psc.names.lookup y.1 = some .cell) || decide (psc.names.lookup y.1 = some .free))) &&
 decide (N'.length = k + ix.length) && decide N'.Nodup && (List.range ix.length).all (fun j => match N'[k + j]?, N[ix.getD j 0]? with
  | some y, some z => decide (y = z) && decide (sc.names.lookup y = some .free)
  | _, _ => false)
theorem CSc.of {psc : Scope} {N : List Str} {sc : Scope} {N' : List Str} {k : Nat} {ix : List Nat} (h : cscOk psc N sc N' k ix = true) : CSc psc N sc N' k ix := by
 unfold cscOk at h
 simp only [Bool.and_eq_true, decide_eq_true_eq, List.all_eq_true, Bool.or_eq_true] at h
 obtain ⟨⟨⟨⟨h1, h2⟩, h3⟩, h4⟩, h5⟩ := h
 refine ⟨h1, fun y hy e => ?_, fun y hy e => ?_, fun y hy e => ?_, h3, h4, fun j i e => ?_⟩
 ·rcases (h2 y hy).1.1 with z | z
  ·exact absurd e z
  ·exact z
 ·rcases (h2 y hy).1.2 with z | z
  ·exact absurd e z
  ·exact z
 ·rcases (h2 y hy).2 with (z | z) | z
  ·exact absurd e z
  ·exact .inl z
  ·exact .inr z
 ·obtain ⟨hj, ei⟩ := List.getElem?_eq_some_iff.mp e
  have := h5 j (List.mem_range.mpr hj)
  have e2 : ix.getD j 0 = i := by rw [List.getD_eq_getElem?_getD, e]; rfl
  rw [e2] at this
  split at this
  ·rename_i y z ey ez
   simp only [Bool.and_eq_true, decide_eq_true_eq] at this
   obtain ⟨rfl, hl⟩ := this
   exact ⟨y, ey, ez, hl⟩
  ·cases this
noncomputable def cS (k : Nat) (ix : List Nat) (σ : St) : St := List.replicate k none ++ ix.map fun i => (σ[i]?).join
theorem relabel_free {env : Env} : ∀ {names : List (Str × NameKind)} {x : Str},
    ((names.map fun (n, k) => if (k == NameKind.free && env.scope.kind == .function && env.kindOf n == some .cell) then (n, NameKind.cell) else (n, k)).lookup x = some .cell ∨
     (names.map fun (n, k) => if (k == NameKind.free && env.scope.kind == .function && env.kindOf n == some .cell) then (n, NameKind.cell) else (n, k)).lookup x = some .free) → names.lookup x = some .free ∨ names.lookup x = some .cell
  | [], _, h => by simp at h
  | (n, k) :: r, x, h => by
    have ih := @relabel_free env r x
    rw [List.map_cons] at h
    dsimp only at h
    by_cases hcd : (k == NameKind.free && env.scope.kind == .function && env.kindOf n == some .cell) = true
    · have hkf : k = .free := by
        simp only [Bool.and_eq_true] at hcd
        exact eq_of_beq hcd.1.1
      rw [if_pos hcd] at h
      cases hx : x == n with
      | true => rw [List.lookup_cons, hx, hkf]; exact .inl rfl
      | false => simp only [List.lookup_cons, hx] at h; simp only [List.lookup_cons, hx]; exact ih h
    · rw [if_neg hcd] at h
      cases hx : x == n with
      | true =>
        simp only [List.lookup_cons, hx] at h
        rw [List.lookup_cons, hx]
        rcases h with h | h
        · exact .inr h
        · exact .inl h
      | false => simp only [List.lookup_cons, hx] at h; simp only [List.lookup_cons, hx]; exact ih h
theorem relabel_cap {env : Env} : ∀ {names : List (Str × NameKind)} {x : Str}, names.lookup x = some .free →
    ((names.map fun (n, k) => if (k == NameKind.free && env.scope.kind == .function && env.kindOf n == some .cell) then (n, NameKind.cell) else (n, k)).lookup x = some .cell ∨
     (names.map fun (n, k) => if (k == NameKind.free && env.scope.kind == .function && env.kindOf n == some .cell) then (n, NameKind.cell) else (n, k)).lookup x = some .free)
  | [], _, h => by simp at h
  | (n, k) :: r, x, h => by
    have ih := @relabel_cap env r x
    rw [List.map_cons]
    dsimp only
    cases hx : x == n with
    | true =>
      rw [List.lookup_cons, hx] at h
      cases h
      by_cases hcd : (NameKind.free == NameKind.free && env.scope.kind == .function && env.kindOf n == some .cell) = true
      · rw [if_pos hcd]; simp [List.lookup_cons, hx]
      · rw [if_neg hcd]; simp [List.lookup_cons, hx]
    | false =>
      rw [List.lookup_cons, hx] at h
      by_cases hcd : (k == NameKind.free && env.scope.kind == .function && env.kindOf n == some .cell) = true
      · rw [if_pos hcd]; simp only [List.lookup_cons, hx]; exact ih h
      · rw [if_neg hcd]; simp only [List.lookup_cons, hx]; exact ih h
structure ClOk (X : Cx) (sc : Scope) (cl : List (Str × Addr)) (C : Addr) (h4 : Heap) : Prop where
 src : ∀ x c, cl.lookup x = some c → X.env.cells.lookup x = some c ∨ (C < c ∧ h4.IsCell c none)
 inj : ∀ x y c, cl.lookup x = some c → cl.lookup y = some c → x = y
 has : ∀ x, (sc.names.lookup x = some .free ∨ sc.names.lookup x = some .cell) → ∃ c, cl.lookup x = some c
 own : ∀ x c, sc.names.lookup x = some .cell → cl.lookup x = some c → C < c
 old : ∀ x c, sc.names.lookup x = some .free → cl.lookup x = some c → X.env.cells.lookup x = some c
theorem cellsFrom_acc : ∀ (names : List (Str × NameKind)) (n : Nat) (acc : List (Str × Addr)), cellsFrom n names acc = cellsFrom n names [] ++ acc
 | [], n, acc => rfl
 | (x, k) :: r, n, acc => by
  unfold cellsFrom
  split
  ·rw [cellsFrom_acc r (n + 1) ((x, n) :: acc), cellsFrom_acc r (n + 1) [(x, n)], List.append_assoc]; rfl
  ·exact cellsFrom_acc r n acc
theorem cellsFrom_in : ∀ (names : List (Str × NameKind)) (n : Nat) (y : Str × Addr), y ∈ cellsFrom n names [] → (y.1, NameKind.cell) ∈ names
 | [], n, y, h => by cases h
 | (x, k) :: r, n, y, h => by
  unfold cellsFrom at h
  split at h
  ·rename_i hk
   rw [cellsFrom_acc] at h
   rcases List.mem_append.mp h with h | h
   ·exact List.mem_cons_of_mem _ (cellsFrom_in r _ y h)
   ·have e : y = (x, n) := by simpa using h
    subst e
    have hk' : k = .cell := eq_of_beq hk
    subst hk'
    exact List.mem_cons_self
  ·exact List.mem_cons_of_mem _ (cellsFrom_in r _ y h)
theorem lookup_app {β : Type} : ∀ (l1 l2 : List (Str × β)) (x : Str), (l1 ++ l2).lookup x = (match l1.lookup x with | some v => some v | none => l2.lookup x)
 | [], l2, x => rfl
 | (a, b) :: l1, l2, x => by
  rw [List.cons_append, List.lookup_cons, List.lookup_cons]
  cases x == a with
  | true => rfl
  | false => exact lookup_app l1 l2 x
theorem wpAny_newEnvC {M : Model} {A : Around} {E : Value → Shared → Prop} {s : Shared} {scope : Scope} {globals : Addr} {cl : List (Str × Addr)} {qual : Str} {env : Env} {builtins : Addr} {Q : Env → Shared → Prop}
  (hQ : Q (newEnv scope s.heap.objs.size globals (cellsFrom (s.heap.objs.size + 1) scope.names cl) qual none .none (some env) builtins) { s with heap := pushCells (s.heap.push { cls := .type "dict", data := .dict #[] }) scope.names }) :
  wpAny M A (newFunctionEnv scope globals cl [] qual none .none (some env) builtins) Q E s := by
 simp only [newFunctionEnv, Option.isSome_some, if_true]
 refine wpAny_bind (wpAny_alloc ?_)
 refine wpAny_bind (wpAny_layCells _ (fun name kind cells => by cases hkc : kind == NameKind.cell <;> simp [hkc]) _ _ _ _ ?_)
 rw [show ({ s with heap := s.heap.push { cls := .type "dict", data := .dict #[] } } : Shared).heap.objs.size = s.heap.objs.size + 1 from Heap.size_push ..]
 simp only [List.forIn_nil]
 exact wpAny_bind (wpAny_pure (wpAny_pure hQ))
section
variable {X : Cx} {pins : List (Addr × Obj)} {σ : St} {H : Hp} {s2 : Shared}
theorem ClOk.of {sc : Scope} {N' : List Str} {ix : List Nat} {k : Nat} (I : Inv X pins σ H s2) (S : CSc X.env.scope X.N sc N' k ix) {cl : List (Str × Addr)} (hcl1 : ∀ x c, cl.lookup x = some c → X.env.cells.lookup x = some c) (hcl2 : ∀ x, (x, NameKind.free) ∈ sc.names → ∃ c, cl.lookup x = some c)
  {g : Heap} {o : Obj} (hg : s2.heap.objs.size ≤ g.objs.size) : ClOk X sc (cellsFrom (g.objs.size + 1) sc.names cl) g.objs.size (pushCells (g.push o) sc.names) := by
 have ok := cellsFrom_ok sc.names (g.push o) (g.objs.size + 1) [] ⟨(fun _ _ hm => nomatch hm), List.Pairwise.nil⟩ (by rw [Heap.size_push]; exact Nat.le_refl _)
 rw [Heap.size_push] at ok
 rw [cellsFrom_acc]
 have hnew : ∀ x c, (cellsFrom (g.objs.size + 1) sc.names []).lookup x = some c → g.objs.size < c ∧ (pushCells (g.push o) sc.names).IsCell c none ∧ (x, NameKind.cell) ∈ sc.names := fun x c e => by
  have hm := lookup_mem e
  have := ok.empty x c hm
  exact ⟨Nat.lt_of_succ_le this.2, this.1, cellsFrom_in _ _ _ hm⟩
 have hold : ∀ x c, cl.lookup x = some c → c < g.objs.size := fun x c e => by
  obtain ⟨v, ob, hob, _⟩ := I.cell x c (hcl1 x c e)
  exact Nat.lt_of_lt_of_le (Heap.lt_size hob) hg
 have hget : ∀ x c, (cellsFrom (g.objs.size + 1) sc.names [] ++ cl).lookup x = some c → ((cellsFrom (g.objs.size + 1) sc.names []).lookup x = some c) ∨ ((cellsFrom (g.objs.size + 1) sc.names []).lookup x = none ∧ cl.lookup x = some c) := fun x c e => by
  rw [lookup_app] at e
  cases q : (cellsFrom (g.objs.size + 1) sc.names []).lookup x with
  | some v => rw [q] at e; exact .inl e
  | none => rw [q] at e; exact .inr ⟨rfl, e⟩
 have hnone : ∀ x, sc.names.lookup x = some .free → (cellsFrom (g.objs.size + 1) sc.names []).lookup x = none := fun x hx => by
  cases q : (cellsFrom (g.objs.size + 1) sc.names []).lookup x with
  | none => rfl
  | some c =>
   have := S.cel (x, .cell) (hnew x c q).2.2 rfl
   rw [hx] at this; cases this
 refine ⟨fun x c e => ?_, fun x y c e1 e2 => ?_, fun x hx => ?_, fun x c hx e => ?_, fun x c hx e => ?_⟩
 ·rcases hget x c e with q | ⟨_, q⟩
  ·exact .inr ⟨(hnew x c q).1, (hnew x c q).2.1⟩
  ·exact .inl (hcl1 x c q)
 ·rcases hget x c e1 with q1 | ⟨_, q1⟩
  ·rcases hget y c e2 with q2 | ⟨_, q2⟩
   ·have m1 := lookup_mem q1
    have m2 := lookup_mem q2
    by_cases hxy : x = y
    ·exact hxy
    ·exfalso
     have := ok.apart
     obtain ⟨i, hi, ei⟩ := List.getElem_of_mem m1
     obtain ⟨j, hj, ej⟩ := List.getElem_of_mem m2
     have pw := List.pairwise_iff_getElem.mp this
     rcases Nat.lt_trichotomy i j with h | h | h
     ·have := pw i j hi hj h
      rw [ei, ej] at this; exact this rfl
     ·subst h
      rw [ei] at ej
      exact hxy (congrArg Prod.fst ej)
     ·have := pw j i hj hi h
      rw [ei, ej] at this; exact this rfl
   ·exact absurd (hold y c q2) (Nat.not_lt.mpr (Nat.le_of_lt (hnew x c q1).1))
  ·rcases hget y c e2 with q2 | ⟨_, q2⟩
   ·exact absurd (hold x c q1) (Nat.not_lt.mpr (Nat.le_of_lt (hnew y c q2).1))
   ·exact I.ok.inj x y c (hcl1 x c q1) (hcl1 y c q2)
 ·rw [lookup_app]
  rcases hx with hx | hx
  ·rw [hnone x hx]
   exact hcl2 x (lookup_mem hx)
  ·obtain ⟨c, hc⟩ := cell_has (n := g.objs.size + 1) hx
   rw [hc]; exact ⟨c, rfl⟩
 ·rcases hget x c e with q | ⟨q, _⟩
  ·exact (hnew x c q).1
  ·obtain ⟨c', hc⟩ := cell_has (n := g.objs.size + 1) hx
   rw [hc] at q; cases q
 ·rcases hget x c e with q | ⟨_, q⟩
  ·rw [hnone x hx] at q; cases q
  ·exact hcl1 x c q
theorem Inv.child {fp : List Addr} {sc : Scope} {N' : List Str} {ix : List Nat} {k : Nat} (I : Inv X pins σ H s2) (S : CSc X.env.scope X.N sc N' k ix) (hf : ∀ b ∈ fp, FpOk X pins H b)
  (hfo : ∀ b ∈ fp, ∃ o, s2.heap.get? b = some o) {cl : List (Str × Addr)}
  {C : Addr} {s4 : Shared} (L : ClOk X sc cl C s4.heap) (hC : s2.heap.objs.size ≤ C) (keep : ∀ b o, s2.heap.get? b = some o → s4.heap.get? b = some o) {m0 : Str → Option Value} (hns : s4.heap.Ns C m0) (ho : s4.os = s2.os) (hg : AllBare s4.gens) :
  Inv (X.comp N' sc cl C s2 H fp) [] (cS k ix σ) H s4 where
 ok := {
  mod := I.ok.mod
  kind := S.kind
  glob := I.ok.glob
  blt := I.ok.blt
  above := hC
  inj := L.inj
  has := fun x hx => L.has x (relabel_free (env := X.env) hx)
  cab := fun x c h e => Nat.le_trans hC (Nat.le_of_lt (L.own x c (of_decide_eq_true h) e))
  hd := I.ok.hd
  frames := I.ok.frames
  stk := .inl rfl
  exf := fun b hb => by
   obtain ⟨f0, f1, f2, f3, f4, f5⟩ := hf b hb
   obtain ⟨o, e⟩ := hfo b hb
   refine ⟨Nat.ne_of_lt (Nat.lt_of_lt_of_le (Heap.lt_size e) hC), fun x c z => ?_⟩
   rcases L.src x c z with z | z
   ·exact f4 x c z
   ·exact Ne.symm (Nat.ne_of_lt (Nat.lt_trans (Nat.lt_of_lt_of_le (Heap.lt_size e) hC) z.1))
  bs := fun b o e => I.bs b o e
  bsz := Nat.le_trans I.ok.bsz I.sz
  noex := fun b o e hb => by
   obtain ⟨f0, f1, f2, f3, f4, f5⟩ := hf b hb
   rcases f3 with z | z
   ·exact I.ok.noex b o e z
   ·exact absurd (Nat.lt_of_lt_of_le (Heap.lt_size (I.ok.bs b o e).1) z) (Nat.lt_irrefl _)
  exfs := fun b hb hz => by
   obtain ⟨f0, f1, f2, f3, f4, f5⟩ := hf b hb
   rcases List.mem_cons.mp (I.stkSub b hz) with z | z
   ·exact f1 z
   ·exact f2 z
  funs := I.stack
  frf := I.stkFree }
 os := ho
 bare := hg
 base := Un.kept keep
 loc := ⟨m0, hns, fun i x v e1 e2 e3 => by
  unfold cS at e2
  by_cases hi : i < k
  ·rw [List.getElem?_append_left (by simpa using hi), List.getElem?_replicate, if_pos hi] at e2
   cases e2
  ·obtain ⟨j, rfl⟩ : ∃ j, i = k + j := ⟨i - k, by omega⟩
   rw [List.getElem?_append_right (by simp), List.length_replicate, Nat.add_sub_cancel_left, List.getElem?_map] at e2
   cases q : ix[j]? with
   | none => rw [q] at e2; cases e2
   | some i0 =>
    rw [q] at e2
    obtain ⟨y, hy1, hy2, hy3⟩ := S.cap j i0 q
    have ey : y = x := by
     have : (X.comp N' sc cl C s2 H fp).N[k + j]? = some y := hy1
     rw [this] at e1; exact Option.some.inj e1
    subst ey
    have ev : σ[i0]? = some (some v) := by
     simp only [Option.map_some, Option.some.injEq] at e2
     cases r : σ[i0]? with
     | none => rw [r] at e2; cases e2
     | some z => rw [r] at e2; exact congrArg some e2
    obtain ⟨m, hn, hl⟩ := I.loc
    have hfr := S.fre (y, .free) (lookup_mem hy3) rfl
    have hv : Vis X.env.scope y := .inr hfr
    obtain ⟨u, r1, l1⟩ := hl i0 y v hy2 ev hv
    refine ⟨u, r1, .inr ⟨relabel_cap (env := X.env) hy3, ?_⟩⟩
    obtain ⟨c, hc⟩ := L.has y (.inl hy3)
    refine ⟨c, hc, ?_⟩
    have hc' := L.old y c hy3 hc
    rcases l1 with ⟨hk, _⟩ | ⟨_, c', hc2, z⟩
    ·have hk' : X.env.scope.names.lookup y = some .local := hk
     rcases hfr with w | w
     ·rw [hk'] at w; cases w
     ·rw [hk'] at w; cases w
    ·rw [hc'] at hc2; cases hc2
     obtain ⟨ob, hob, hd⟩ := z
     exact ⟨ob, keep _ _ hob, hd⟩⟩
 cell := fun x c e => by
  rcases L.src x c e with e | e
  ·obtain ⟨v, ob, hob, hd⟩ := I.cell x c e
   exact ⟨v, ob, keep _ _ hob, hd⟩
  ·exact ⟨none, e.2⟩
 free := I.hok.fresh hC
 freeC := fun x c e => by
  rcases L.src x c e with e | e
  ·exact I.freeC x c e
  ·exact I.hok.fresh (Nat.le_trans hC (Nat.le_of_lt e.1))
 pin := fun p hp => by cases hp
 hok := I.hok.kept keep
 len := by
  show (cS k ix σ).length = N'.length
  rw [S.len]; unfold cS; simp
theorem Inv.back {fp : List Addr} {sc : Scope} {N' : List Str} {cl : List (Str × Addr)} {C : Addr} {pl : List (Addr × Obj)} {σc : St} {H5 : Hp} {s5 : Shared} (I : Inv X pins σ H s2) (hf : ∀ b ∈ fp, FpOk X pins H b) (J : Inv (X.comp N' sc cl C s2 H fp) pl σc H5 s5) : Inv X pins σ H5 s5 :=
 I.call' (ch := fp) J.os J.base J.hok J.bare fun b hb => by
  obtain ⟨f0, f1, f2, f3, f4, f5⟩ := hf b hb
  exact ⟨f3, f1, f4, f5⟩
end
section
variable {X : Cx} {pins : List (Addr × Obj)} {σ : St} {H : Hp} {s : Shared}
theorem Inv.track {a : Addr} {o : HO} (I : Inv X pins σ H s) (ha : X.s₀.heap.objs.size ≤ a) (hn : H a = none) (hL : a ≠ X.env.locals) (hc : ∀ x c, X.env.cells.lookup x = some c → c ≠ a) (hp : ∀ p ∈ X.pn ++ pins, p.1 ≠ a)
  (new : ObjOk X.prog X.w (upd H a o) s.heap a o) : Inv X pins σ (upd H a o) s where
 ok := I.ok
 os := I.os
 bare := I.bare
 base := {
  keep := I.base.keep
  slot := I.base.slot
  free := fun b ob e n hx => by
   rw [upd_ne (Nat.ne_of_lt (Nat.lt_of_lt_of_le (Heap.lt_size e) ha))]
   exact I.base.free b ob e n hx
  there := I.base.there
  tups := fun b xs e => by
   have := I.base.tups b xs e
   rw [upd_ne (ne_of_none this hn)]; exact this
  frzs := fun b ob u e => by
   have := I.base.frzs b ob u e
   rw [upd_ne (ne_of_none this hn)]; exact this
  tbls := fun b ps e => by
   obtain ⟨mo, this⟩ := I.base.tbls b ps e
   exact ⟨mo, by rw [upd_ne (ne_of_none this hn)]; exact this⟩ }
 loc := I.loc
 cell := I.cell
 free := by rw [upd_ne (Ne.symm hL)]; exact I.free
 freeC := fun x c e => by rw [upd_ne (hc x c e)]; exact I.freeC x c e
 pin := fun p h => by
  obtain ⟨e, n, r⟩ := I.pin p h
  exact ⟨e, by rw [upd_ne (hp p h)]; exact n, r⟩
 hok := fun b u q => by
  by_cases hb : b = a
  ·subst hb; rw [upd_same] at q; cases q; exact new
  ·rw [upd_ne hb] at q
   exact (I.hok b u q).stay (fun c v _ r => r) (fun c r => by rw [upd_ne (ne_of_none r hn)]; exact r) fun c xs r => by rw [upd_ne (ne_of_none r hn)]; exact r
 len := I.len
end
noncomputable def PF (X : Cx) (ifs : List Expr) (t : TT) : Prop :=
 ∀ (pins : List (Addr × Obj)) (s : Shared) (σ : St) (H : Hp) (Q : Bool → Hp → Prop), Inv X pins σ H s → t σ H Q →
  wpAny (model X.prog X.w) X.A (forIn ifs true fun c r => if r = true then do let ok ← isTrue c X.env (eval c X.env); pure (ForInStep.yield ok) else pure (ForInStep.yield r)) (TP X pins σ Q) X.xe s
noncomputable def tTrue : TT := fun _ H Q => Q true H
theorem pf_nil {X : Cx} : PF X [] tTrue := fun _ _ _ H _ I h => wpAny_tests_nil ⟨H, I, h⟩
theorem pf_one {X : Cx} {c : Expr} {t : TT} (h : PT X c t) : PF X [c] t := fun pins s σ H Q I hw => wpAny_tests_one (h pins s σ H Q I hw)
theorem compLoop_go {prog : Program} {w : World} {A : Around} {R : Result → Shared → Prop} {s : Shared} {e target iter : Expr} {ifs : List Expr} {it acc : Value} {env : Env} {act : Sem Unit} (hlp : ∀ (R : Result → Shared → Prop) (s : Shared) (I : Nat → Shared → Prop) (n : Nat), (∀ n s, I n s → wpAny (model prog w) A ((compTurn e 0 it acc env).onRaise (fun x => do noteFrame x env; theTreesLotGoes x)) (fun fin s' => match fin with
   | .done f => R (.ok f) s'
   | .again c' => c' = Code.compLoop e 0 it acc env ∧ ∃ m, m < n ∧ I m s') (fun e s' => R (.error e) s') s) → I n s → codeAny (model prog w) A (.compLoop e 0 it acc env) R s)
  (heq : compTurn e 0 it acc env = (do
   standAt iter.pos
   match ← pyNext it with
   | none => pure (.done .next)
   | some v =>
    letOwnedTupleGo target it v
    assign target env v
    let mut ok := true
    for c in ifs do
     if ok then ok ← isTrue c env (eval c env)
    if ok then act
    again (.compLoop e 0 it acc env))) (I : Nat → Shared → Prop)
  (turn : ∀ n s, I n s → wpAny (model prog w) A (pyNext it) (fun r s₁ => match r with
   | none => R (.ok .next) s₁
   | some v => wpAny (model prog w) A (letOwnedTupleGo target it v) (fun _ s₁ => wpAny (model prog w) A (assign target env v) (fun _ s₂ =>
     wpAny (model prog w) A (forIn ifs true fun c r => if r = true then do let ok ← isTrue c env (eval c env); pure (ForInStep.yield ok) else pure (ForInStep.yield r)) (fun ok s₃ =>
      if ok = true then wpAny (model prog w) A act (fun _ s₅ => ∃ m, m < n ∧ I m s₅) (notedBy (model prog w) A env fun e s' => R (.error e) s') s₃
      else ∃ m, m < n ∧ I m s₃) (notedBy (model prog w) A env fun e s' => R (.error e) s') s₂) (notedBy (model prog w) A env fun e s' => R (.error e) s') s₁) (notedBy (model prog w) A env fun e s' => R (.error e) s') s₁) (notedBy (model prog w) A env fun e s' => R (.error e) s') s)
  (n : Nat) (h : I n s) : codeAny (model prog w) A (.compLoop e 0 it acc env) R s := by
 refine hlp R s I n (fun n s hI => ?_) h
 refine wpAny_noted ?_
 rw [heq]
 refine wpAny_bind (wpAny_standAt (wpAny_bind (wpAny_mono (turn n s hI) (fun r s₁ h₁ => ?_) fun _ _ f => f)))
 cases r with
 | none => exact wpAny_pure h₁
 | some v =>
  refine wpAny_bind (wpAny_mono h₁ (fun _ s₂ h₂ => ?_) fun _ _ f => f)
  refine wpAny_bind (wpAny_mono h₂ (fun _ s₂ h₂ => wpAny_bind (wpAny_mono h₂ (fun ok s₃ h₃ => ?_) fun _ _ f => f)) fun _ _ f => f)
  cases ok with
  | false => exact wpAny_pure ⟨rfl, h₃⟩
  | true => exact wpAny_bind (wpAny_mono h₃ (fun _ s₅ h₅ => wpAny_pure ⟨rfl, h₅⟩) fun _ _ f => f)
structure Acc (α β : Type) where
 a0 : α
 add : α → β → α
 len : α → Nat
 ho : α → HO
noncomputable def cRun {α β : Type} (ac : Acc α β) (k : Nat) (ix : List Nat) (g : TG) (tt : TT) (te : St → Hp → (β → Hp → Prop) → Prop) (σ : St) (J : It) (H1 : Hp) (Q : α → Hp → Prop) : Prop :=
 ∃ W : Nat → Nat → α → Hp → Prop, (∃ m, W 0 m ac.a0 H1) ∧ ∀ i m ys H, W i m ys H → ac.len ys < sizeLine ∧
  ((J.stop i H ∧ Q ys H) ∨ (J.go i H ∧ ∃ N : α → Hp → Prop, (∀ ys' H', N ys' H' → ∃ m', m' < m ∧ W (i + 1) m' ys' H') ∧ ∀ x H', J.yld i H x H' → g x (cS k ix σ) H' fun σ2 H2 => σ2.drop k = (cS k ix σ).drop k ∧ tt σ2 H2 fun b H3 =>
   if b = true then te σ2 H3 fun y H4 => N (ac.add ys y) H4 else N ys H3))
noncomputable abbrev accL : Acc (List V) V := ⟨[], fun ys y => ys ++ [y], List.length, .lst⟩
noncomputable def tComp (k : Nat) (ix : List Nat) (wi : TI) (g : St → TG) (tt : St → TT) (te : St → TE) : TE := fun σ H Q =>
 wi σ H fun J H1 => cRun accL k ix (g σ) (tt σ) (te σ) σ J H1 fun ys H2 => ∀ p, H2 p = none → Q (.ref p) (upd H2 p (.lst ys))
structure AccK (P : Program) (w : World) {α β γ : Type} (ac : Acc α β) (OK : α → Obj → Prop) (RB : β → γ → Prop) (o0 : Obj) (na : Sem Value) (st : Addr → γ → Sem Unit) : Prop where
 new : ∀ (A : Around) (E : Value → Shared → Prop) (s : Shared) (Q : Value → Shared → Prop), Q (.ref s.heap.objs.size) { s with heap := s.heap.push o0 } → wpAny (model P w) A na Q E s
 z0 : OK ac.a0 o0
 live : o0.isFreed = false
 cell : ∀ a o, OK a o → ∀ v, o.data ≠ .cell v
 st : ∀ (A : Around) (E : Value → Shared → Prop) (s : Shared) (Q : Unit → Shared → Prop) (D : Addr) (a : α) (o : Obj) (y : β) (b : γ), OK a o → ac.len a < sizeLine → RB y b → s.heap.get? D = some o →
  (∀ h' o' t', Heap.SameBut D s.heap h' → h'.get? D = some o' → OK (ac.add a y) o' → Q () { s with heap := h', toks := t' }) → wpAny (model P w) A (st D b) Q E s
 ok : ∀ (H : Hp) (h : Heap) (D : Addr) (a : α) (o : Obj), OK a o → ac.len a ≤ sizeLine → sysModules < D → h.get? D = some o → ObjOk P w H h D (ac.ho a)
noncomputable def PEv (X : Cx) {β γ : Type} (RB : β → γ → Prop) (st : Addr → γ → Sem Unit) (act : Addr → Env → Sem Unit) (te : St → Hp → (β → Hp → Prop) → Prop) : Prop := ∀ (D : Addr) (pins : List (Addr × Obj)) (s : Shared) (σ : St) (H : Hp) (Q : β → Hp → Prop) (R : Unit → Shared → Prop), Inv X pins σ H s → te σ H Q →
 (∀ y b s' H', Inv X pins σ H' s' → RB y b → Q y H' → wpAny (model X.prog X.w) X.A (st D b) R X.xe s') → wpAny (model X.prog X.w) X.A (act D X.env) R X.xe s
section
variable {X : Cx} {pins : List (Addr × Obj)} {σ : St} {H : Hp} {s2 : Shared}
theorem comp_core {α β γ : Type} {ac : Acc α β} {OK : α → Obj → Prop} {RB : β → γ → Prop} {o0 : Obj} {na : Sem Value} {sto : Addr → γ → Sem Unit} {act : Addr → Env → Sem Unit} {e tg iter : Expr} {ifs : List Expr} {scope : Scope} {N' : List Str} {k : Nat} {ix : List Nat} {g : TG} {tt : TT} {te : St → Hp → (β → Hp → Prop) → Prop} {cl : List (Str × Addr)} {it : Addr} {fp : List Addr} {tn : Nat → Heap → Prop} {J : It}
  {Q : α → Hp → Prop} {RR : Value → Addr → Result → Shared → Prop} {E : Value → Shared → Prop} (AK : AccK X.prog X.w ac OK RB o0 na sto)
  (hlp : ∀ (it acc : Value) (env : Env) (R : Result → Shared → Prop) (s : Shared) (I : Nat → Shared → Prop) (n : Nat), (∀ n s, I n s → wpAny (model X.prog X.w) X.A ((compTurn e 0 it acc env).onRaise (fun x => do noteFrame x env; theTreesLotGoes x)) (fun fin s' => match fin with
   | .done f => R (.ok f) s'
   | .again c' => c' = Code.compLoop e 0 it acc env ∧ ∃ m, m < n ∧ I m s') (fun e s' => R (.error e) s') s) → I n s → codeAny (model X.prog X.w) X.A (.compLoop e 0 it acc env) R s)
  (heq : ∀ it D env, compTurn e 0 it (.ref D) env = (do
   standAt iter.pos
   match ← pyNext it with
   | none => pure (.done .next)
   | some v =>
    letOwnedTupleGo tg it v
    assign tg env v
    let mut ok := true
    for c in ifs do
     if ok then ok ← isTrue c env (eval c env)
    if ok then act D env
    again (.compLoop e 0 it (.ref D) env)))
  (hstart : ∀ (R : Result → Shared → Prop) (s : Shared) (it acc : Value) (env : Env), codeAny (model X.prog X.w) X.A (.compLoop e 0 it acc env) R s → wpAny (model X.prog X.w) X.A (pyIter it) (fun it' s' => codeAny (model X.prog X.w) X.A (.compLoop e 0 it' acc env) R s') (notedBy (model X.prog X.w) X.A env fun x s' => R (.error x) s') s →
   codeAny (model X.prog X.w) X.A (.compStart e 0 it acc env) R s) (hcalm : X.calm = true)
  (S : CSc X.env.scope X.N scope N' k ix)
  (hg : ∀ cl C s2 H2 fp, Cat X σ C s2 H2 fp → PG (X.comp N' scope cl C s2 H2 fp) tg g) (ht : ∀ cl C s2 H2 fp, Cat X σ C s2 H2 fp → PF (X.comp N' scope cl C s2 H2 fp) ifs tt) (he : ∀ cl C s2 H2 fp, Cat X σ C s2 H2 fp → PEv (X.comp N' scope cl C s2 H2 fp) RB sto act te)
  (I2 : Inv X pins σ H s2) (T : Turn X.prog X.w X.K tg J fp it tn) (st2 : tn 0 s2.heap) (f2 : ∀ b ∈ fp, FpOk X pins H b) (hR : cRun ac k ix g tt te σ J H Q)
  (hcl1 : ∀ x c, cl.lookup x = some c → X.env.cells.lookup x = some c) (hcl2 : ∀ x, (x, NameKind.free) ∈ scope.names → ∃ c, cl.lookup x = some c)
  (herr : ∀ (D C : Addr) (x : Value) (s' : Shared), ErrC X C x s' → RR (.ref D) C (.error x) s')
  (fin : ∀ (D C : Addr) (ys : α) (H5 : Hp) (s5 : Shared) (m : Str → Option Value), Inv X pins σ (upd H5 D (ac.ho ys)) s5 → Q ys H5 → H5 D = none → s5.heap.Ns C m → C ≠ D → s2.heap.objs.size ≤ C → upd H5 D (ac.ho ys) C = none →
   RR (.ref D) C (.ok .next) s5) :
  wpAny (model X.prog X.w) X.A na (fun acc s₃ => wpAny (model X.prog X.w) X.A (newFunctionEnv scope X.env.globals cl [] X.env.qual none .none (some X.env)) (fun cenv s₄ =>
   codeAny (model X.prog X.w) X.A (.compStart e 0 (.ref it) acc { cenv with scope := relabel scope X.env }) (RR acc cenv.locals) s₄) E s₃) E s2 := by
 refine AK.new _ _ _ _ (wpAny_newEnvC ?_)
 dsimp only
 generalize hH2 : s2.heap.push o0 = G2
 have hC : G2.objs.size = s2.heap.objs.size + 1 := by rw [← hH2, Heap.size_push]
 have hDC : s2.heap.objs.size ≠ G2.objs.size := by rw [hC]; exact Nat.ne_of_lt (Nat.lt_succ_self _)
 have hCle : s2.heap.objs.size ≤ G2.objs.size := by rw [hC]; exact Nat.le_succ _
 have cat : Cat X σ G2.objs.size s2 H fp := ⟨pins, I2, f2, hCle⟩
 have L := ClOk.of I2 S hcl1 hcl2 (g := G2) (o := { cls := .type "dict", data := .dict #[] }) hCle
 have below : ∀ b, b < s2.heap.objs.size → b ≠ G2.objs.size ∧ b ≠ s2.heap.objs.size := fun b hb => ⟨by rw [hC]; exact Nat.ne_of_lt (Nat.lt_succ_of_lt hb), Nat.ne_of_lt hb⟩
 have old : ∀ b o, s2.heap.get? b = some o → (pushCells (G2.push { cls := .type "dict", data := .dict #[] }) scope.names).get? b = some o := fun b o e => pushCells_keeps _ _ b o (Heap.get?_push_of_some _ (hH2 ▸ Heap.get?_push_of_some _ e))
 have hacc : (pushCells (G2.push { cls := .type "dict", data := .dict #[] }) scope.names).get? s2.heap.objs.size = some o0 := pushCells_keeps _ _ _ _ (Heap.get?_push_of_some _ (hH2 ▸ Heap.get?_push_size _ AK.live))
 have hns₁ : (pushCells (G2.push { cls := .type "dict", data := .dict #[] }) scope.names).Ns G2.objs.size _ := (Heap.Ns.new G2 (.type "dict")).keeps (pushCells_keeps _ _)
 generalize pushCells (G2.push { cls := .type "dict", data := .dict #[] }) scope.names = h₁ at L old hacc hns₁ ⊢
 generalize cellsFrom (G2.objs.size + 1) scope.names cl = cl2 at L ⊢
 have st1 : tn 0 h₁ := T.keep _ _ _ st2 fun b _ o e => old b o e
 have hfo : ∀ b ∈ fp, ∃ o, s2.heap.get? b = some o := fun b hb => let ⟨o, e, _⟩ := T.obj _ _ st2 b hb; ⟨o, e⟩
 have Ic : Inv (X.comp N' scope cl2 G2.objs.size s2 H fp) [] (cS k ix σ) H { s2 with heap := h₁ } :=
  I2.child S f2 hfo L hCle old hns₁ rfl I2.bare
 -- the accumulator D, as a pin
 have dfs : s2.heap.objs.size ∉ (X.comp N' scope cl2 G2.objs.size s2 H fp).fs := fun hz => by
  rcases List.mem_cons.mp (I2.stkSub _ hz) with z | z
  ·exact absurd I2.lt (by rw [← z]; exact Nat.lt_irrefl _)
  ·exact I2.nofs (Nat.le_refl _) z
 have dcell : ∀ x c, cl2.lookup x = some c → c ≠ s2.heap.objs.size := fun x c e => by
  rcases L.src x c e with e | e
  ·obtain ⟨v, ob, hob, _⟩ := I2.cell x c e
   exact Nat.ne_of_lt (Heap.lt_size hob)
  ·exact Ne.symm (Nat.ne_of_lt (Nat.lt_of_le_of_lt hCle e.1))
 have dpin : ∀ (ys : α) (ob : Obj) (σ' : St) (H' : Hp) (s' : Shared), Inv (X.comp N' scope cl2 G2.objs.size s2 H fp) [] σ' H' s' → OK ys ob → s'.heap.get? s2.heap.objs.size = some ob → H' s2.heap.objs.size = none →
   Inv (X.comp N' scope cl2 G2.objs.size s2 H fp) [(s2.heap.objs.size, ob)] σ' H' s' := fun ys ob σ' H' s' I' ok e hn => I'.pins_of fun p hp => by
  have e' : p = (s2.heap.objs.size, ob) := by simpa using hp
  subst e'
  exact ⟨e, hn, hDC, dfs, fun v z => AK.cell _ _ ok v z⟩
 have fpc : ∀ (ob : Obj) (H' : Hp), (∀ b ∈ fp, H' b = none) → ∀ b ∈ fp, FpOk (X.comp N' scope cl2 G2.objs.size s2 H fp) [(s2.heap.objs.size, ob)] H' b := fun ob H' hn b hb => by
  obtain ⟨f0, f1, f2', f3, f4, f5⟩ := f2 b hb
  obtain ⟨o, e⟩ := hfo b hb
  have hb2 := below b (Heap.lt_size e)
  refine ⟨hn b hb, hb2.1, fun hz => ?_, .inl hb, fun x c z => ?_, fun p hp => ?_⟩
  ·rcases List.mem_cons.mp (I2.stkSub b hz) with z | z
   ·exact f1 z
   ·exact f2' z
  ·rcases L.src x c z with z | z
   ·exact f4 x c z
   ·exact Ne.symm (Nat.ne_of_lt (Nat.lt_trans (Nat.lt_of_lt_of_le (Heap.lt_size e) hCle) z.1))
  ·have e' : p = (s2.heap.objs.size, ob) := by simpa using hp
   subst e'
   exact Ne.symm hb2.2
 obtain ⟨W, ⟨m0, w0⟩, turn⟩ := hR
 have loop : codeAny (model X.prog X.w) X.A (.compLoop e 0 (.ref it) (.ref s2.heap.objs.size) (compEnvC scope cl2 G2.objs.size X.env)) (RR (.ref s2.heap.objs.size) G2.objs.size)
   { s2 with heap := h₁ } := by
  have hxe : ∀ x s', (X.comp N' scope cl2 G2.objs.size s2 H fp).xe x s' → notedBy (model X.prog X.w) X.A (compEnvC scope cl2 G2.objs.size X.env) (fun e s' => RR (.ref s2.heap.objs.size) G2.objs.size (.error e) s') x s' := fun x s' h =>
   wpAny_mono h (fun _ s'' q => herr _ _ _ _ q) fun _ s'' q => herr _ _ _ _ q
  have thnX : ∀ {τ : Type} {m : Sem τ} {Q1 : τ → Shared → Prop} {Q2 : τ → Shared → Prop} {s' : Shared}, wpAny (model X.prog X.w) X.A m Q1 (X.comp N' scope cl2 G2.objs.size s2 H fp).xe s' → (∀ v s'', Q1 v s'' → Q2 v s'') → wpAny (model X.prog X.w) X.A m Q2 (notedBy (model X.prog X.w) X.A (compEnvC scope cl2 G2.objs.size X.env) (fun e s' => RR (.ref s2.heap.objs.size) G2.objs.size (.error e) s')) s' := fun h k => wpAny_mono h k hxe
  refine compLoop_go (hlp _ _ _) (heq _ _ _) (fun n s' => ∃ i ys ob H', Inv (X.comp N' scope cl2 G2.objs.size s2 H fp) [(s2.heap.objs.size, ob)] (cS k ix σ) H' s' ∧ OK ys ob ∧ tn i s'.heap ∧ (∀ b ∈ fp, H' b = none) ∧ W i n ys H') ?_ m0
   ⟨0, _, o0, H, dpin _ _ _ _ _ Ic AK.z0 hacc (I2.hok.fresh (Nat.le_refl _)), AK.z0, st1, fun b hb => (f2 b hb).1, w0⟩
  rintro n s3 ⟨i, ys, ob, H3, I3, rv, st3, fr3, w3⟩
  obtain ⟨hlen, hw⟩ := turn i n ys H3 w3
  have hDn : H3 s2.heap.objs.size = none := (I3.pin (s2.heap.objs.size, ob) (by simp)).2.1
  have hDe : s3.heap.get? s2.heap.objs.size = some ob := (I3.pin (s2.heap.objs.size, ob) (by simp)).1
  rcases hw with ⟨stop, q⟩ | ⟨go, N, hN, step⟩
  ·refine thn (T.done (X.comp N' scope cl2 G2.objs.size s2 H fp) rfl rfl rfl hcalm i _ s3 _ H3 _ I3 (fpc _ _ fr3) st3 stop) fun r s4 ⟨hr, I4⟩ => ?_
   subst hr
   have hDe4 : s4.heap.get? s2.heap.objs.size = some ob := (I4.pin (s2.heap.objs.size, ob) (by simp)).1
   have Ib : Inv X pins σ H3 s4 := I2.back f2 I4
   have hz : ac.len ys ≤ sizeLine := Nat.le_of_lt hlen
   obtain ⟨m', hn', _⟩ := I4.loc
   have It : Inv X pins σ (upd H3 s2.heap.objs.size (ac.ho ys)) s4 := Ib.track I2.sz hDn (Ne.symm (Nat.ne_of_lt I2.lt)) (fun x c e => by
    obtain ⟨v, ob, hob, _⟩ := I2.cell x c e
    exact Nat.ne_of_lt (Heap.lt_size hob)) (fun p hp => Nat.ne_of_lt (Heap.lt_size (I2.pin p hp).1)) (AK.ok _ _ _ _ _ rv hz I2.big hDe4)
   exact fin _ _ ys H3 s4 m' It q hDn hn' (Ne.symm hDC) hCle (by rw [upd_ne (Ne.symm hDC)]; exact I4.free)
  ·refine thn (T.item (X.comp N' scope cl2 G2.objs.size s2 H fp) rfl rfl rfl hcalm i _ s3 _ H3 _ I3 (fpc _ _ fr3) st3 go) fun r s4 ⟨u, hr, h4⟩ => ?_
   subst hr
   refine thn h4 fun _ s5 ⟨x, H5, I5, r5, y5, st5, fr5⟩ => ?_
   have I5' := I5.pinned (fpc ob H5 fr5) (T.obj _ _ st5)
   refine thnX (hg _ _ _ _ _ cat _ s5 _ H5 x u _ I5' r5 (step x H5 y5)) fun _ s6 ⟨σ6, H6, I6, hσ, q6⟩ => ?_
   refine thnX (ht _ _ _ _ _ cat _ s6 σ6 H6 _ I6 q6) fun ok s7 ⟨H7, I7, q7⟩ => ?_
   have wk : ∀ {pl : List (Addr × Obj)} {H' : Hp} {s' : Shared}, Inv (X.comp N' scope cl2 G2.objs.size s2 H fp) pl σ6 H' s' → Inv (X.comp N' scope cl2 G2.objs.size s2 H fp) pl (cS k ix σ) H' s' := fun {pl H' s'} I' =>
    I'.weak (by rw [Ic.len, I'.len]) fun j v ev => by
     by_cases hj : j < k
     ·unfold cS at ev
      rw [List.getElem?_append_left (by simpa using hj), List.getElem?_replicate, if_pos hj] at ev
      cases ev
     ·obtain ⟨j', rfl⟩ : ∃ j', j = k + j' := ⟨j - k, by omega⟩
      rw [← List.getElem?_drop, hσ, List.getElem?_drop]
      exact ev
   have itk : ∀ {σ' : St} {H' : Hp} {s' : Shared}, Inv (X.comp N' scope cl2 G2.objs.size s2 H fp) ([(s2.heap.objs.size, ob)] ++ pinsAt fp s5.heap) σ' H' s' → tn (i + 1) s'.heap ∧ ∀ b ∈ fp, H' b = none := fun {σ' H' s'} I' =>
    ⟨T.keep _ _ _ st5 fun b hb o e => (I'.pin (b, o) (List.mem_append_right _ (List.mem_append_right _ (mem_pinsAt hb e)))).1, fun b hb => by
     obtain ⟨o, e, _⟩ := T.obj _ _ st5 b hb
     exact (I'.pin (b, o) (List.mem_append_right _ (List.mem_append_right _ (mem_pinsAt hb e)))).2.1⟩
   cases ok with
   | false =>
    rw [if_neg (by decide)] at q7 ⊢
    obtain ⟨m', hm, w7⟩ := hN _ _ q7
    obtain ⟨t7, f7⟩ := itk I7
    exact ⟨m', hm, i + 1, ys, ob, H7, wk I7.unpinned, rv, t7, f7, w7⟩
   | true =>
    rw [if_pos rfl] at q7 ⊢
    refine thnX (he _ _ _ _ _ cat s2.heap.objs.size _ s7 σ6 H7 _ _ I7 q7 fun y b s8 H8 I8 r8 n8q => ?_) fun _ _ q => q
    obtain ⟨m', hm, w8⟩ := hN _ _ n8q
    obtain ⟨t8, f8⟩ := itk I8
    have I8' : Inv (X.comp N' scope cl2 G2.objs.size s2 H fp) [(s2.heap.objs.size, ob)] σ6 H8 s8 := I8.unpinned
    have e8 : s8.heap.get? s2.heap.objs.size = some ob := (I8'.pin (s2.heap.objs.size, ob) (by simp)).1
    have n8 : H8 s2.heap.objs.size = none := (I8'.pin (s2.heap.objs.size, ob) (by simp)).2.1
    refine AK.st _ _ s8 _ _ ys ob y b rv hlen r8 e8 fun h' o' t' sb e9 ok9 => ?_
    have I8n : Inv (X.comp N' scope cl2 G2.objs.size s2 H fp) [] σ6 H8 s8 := I8'.pins_of fun p hp => by cases hp
    have I9 : Inv (X.comp N' scope cl2 G2.objs.size s2 H fp) [] σ6 H8 { s8 with heap := h', toks := t' } :=
     I8n.turned (t' := t') (fun b o hb e => (sb.2 b hb).trans e) n8 hDC (.inr (Nat.le_refl _)) (fun x c e => dcell x c e) (fun p hp => by cases hp)
    refine ⟨m', hm, i + 1, _, o', H8, wk (dpin _ _ _ _ _ I9 ok9 e9 n8), ok9, ?_, f8, w8⟩
    exact T.keep _ _ _ t8 fun b hb o e => (sb.2 b (by
     obtain ⟨o', e'⟩ := hfo b hb
     exact (below b (Heap.lt_size e')).2)).trans e
 exact hstart _ _ _ _ _ loop (T.self X.A 0 _ _ _ st1 loop)
noncomputable abbrev lobj (ys : List Value) (n : Nat) : Obj := { cls := .type "list", data := .seq ys.toArray n }
theorem accK_list {P : Program} {w : World} : AccK P w accL (fun ys o => ∃ its n, Vals ys its ∧ o = lobj its n) RelV (lobj [] 0) (newList []) (fun D b => do let _ ← call (.builtin "list.append") [.ref D, b]) where
 new A E s Q h := wpAny_newObj_type h
 z0 := ⟨[], 0, .nil, rfl⟩
 live := rfl
 cell a o h v z := by
  obtain ⟨its, n, _, rfl⟩ := h
  cases z
 st A E s Q D a o y b h hl r e k := by
  obtain ⟨its, n, rv, rfl⟩ := h
  refine wpAny_bind (call_meets F.slot_list_append ⟨_, e, rfl⟩ F.entry_list_append (F.args_list_append_2 _ _) (PySem.list_append D its.toArray n b (by
   have := rv.length
   have hl' : a.length < sizeLine := hl
   rw [List.size_toArray]; omega)) ⟨e, wpAny_pure ?_⟩)
  have q9 := PySem.IsL.update e (·.push b)
  rw [show its.toArray.push b = (its ++ [b]).toArray by simp] at q9
  exact k _ _ _ ⟨by simp [Heap.update], fun c hc => Heap.get?_update_other s.heap _ (Ne.symm hc)⟩ q9 ⟨its ++ [b], _, rv.append (.cons r .nil), rfl⟩
 ok H h D a o hk hz _ e := by
  obtain ⟨its, n, rv, rfl⟩ := hk
  exact ⟨hz, its, n, rv, e⟩
theorem comp_cells {X : Cx} {pins : List (Addr × Obj)} {σ : St} {H : Hp} {s : Shared} {scope : Scope} {N' : List Str} {k : Nat} {ix : List Nat} (I : Inv X pins σ H s) (S : CSc X.env.scope X.N scope N' k ix) :
  ∃ cl, closureFor scope X.env = pure cl ∧ (∀ x c, cl.lookup x = some c → X.env.cells.lookup x = some c) ∧ (∀ x, (x, NameKind.free) ∈ scope.names → ∃ c, cl.lookup x = some c) :=
 closure_of fun y hy e => by
  rcases S.fre y hy e with z | z
  ·exact I.ok.has _ (.inl z)
  ·exact I.ok.has _ (.inr z)
theorem Inv.letgo {H5 : Hp} {s5 : Shared} {σ5 : St} {C : Addr} {h' : Heap} (I2 : Inv X pins σ H s2) (I5 : Inv X pins σ5 H5 s5) (hCs : s2.heap.objs.size ≤ C) (hCn : H5 C = none) (hs : ∀ b, b ≠ C → h'.get? b = s5.heap.get? b) : Inv X pins σ5 H5 { s5 with heap := h' } :=
 I5.turned (t' := s5.toks) (it := C) (fun b o hb e => (hs b hb).trans e) hCn (Ne.symm (Nat.ne_of_lt (Nat.lt_of_lt_of_le I2.lt hCs))) (.inr (Nat.le_trans I2.sz hCs))
  (fun x c e => by
   obtain ⟨v, ob, hob, _⟩ := I2.cell x c e
   exact Nat.ne_of_lt (Nat.lt_of_lt_of_le (Heap.lt_size hob) hCs))
  (fun p hp => Nat.ne_of_lt (Nat.lt_of_lt_of_le (Heap.lt_size (I2.pin p hp).1) hCs))
end
section
variable {X : Cx} {elt tg iter : Expr} {ifs : List Expr} {scope : Scope} {pos : Pos} {N' : List Str} {k : Nat} {ix : List Nat} {g : St → TG} {tt : St → TT} {te : St → TE} {wi : TI}
theorem turn_listE {it : Value} {D : Addr} {env : Env} : compTurn (.ListComp elt [⟨tg, iter, ifs, 0⟩] scope pos) 0 it (.ref D) env = (do
   standAt iter.pos
   match ← pyNext it with
   | none => pure (.done .next)
   | some v =>
    letOwnedTupleGo tg it v
    assign tg env v
    let mut ok := true
    for c in ifs do
     if ok then ok ← isTrue c env (eval c env)
    if ok then (do let _ ← call (.builtin "list.append") [.ref D, ← eval elt env])
    again (.compLoop (.ListComp elt [⟨tg, iter, ifs, 0⟩] scope pos) 0 it (.ref D) env)) := compTurn_list elt tg iter ifs scope pos it (.ref D) env
theorem pev_list {X : Cx} {te : TE} (he : PE X elt te) : PEv X RelV (fun D b => do let _ ← call (.builtin "list.append") [.ref D, b]) (fun D env => do let _ ← call (.builtin "list.append") [.ref D, ← eval elt env]) te := fun D pins s σ H Q R I h k =>
 wpAny_bind (wpAny_mono (he pins s σ H Q I h) (fun b s' ⟨y, H', I', r, q⟩ => k y b s' H' I' r q) fun _ _ z => z)
theorem comp_list (hcalm : X.calm = true) (S : CSc X.env.scope X.N scope N' k ix)
  {pins : List (Addr × Obj)} {σ : St} {H : Hp} {s2 : Shared} {cl : List (Str × Addr)} {it : Addr} {fp : List Addr} {tn : Nat → Heap → Prop} {J : It} {Q : List V → Hp → Prop} {RR : Value → Addr → Result → Shared → Prop} {E : Value → Shared → Prop}
  (hg : ∀ cl C s2 H2 fp, Cat X σ C s2 H2 fp → PG (X.comp N' scope cl C s2 H2 fp) tg (g σ)) (ht : ∀ cl C s2 H2 fp, Cat X σ C s2 H2 fp → PF (X.comp N' scope cl C s2 H2 fp) ifs (tt σ)) (he : ∀ cl C s2 H2 fp, Cat X σ C s2 H2 fp → PE (X.comp N' scope cl C s2 H2 fp) elt (te σ))
  (I2 : Inv X pins σ H s2) (T : Turn X.prog X.w X.K tg J fp it tn) (st2 : tn 0 s2.heap) (f2 : ∀ b ∈ fp, FpOk X pins H b) (hR : cRun accL k ix (g σ) (tt σ) (te σ) σ J H Q)
  (hcl1 : ∀ x c, cl.lookup x = some c → X.env.cells.lookup x = some c) (hcl2 : ∀ x, (x, NameKind.free) ∈ scope.names → ∃ c, cl.lookup x = some c)
  (herr : ∀ (D C : Addr) (x : Value) (s' : Shared), ErrC X C x s' → RR (.ref D) C (.error x) s')
  (fin : ∀ (D C : Addr) (ys : List V) (H5 : Hp) (s5 : Shared) (m : Str → Option Value), Inv X pins σ (upd H5 D (.lst ys)) s5 → Q ys H5 → H5 D = none → s5.heap.Ns C m → C ≠ D → s2.heap.objs.size ≤ C → upd H5 D (.lst ys) C = none → RR (.ref D) C (.ok .next) s5) :
  wpAny (model X.prog X.w) X.A (newList []) (fun acc s₃ => wpAny (model X.prog X.w) X.A (newFunctionEnv scope X.env.globals cl [] X.env.qual none .none (some X.env)) (fun cenv s₄ =>
   codeAny (model X.prog X.w) X.A (.compStart (.ListComp elt [⟨tg, iter, ifs, 0⟩] scope pos) 0 (.ref it) acc { cenv with scope := relabel scope X.env }) (RR acc cenv.locals) s₄) E s₃) E s2 :=
 comp_core accK_list (act := fun D env => do let _ ← call (.builtin "list.append") [.ref D, ← eval elt env]) (fun it acc env R s I n h h0 => codeAny_loop rfl I h n h0) (fun _ _ _ => turn_listE) (fun R s it acc env h0 h => codeAny_compStart_list h0 h) hcalm S hg ht (fun cl C s2 H2 fp c => pev_list (he cl C s2 H2 fp c)) I2 T st2 f2 hR hcl1 hcl2 herr fin
theorem pe_comp (hcalm : X.calm = true) (S : CSc X.env.scope X.N scope N' k ix) (hi : PI X tg iter wi)
  (hg : ∀ σ cl C s2 H2 fp, Cat X σ C s2 H2 fp → PG (X.comp N' scope cl C s2 H2 fp) tg (g σ)) (ht : ∀ σ cl C s2 H2 fp, Cat X σ C s2 H2 fp → PF (X.comp N' scope cl C s2 H2 fp) ifs (tt σ)) (he : ∀ σ cl C s2 H2 fp, Cat X σ C s2 H2 fp → PE (X.comp N' scope cl C s2 H2 fp) elt (te σ))
  (hs : ∀ x, foldedSetIterable iter X.env x = pure x := by intro _; rfl) : PE X (.ListComp elt [⟨tg, iter, ifs, 0⟩] scope pos) (tComp k ix wi g tt te) := by
 intro pins s σ H Q I h
 obtain ⟨cl, ecl, hcl1, hcl2⟩ := comp_cells I S
 rw [eval_ListComp]
 refine wpAny_comprehension_free (use := none) rfl hs ecl S.kind S.loc (thn (hi pins s σ H _ I h) fun v s1 h1 => thn h1 fun itv s2 h2 => ?_)
 obtain ⟨it, fp, tn, J, H2, e, I2, T, st2, f2, hR⟩ := h2
 subst e
 refine comp_list (RR := fun acc C => compPost (model X.prog X.w) X.A X.xe none (EP X pins σ Q) acc C) hcalm S (hg σ) (ht σ) (he σ) I2 T st2 f2 hR hcl1 hcl2 (fun D C x s' h => h) ?_
 intro D C ys H5 s5 m I5 q hD hn hCD hCs hCn
 exact ⟨m, hn, fun h' hs' => ⟨.ref D, upd H5 D (.lst ys), I2.letgo I5 hCs hCn hs'.2, rfl, q D hD⟩⟩
theorem ps_setC {i : Nat} {x : Str} {pos' spos : Pos} (hN : X.N.Nodup) (hi' : X.N[i]? = some x) (hx : Loc X.env.scope x) (hcalm : X.calm = true) (S : CSc X.env.scope X.N scope N' k ix) (hi : PI X tg iter wi)
  (hg : ∀ σ cl C s2 H2 fp, Cat X σ C s2 H2 fp → PG (X.comp N' scope cl C s2 H2 fp) tg (g σ)) (ht : ∀ σ cl C s2 H2 fp, Cat X σ C s2 H2 fp → PF (X.comp N' scope cl C s2 H2 fp) ifs (tt σ)) (he : ∀ σ cl C s2 H2 fp, Cat X σ C s2 H2 fp → PE (X.comp N' scope cl C s2 H2 fp) elt (te σ))
  (hsw : swapsWith (.ListComp elt [⟨tg, iter, ifs, 0⟩] scope pos) (some (.Name x pos')) spos.line X.env = pure true)
  (hs : ∀ x, foldedSetIterable iter X.env x = pure x := by intro _; rfl) (hf : X.fn x = true ∨ X.env.scope.names.lookup x = some .local := by first | exact .inl rfl | exact .inr rfl | assumption) :
  PS X (.Assign [.Name x pos'] (.ListComp elt [⟨tg, iter, ifs, 0⟩] scope pos) spos) (tAsg (tComp k ix wi g tt te) (gName i)) := by
 intro pins s σ H D' I h
 obtain ⟨cl, ecl, hcl1, hcl2⟩ := comp_cells I S
 rw [exec_Assign_Name_used _ _ _ _ hsw]
 refine wpAny_bind (wpAny_standAt (wpAny_bind ?_))
 show wpAny _ X.A (do let _ ← comprehension (.ListComp elt [⟨tg, iter, ifs, 0⟩] scope pos) scope X.env _ (newList []) false (eval iter X.env) (some (assign (.Name x pos') X.env))) _ _ s
 refine wpAny_bind (wpAny_mono (wpAny_comprehension_free (use := some (assign (.Name x pos') X.env)) (Q := fun _ s' => SP X pins D' .next s') rfl hs ecl S.kind S.loc
  (thn (hi pins s σ H _ I h) fun v s1 h1 => thn h1 fun itv s2 h2 => ?_)) (fun _ s' hq => wpAny_pure (wpAny_pure hq)) fun _ _ e => e)
 obtain ⟨it, fp, tn, J, H2, e, I2, T, st2, f2, hR⟩ := h2
 subst e
 refine comp_list (RR := fun acc C => compPost (model X.prog X.w) X.A X.xe (some (assign (.Name x pos') X.env)) (fun _ s' => SP X pins D' .next s') acc C) hcalm S (hg σ) (ht σ) (he σ) I2 T st2 f2 hR hcl1 hcl2 (fun D C x s' h => h) ?_
 intro D C ys H5 s5 m I5 q hD hn hCD hCs hCn
 show wpAny _ X.A (assign (.Name x pos') X.env (.ref D)) _ _ s5
 refine wpAny_assign_Name (store_ok2 (v := .ref D) I5 hN hi' hx rfl (fun s' I' ⟨a, sb, ha⟩ => ?_) hf)
 have hCa : C ≠ a := by
  rcases ha with rfl | ha
  ·exact Ne.symm (Nat.ne_of_lt (Nat.lt_of_lt_of_le I2.lt hCs))
  ·obtain ⟨v, ob, hob, _⟩ := I2.cell x a ha
   exact Ne.symm (Nat.ne_of_lt (Nat.lt_of_lt_of_le (Heap.lt_size hob) hCs))
 exact ⟨m, hn.sameBut sb hCa, fun h' hs' => ⟨_, _, I2.letgo I' hCs hCn hs'.2, q D hD⟩⟩
end
section
variable {X : Cx} {kx vx tg iter : Expr} {ifs : List Expr} {scope : Scope} {pos : Pos} {N' : List Str} {k : Nat} {ix : List Nat} {g : St → TG} {tt : St → TT} {tk tv : St → TE} {wi : TI}
end
end L2
namespace L2
open PySem PySem.Spec PyProof.Rows
class Cs where
 adr : Str → Addr
variable [Cs]
noncomputable def ExO (C : Addr) (dx : Option Addr) (a : Addr) : HO := .ext fun h => ∃ t, h.get? a = some { cls := .ref C, dict := dx, data := .fields #[.ref t, .none, .none, .none, .bool false, .none] }
noncomputable def kK (p : Str × V) : Key × V := (.inr p.1, p.2)
noncomputable def dK (p : Str × PyData) : PyData × PyData := (.str p.1, p.2)
mutual
/-- the value v stands for the data d; no list of it lies in M -/
inductive Rep (M : Addr → Prop) (H : Hp) : V → PyData → Prop
 | none : Rep M H .non .none
 | bool (b : Bool) : Rep M H (.bl b) (.bool b)
 | int (i : Int) : Rep M H (.int i) (.int i)
 | str (x : Str) : Rep M H (.str x) (.str x)
 | list {a : Addr} {vs : List V} {ds : List PyData} : H a = some (.lst vs) → ¬ M a → RepL M H vs ds → Rep M H (.ref a) (.list ds)
 | tuple {a : Addr} {vs : List V} {ds : List PyData} : H a = some (.tup vs) → RepL M H vs ds → Rep M H (.ref a) (.tuple ds)
 | dict {a : Addr} {kvs : List (Str × V)} {ds : List (Str × PyData)} : Rd H a (.dK (kvs.map kK)) → ¬ M a → kvs.map (·.1) = ds.map (·.1) → RepL M H (kvs.map (·.2)) (ds.map (·.2)) → Rep M H (.ref a) (.dict (ds.map dK))
 | inst {a dx : Addr} {c : Str} {fs : List (Str × V)} {ds : List (Str × PyData)} : H a = some (.ins (Cs.adr c) dx fs) → ¬ M a → fs.map (·.1) = ds.map (·.1) → RepL M H (fs.map (·.2)) (ds.map (·.2)) → Rep M H (.ref a) (.dict ((.none, .str c) :: ds.map dK))
 | exo {a : Addr} {dx : Option Addr} {c : Str} {fs : List (Str × V)} {ds : List (Str × PyData)} : H a = some (ExO (Cs.adr c) dx a) → ¬ M a → (dx = none ∧ fs = [] ∨ ∃ d, dx = some d ∧ H d = some (.xd fs) ∧ ¬ M d) → fs.map (·.1) = ds.map (·.1) → RepL M H (fs.map (·.2)) (ds.map (·.2)) → Rep M H (.ref a) (.dict ((.bool true, .str c) :: ds.map dK))
inductive RepL (M : Addr → Prop) (H : Hp) : List V → List PyData → Prop
 | nil : RepL M H [] []
 | cons {v : V} {vs : List V} {d : PyData} {ds : List PyData} : Rep M H v d → RepL M H vs ds → RepL M H (v :: vs) (d :: ds)
end
noncomputable def SameM (M : Addr → Prop) (H H' : Hp) : Prop := ∀ b o, ¬ M b → H b = some o → H' b = some o
noncomputable def TupM (H H' : Hp) : Prop := ∀ b xs, H b = some (.tup xs) → H' b = some (.tup xs)
structure Grow (M : Addr → Prop) (H H' : Hp) : Prop where
 same : SameM M H H'
 tups : TupM H H'
 stay : ∀ b, H b ≠ none → H' b ≠ none
theorem Same.grow {M : Addr → Prop} {H H' : Hp} (s : Same H H') : Grow M H H' :=
 ⟨fun b o _ e => s b o e, fun b xs e => s b _ e, fun b h => by
  cases q : H b with
  | none => exact absurd q h
  | some o => rw [s b o q]; exact fun z => nomatch z⟩
mutual
theorem Rep.grow {M : Addr → Prop} {H H' : Hp} (g : Grow M H H') : ∀ {v : V} {d : PyData}, Rep M H v d → Rep M H' v d
 | _, _, .none => .none
 | _, _, .bool b => .bool b
 | _, _, .int i => .int i
 | _, _, .str x => .str x
 | _, _, .list e n r => .list (g.same _ _ n e) n (RepL.grow g r)
 | _, _, .tuple e r => .tuple (g.tups _ _ e) (RepL.grow g r)
 | _, _, .dict e n k r => .dict (e.imp (g.same _ _ n) fun ⟨o, z⟩ => ⟨o, g.same _ _ n z⟩) n k (RepL.grow g r)
 | _, _, .inst e n k r => .inst (g.same _ _ n e) n k (RepL.grow g r)
 | _, _, .exo e n x k r => .exo (g.same _ _ n e) n (x.imp id fun ⟨d, z, q, m⟩ => ⟨d, z, g.same _ _ m q, m⟩) k (RepL.grow g r)
theorem RepL.grow {M : Addr → Prop} {H H' : Hp} (g : Grow M H H') : ∀ {vs : List V} {ds : List PyData}, RepL M H vs ds → RepL M H' vs ds
 | _, _, .nil => .nil
 | _, _, .cons r t => .cons (Rep.grow g r) (RepL.grow g t)
end
mutual
/-- fewer addresses may change; or one more that is not there -/
theorem Rep.less {M M' : Addr → Prop} {H : Hp} (g : ∀ b, M' b → H b ≠ none → M b) : ∀ {v : V} {d : PyData}, Rep M H v d → Rep M' H v d
 | _, _, .none => .none
 | _, _, .bool b => .bool b
 | _, _, .int i => .int i
 | _, _, .str x => .str x
 | _, _, .list e n r => .list e (fun z => n (g _ z (by rw [e]; exact fun z => nomatch z))) (RepL.less g r)
 | _, _, .tuple e r => .tuple e (RepL.less g r)
 | _, _, .dict e n k r => .dict e (fun z => n (g _ z (by rcases e with e | ⟨o, e⟩ <;> rw [e] <;> exact fun z => nomatch z))) k (RepL.less g r)
 | _, _, .inst e n k r => .inst e (fun z => n (g _ z (by rw [e]; exact fun z => nomatch z))) k (RepL.less g r)
 | _, _, .exo e n x k r => .exo e (fun z => n (g _ z (by rw [e]; exact fun z => nomatch z))) (x.imp id fun ⟨d, z, q, m⟩ => ⟨d, z, q, fun z => m (g _ z (by rw [q]; exact fun z => nomatch z))⟩) k (RepL.less g r)
theorem RepL.less {M M' : Addr → Prop} {H : Hp} (g : ∀ b, M' b → H b ≠ none → M b) : ∀ {vs : List V} {ds : List PyData}, RepL M H vs ds → RepL M' H vs ds
 | _, _, .nil => .nil
 | _, _, .cons r t => .cons (Rep.less g r) (RepL.less g t)
end
theorem RepL.length {M : Addr → Prop} {H : Hp} : ∀ {vs : List V} {ds : List PyData}, RepL M H vs ds → vs.length = ds.length
 | _, _, .nil => rfl
 | _, _, .cons _ t => by rw [List.length_cons, List.length_cons, RepL.length t]
theorem RepL.append {M : Addr → Prop} {H : Hp} : ∀ {vs ws : List V} {ds es : List PyData}, RepL M H vs ds → RepL M H ws es → RepL M H (vs ++ ws) (ds ++ es)
 | _, _, _, _, .nil, s => s
 | _, _, _, _, .cons r t, s => .cons r (RepL.append t s)
theorem RepL.get {M : Addr → Prop} {H : Hp} : ∀ {vs : List V} {ds : List PyData} {i : Nat} {v : V}, RepL M H vs ds → vs[i]? = some v → ∃ d, ds[i]? = some d ∧ Rep M H v d
 | _, _, _, _, .nil, e => by simp at e
 | _, _, 0, _, .cons r _, e => by simp at e; subst e; exact ⟨_, rfl, r⟩
 | _, _, i + 1, v, .cons _ t, e => by
  obtain ⟨u, h1, h2⟩ := RepL.get (i := i) (v := v) t (by simpa using e)
  exact ⟨u, by simpa using h1, h2⟩
theorem RepL.get' {M : Addr → Prop} {H : Hp} {vs : List V} {ds : List PyData} {i : Nat} {d : PyData} (r : RepL M H vs ds) (e : ds[i]? = some d) : ∃ v, vs[i]? = some v ∧ Rep M H v d := by
 have hl := r.length
 have hi : i < vs.length := by rw [hl]; exact (List.getElem?_eq_some_iff.mp e).1
 obtain ⟨d', e', r'⟩ := r.get (i := i) (v := vs[i]) (by simp [hi])
 rw [e] at e'; cases e'
 exact ⟨vs[i], by simp [hi], r'⟩
theorem RepL.take {M : Addr → Prop} {H : Hp} : ∀ {vs : List V} {ds : List PyData} (n : Nat), RepL M H vs ds → RepL M H (vs.take n) (ds.take n)
 | _, _, 0, _ => .nil
 | _, _, _ + 1, .nil => .nil
 | _, _, n + 1, .cons r t => .cons r (RepL.take n t)
theorem RepL.drop {M : Addr → Prop} {H : Hp} : ∀ {vs : List V} {ds : List PyData} (n : Nat), RepL M H vs ds → RepL M H (vs.drop n) (ds.drop n)
 | _, _, 0, r => r
 | _, _, _ + 1, .nil => .nil
 | _, _, n + 1, .cons _ t => RepL.drop n t
theorem RepL.ints {M : Addr → Prop} {H : Hp} : ∀ (ns : List Int), RepL M H (ns.map V.int) (ns.map PyData.int)
 | [] => .nil
 | n :: ns => .cons (.int n) (RepL.ints ns)
mutual
theorem Rep.reads {P : Program} {w : World} {M : Addr → Prop} {H : Hp} {h : Heap} (ok : HOk P w H h) : ∀ {v : V} {d : PyData} {u : Value}, Rep M H v d → d.canLay0 = true → RelV v u → ∃ as, Reads h u d as
 | _, _, _, .none, _, r => by cases (show _ = Value.none from r); exact ⟨_, .none⟩
 | _, _, _, .bool b, _, r => by cases (show _ = Value.bool b from r); exact ⟨_, .bool b⟩
 | _, _, _, .int i, _, r => by obtain ⟨t, e⟩ := (show ∃ t, _ = Value.int i t from r); cases e; exact ⟨_, .int i t⟩
 | _, _, _, .str x, _, r => by obtain ⟨t, e⟩ := (show ∃ t, _ = Value.str x t from r); cases e; exact ⟨_, .str x t⟩
 | _, _, _, .list (a := a) (vs := vs) e n q, l, r => by
  cases (show _ = Value.ref a from r)
  obtain ⟨_, its, c, rv, ho⟩ := (show ObjOk P w H h a (.lst vs) from ok a _ e)
  obtain ⟨as, z⟩ := RepL.reads ok q l rv
  exact ⟨_, .list ho rfl rfl (by simpa using z)⟩
 | _, _, _, .tuple (a := a) (vs := vs) e q, l, r => by
  cases (show _ = Value.ref a from r)
  obtain ⟨_, its, rv, o, ho, hc, c, hd⟩ := (show ObjOk P w H h a (.tup vs) from ok a _ e)
  obtain ⟨as, z⟩ := RepL.reads ok q l rv
  exact ⟨_, .tuple ho hc hd (by simpa using z)⟩
 | _, _, _, .dict e n k q, l, r => by cases l
 | _, _, _, .inst e n k q, l, r => by cases l
 | _, _, _, .exo e n x k q, l, r => by cases l
theorem RepL.reads {P : Program} {w : World} {M : Addr → Prop} {H : Hp} {h : Heap} (ok : HOk P w H h) : ∀ {vs : List V} {ds : List PyData} {us : List Value}, RepL M H vs ds → PyData.canLayAll0 ds = true → Vals vs us → ∃ as, ReadsAll h us ds as
 | _, _, _, .nil, _, r => by cases r; exact ⟨_, .nil⟩
 | _, _, _, .cons q t, l, r => by
  have l' := Bool.and_eq_true_iff.mp l
  cases r with
  | cons r rs =>
   obtain ⟨as, z⟩ := Rep.reads ok q l'.1 r
   obtain ⟨bs, y⟩ := RepL.reads ok t l'.2 rs
   exact ⟨_, .cons z y⟩
end
section
variable (X : Cx)
noncomputable def wpE (e : Expr) : TE := fun σ H Q => ∀ (pins : List (Addr × Obj)) (s : Shared), Inv X pins σ H s → wpAny (model X.prog X.w) X.A (eval e X.env) (EP X pins σ Q) X.xe s
noncomputable def wpT (e : Expr) : TT := fun σ H Q => ∀ (pins : List (Addr × Obj)) (s : Shared), Inv X pins σ H s → wpAny (model X.prog X.w) X.A (isTrue e X.env (eval e X.env)) (TP X pins σ Q) X.xe s
noncomputable def wpW (e : Expr) : TT := fun σ H Q => ∀ (whole : Sem Value) (pins : List (Addr × Obj)) (s : Shared), Inv X pins σ H s → wpAny (model X.prog X.w) X.A (isTrue e X.env whole) (TP X pins σ Q) X.xe s
noncomputable def wpA (es : List Expr) : TA := fun σ H Q => ∀ (pos : Pos) (pins : List (Addr × Obj)) (s : Shared), Inv X pins σ H s → wpAny (model X.prog X.w) X.A (spliced (backTo pos (starEach es X.env))) (AP X pins σ Q) X.xe s
noncomputable def wpS (st : Stmt) : TS := fun D σ H => ∀ (pins : List (Addr × Obj)) (s : Shared), Inv X pins σ H s → wpAny (model X.prog X.w) X.A (exec st X.env) (SP X pins D) X.xe s
noncomputable def wpB (st : List Stmt) : TS := fun D σ H => ∀ (pins : List (Addr × Obj)) (s : Shared), Inv X pins σ H s → wpAny (model X.prog X.w) X.A (execs st X.env) (SP X pins D) X.xe s
noncomputable def wpG (tg : Expr) : TG := fun v σ H Q => ∀ (pins : List (Addr × Obj)) (s : Shared) (u : Value), Inv X pins σ H s → RelV v u → wpAny (model X.prog X.w) X.A (assign tg X.env u) (fun _ s' => ∃ σ' H', Inv X pins σ' H' s' ∧ Q σ' H') X.xe s
noncomputable def wpF (ifs : List Expr) : TT := fun σ H Q => ∀ (pins : List (Addr × Obj)) (s : Shared), Inv X pins σ H s →
 wpAny (model X.prog X.w) X.A (forIn ifs true fun c r => if r = true then do let ok ← isTrue c X.env (eval c X.env); pure (ForInStep.yield ok) else pure (ForInStep.yield r)) (TP X pins σ Q) X.xe s
noncomputable def wpI (tg iter : Expr) : TI := fun σ H R => ∀ (pins : List (Addr × Obj)) (s : Shared), Inv X pins σ H s →
  wpAny (model X.prog X.w) X.A (eval iter X.env) (fun v s1 => wpAny (model X.prog X.w) X.A (pyIter v) (PIE X pins σ tg R) X.xe s1) X.xe s
end
section
variable {X : Cx} {e : Expr} {es : List Expr} {st : Stmt} {sts : List Stmt} {tg iter : Expr} {σ : St} {H : Hp}
theorem pe_self : PE X e (wpE X e) := fun pins s σ H Q I h => h pins s I
theorem pt_self : PT X e (wpT X e) := fun pins s σ H Q I h => h pins s I
theorem pw_self : PW X e (wpW X e) := fun wh pins s σ H Q I h => h wh pins s I
theorem pa_self : PA X es (wpA X es) := fun pos pins s σ H Q I h => h pos pins s I
theorem ps_self : PS X st (wpS X st) := fun pins s σ H D I h => h pins s I
theorem pss_self : PSs X sts (wpB X sts) := fun pins s σ H D I h => h pins s I
theorem pg_self : PG X tg (wpG X tg) := fun pins s σ H v u Q I r h => h pins s u I r
theorem pi_self : PI X tg iter (wpI X tg iter) := fun pins s σ H R I h => h pins s I
theorem PE.wp {t : TE} {Q : VK} (h : PE X e t) (q : t σ H Q) : wpE X e σ H Q := fun pins s I => h pins s σ H Q I q
theorem PT.wp {t : TT} {Q : Bool → Hp → Prop} (h : PT X e t) (q : t σ H Q) : wpT X e σ H Q := fun pins s I => h pins s σ H Q I q
theorem PW.wp {t : TT} {Q : Bool → Hp → Prop} (h : PW X e t) (q : t σ H Q) : wpW X e σ H Q := fun wh pins s I => h wh pins s σ H Q I q
theorem PA.wp {t : TA} {Q : List V → Hp → Prop} (h : PA X es t) (q : t σ H Q) : wpA X es σ H Q := fun pos pins s I => h pos pins s σ H Q I q
theorem PS.wp {t : TS} {D : Ends} (h : PS X st t) (q : t D σ H) : wpS X st D σ H := fun pins s I => h pins s σ H D I q
theorem PSs.wp {t : TS} {D : Ends} (h : PSs X sts t) (q : t D σ H) : wpB X sts D σ H := fun pins s I => h pins s σ H D I q
theorem PG.wp {t : TG} {v : V} {Q : St → Hp → Prop} (h : PG X tg t) (q : t v σ H Q) : wpG X tg v σ H Q := fun pins s u I r => h pins s σ H v u Q I r q
theorem PF.wp {ifs : List Expr} {t : TT} {Q : Bool → Hp → Prop} (h : PF X ifs t) (q : t σ H Q) : wpF X ifs σ H Q := fun pins s I => h pins s σ H Q I q
theorem PI.wp {t : TI} {R : It → Hp → Prop} (h : PI X tg iter t) (q : t σ H R) : wpI X tg iter σ H R := fun pins s I => h pins s σ H R I q
theorem wpE.mono {Q Q' : VK} (h : wpE X e σ H Q) (k : ∀ v H', Q v H' → Q' v H') : wpE X e σ H Q' := fun pins s I => thn (h pins s I) fun u s' ⟨v, H', a, b, c⟩ => ⟨v, H', a, b, k v H' c⟩
theorem wpA.mono {Q Q' : List V → Hp → Prop} (h : wpA X es σ H Q) (k : ∀ v H', Q v H' → Q' v H') : wpA X es σ H Q' := fun pos pins s I => thn (h pos pins s I) fun u s' ⟨v, H', a, b, c⟩ => ⟨v, H', a, b, k v H' c⟩
end
noncomputable def Al (M : Addr → Prop) (H : Hp) : Prop := ∀ a, M a → H a ≠ none
inductive Ent where
 | d (x : PyData)
 | v (x : V)
noncomputable abbrev Ge := List (Option Ent)
structure RS (M : Addr → Prop) (Γ : Ge) (σ : St) (H : Hp) : Prop where
 al : Al M H
 at' : ∀ (i : Nat) (d : PyData), Γ[i]? = some (some (.d d)) → ∃ v, σ[i]? = some (some v) ∧ Rep M H v d
 av : ∀ (i : Nat) (v : V), Γ[i]? = some (some (.v v)) → σ[i]? = some (some v)
noncomputable def EntOk (M : Addr → Prop) (H : Hp) (v : V) : Ent → Prop
 | .d d => Rep M H v d
 | .v u => v = u
theorem RS.setE {M : Addr → Prop} {Γ : Ge} {σ : St} {H : Hp} {v : V} {z : Ent} {i : Nat} (h : RS M Γ σ H) (r : EntOk M H v z) (hi : i < σ.length) : RS M (Γ.set i (some z)) (σ.set i (some v)) H := ⟨h.al, fun j d' e => by
 by_cases hj : j = i
 ·subst hj
  by_cases hl : j < Γ.length
  ·rw [List.getElem?_set_self hl] at e
   cases e
   exact ⟨v, by rw [List.getElem?_set_self hi], r⟩
  ·rw [List.getElem?_eq_none (by simpa using hl)] at e; cases e
 ·rw [List.getElem?_set_ne (Ne.symm hj)] at e ⊢
  exact h.at' j d' e, fun j d' e => by
 by_cases hj : j = i
 ·subst hj
  by_cases hl : j < Γ.length
  ·rw [List.getElem?_set_self hl] at e
   cases e
   rw [List.getElem?_set_self hi]; exact congrArg (fun x => some (some x)) r
  ·rw [List.getElem?_eq_none (by simpa using hl)] at e; cases e
 ·rw [List.getElem?_set_ne (Ne.symm hj)] at e ⊢
  exact h.av j d' e⟩
theorem RS.setV {M : Addr → Prop} {Γ : Ge} {σ : St} {H : Hp} {v : V} {i : Nat} (h : RS M Γ σ H) (hi : i < σ.length) : RS M (Γ.set i (some (.v v))) (σ.set i (some v)) H := h.setE rfl hi
section
variable {X : Cx} {Γ : Ge} {pos p : Pos} {a b c : Expr} {es : List Expr} {d d1 d2 : PyData} {ds : List PyData}
theorem upd_new {H : Hp} {p : Addr} {o : HO} (n : H p = none) : Same H (upd H p o) := fun b u e => by rw [upd_ne (ne_of_none e n)]; exact e
theorem op_deepEq (hu : ∀ n, n ≤ 60 → X.A.units + n < cLine) : OpR X (compareOp .Eq) (fun x y H Q => ∃ M M' d1 d2, Rep M H x d1 ∧ Rep M' H y d2 ∧ d1.canLay0 = true ∧ d2.canLay0 = true ∧ min d1.depth d2.depth ≤ 60 ∧ Q (.bl (PyData.eqv d1 d2)) H) := by
 intro pins s σ H x y v u Q I rx ry h
 obtain ⟨M, M', d1, d2, r1, r2, c1, c2, hd, q⟩ := h
 obtain ⟨as, z1⟩ := r1.reads I.hok c1 rx
 obtain ⟨bs, z2⟩ := r2.reads I.hok c2 ry
 exact SeqAt.compareEq_reads z1 z2 c1 c2 (hu _ hd) ⟨.bl _, H, I, rfl, q⟩
theorem op_deepNe (hu : ∀ n, n ≤ 60 → X.A.units + n < cLine) : OpR X (compareOp .NotEq) (fun x y H Q => ∃ M M' d1 d2, Rep M H x d1 ∧ Rep M' H y d2 ∧ d1.canLay0 = true ∧ d2.canLay0 = true ∧ min d1.depth d2.depth ≤ 60 ∧ Q (.bl (!PyData.eqv d1 d2)) H) := by
 intro pins s σ H x y v u Q I rx ry h
 obtain ⟨M, M', d1, d2, r1, r2, c1, c2, hd, q⟩ := h
 obtain ⟨as, z1⟩ := r1.reads I.hok c1 rx
 obtain ⟨bs, z2⟩ := r2.reads I.hok c2 ry
 exact SeqAt.compareNe_reads z1 z2 c1 c2 (hu _ hd) ⟨.bl _, H, I, rfl, q⟩
theorem Room.u60 {k : Nat} {A : Around} (r : Room k A) : ∀ n, n ≤ 60 → A.units + n < cLine := fun n h => by have := r.units; omega
end
end L2
namespace PySem
open PySem.AutoSeq1 (wpAny_loadPart')
theorem tuple_mulW3 (l : Addr) (items : Array Value) (n : Nat) (dd : Option Addr) (sl : Array (Option Value)) (x : Int) (u : Tok) (hb1 : ¬ (decide (x < -(2 ^ 63)) || decide (x ≥ 2 ^ 63)) = true) (hc0 : ¬ (items.isEmpty || x == 1) = true) (hc1 : ¬ (decide (x ≤ 0) || items.isEmpty) = true) (hc2 : ¬ (items.size : Int) * x > (2 ^ 63 - 1) / 8) (hc3 : ¬ Builtin.Tuple.tupleTooMany ((items.size : Int) * x) = true) (hsz : ((List.replicate x.toNat items).foldl (· ++ ·) #[]).size ≤ sizeLine) :
  Meets (Builtin.«tuple.__mul__» ⟨[.ref l, .int x u], []⟩) (fun _ R s => s.heap.get? l = some { cls := .type "tuple", dict := dd, data := .seq items n, slots := sl } ∧ R (.ok (.ret (Value.ref s.heap.objs.size))) { s with heap := s.heap.push { cls := Value.type "tuple", data := Data.seq ((List.replicate x.toNat items).foldl (· ++ ·) #[]) }, toks := s.toks }) :=
 .of_wp fun prog w A R s h => by
  obtain ⟨hp, g, d, tk, os⟩ := s; obtain ⟨hl, h⟩ := h
  have f1 := AutoSeq1.idx_int
  wp_walk using wpAny_loadPart' hl
  refine wpAny_ite_false (decide_eq_false hb1) ?_
  wp_walk using wpAny_loadPart' hl
  first | (refine wpAny_ite_false (decide_eq_false hc2) ?_; wp_walk using wpAny_loadPart' hl) | skip
  first | (refine wpAny_ite_false (decide_eq_false (Nat.not_lt.mpr hsz)) ?_; wp_walk using wpAny_loadPart' hl) | skip
  exact ⟨_, rfl, h⟩
theorem tuple_mulW0 (l : Addr) (items : Array Value) (n : Nat) (dd : Option Addr) (sl : Array (Option Value)) (x : Int) (u : Tok) (hb1 : ¬ (decide (x < -(2 ^ 63)) || decide (x ≥ 2 ^ 63)) = true) (hc0 : (items.isEmpty || x == 1) = true) :
  Meets (Builtin.«tuple.__mul__» ⟨[.ref l, .int x u], []⟩) (fun _ R s => s.heap.get? l = some { cls := .type "tuple", dict := dd, data := .seq items n, slots := sl } ∧ R (.ok (.ret (Value.ref l))) { s with heap := s.heap, toks := s.toks }) :=
 .of_wp fun prog w A R s h => by
  obtain ⟨hp, g, d, tk, os⟩ := s; obtain ⟨hl, h⟩ := h
  have f1 := AutoSeq1.idx_int
  wp_walk using wpAny_loadPart' hl
  refine wpAny_ite_false (decide_eq_false hb1) ?_
  wp_walk using wpAny_loadPart' hl
  exact ⟨_, rfl, h⟩
theorem tuple_mulW1 (l : Addr) (items : Array Value) (n : Nat) (dd : Option Addr) (sl : Array (Option Value)) (x : Int) (u : Tok) (hb1 : ¬ (decide (x < -(2 ^ 63)) || decide (x ≥ 2 ^ 63)) = true) (hc0 : ¬ (items.isEmpty || x == 1) = true) (hc1 : (decide (x ≤ 0) || items.isEmpty) = true) :
  Meets (Builtin.«tuple.__mul__» ⟨[.ref l, .int x u], []⟩) (fun _ R s => s.heap.get? l = some { cls := .type "tuple", dict := dd, data := .seq items n, slots := sl } ∧ R (.ok (.ret (Value.ref s.heap.objs.size))) { s with heap := s.heap.push { cls := Value.type "tuple", data := Data.seq #[] }, toks := s.toks }) :=
 .of_wp fun prog w A R s h => by
  obtain ⟨hp, g, d, tk, os⟩ := s; obtain ⟨hl, h⟩ := h
  have f1 := AutoSeq1.idx_int
  wp_walk using wpAny_loadPart' hl
  refine wpAny_ite_false (decide_eq_false hb1) ?_
  wp_walk using wpAny_loadPart' hl
  exact ⟨_, rfl, h⟩
theorem noFill_tuple_mulW : fillsNumberSlot (.type "tuple") "mul" = pure false :=
 fillsNumberSlot_seq (id := "tuple.__mul__") (r := some (.builtin "tuple.__rmul__")) F.slot_tuple_mul.lookup (by decide +kernel) F.slot_tuple_rmul.lookup (by decide +kernel)
theorem repeat_tupleW : seqRepeat? (.type "tuple") = pure (some (.builtin "tuple.__mul__")) := by
 unfold seqRepeat?
 rw [seqSlot_of (T := "tuple") (name := "__mul__") (id := "tuple.__mul__") F.slot_tuple_mul.lookup (by decide +kernel), seqSlot_of (T := "tuple") (name := "__rmul__") (id := "tuple.__rmul__") F.slot_tuple_rmul.lookup (by decide +kernel)]
 rfl
theorem int_rmul_tupleW (a : Int) (t : Tok) (l : Addr) (items : Array Value) (n : Nat) (dd : Option Addr) (sl : Array (Option Value)) :
  Meets (Builtin.«int.__rmul__» ⟨[.int a t, .ref l], []⟩) (fun _ R s => s.heap.get? l = some { cls := .type "tuple", dict := dd, data := .seq items n, slots := sl } ∧ R (.ok (.ret Value.notImplemented)) s) :=
 .of_wp fun prog w A R s h => by obtain ⟨hp, g, d, tk, os⟩ := s; obtain ⟨hl, h⟩ := h; wp_walk using wpAny_loadPart' hl; exact ⟨_, rfl, h⟩
end PySem
namespace L2
open PySem PySem.Spec PyProof.Rows
variable [Cs]
section
variable {X : Cx}
noncomputable def rRepT (K : PySem.W.Frag) : R2 := fun x y H Q => ∃ l k xs, x = .ref l ∧ y = .int k ∧ SqT K H l xs ∧ -(2 ^ 63) ≤ k ∧ k < 2 ^ 63 ∧ xs.length * k.toNat ≤ sizeLine ∧
 ((xs = [] ∨ k = 1) → Q (.ref l) H) ∧ ∀ p, H p = none → Q (.ref p) (upd H p (.tup (List.replicate k.toNat xs).flatten))
theorem op_repT : OpR X (binaryOp .Mult) (rRepT X.K) := by
 intro pins s σ H x y v u Q I rx ry h
 obtain ⟨l, k, xs, rfl, rfl, hH, h1, h2, hz, qs, q⟩ := h
 cases rx
 obtain ⟨t, rfl⟩ := ry
 obtain ⟨its, r, hit, hzz⟩ := I.tuple hH
 have hl := r.length
 obtain ⟨⟨cls, dd, data, sl⟩, ho, hc, n, hd⟩ := id hit
 simp only at hc hd
 subst hc hd
 have hb1 : ¬ (decide (k < -(2 ^ 63)) || decide (k ≥ 2 ^ 63)) = true := by
  simp only [Bool.or_eq_true, decide_eq_true_eq]; omega
 have hnew : List.foldl (fun x1 x2 => x1 ++ x2) #[] (List.replicate k.toNat its.toArray) = (List.replicate k.toNat its).flatten.toArray := by
  have := foldl_rep its k.toNat []
  rw [List.nil_append] at this
  exact this
 refine wpAny_binaryOp_repeat_ref (T := "tuple") (U := "int") (by decide) ⟨_, ho, rfl⟩ (fun s' => typeIs_int s' k t) noFill_tuple_mulW F.fills_int_mul F.slot_int_rmul repeat_tupleW F.slot_int_index.lookup
  (call_meets F.slot_int_rmul (typeIs_int s k t) F.entry_int_rmul (F.args_int_rmul_2 _ _) (int_rmul_tupleW k t l its.toArray n dd sl) ⟨ho, rfl, ⟨_, ho, rfl⟩, ?_⟩)
 by_cases hc0 : (its.toArray.isEmpty || k == 1) = true
 ·refine call_meets F.slot_tuple_mul ⟨_, ho, rfl⟩ F.entry_tuple_mul (F.args_tuple_mul_2 _ _) (tuple_mulW0 l its.toArray n dd sl k t hb1 hc0) ⟨ho, ?_⟩
  refine ⟨.ref l, H, I, rfl, qs ?_⟩
  simp only [Bool.or_eq_true, beq_iff_eq] at hc0
  rcases hc0 with z | z
  ·left
   have : its = [] := by simpa using z
   subst this
   exact List.eq_nil_of_length_eq_zero hl
  ·exact .inr z
 ·by_cases hc1 : (decide (k ≤ 0) || its.toArray.isEmpty) = true
  ·refine call_meets F.slot_tuple_mul ⟨_, ho, rfl⟩ F.entry_tuple_mul (F.args_tuple_mul_2 _ _) (tuple_mulW1 l its.toArray n dd sl k t hb1 hc0 hc1) ⟨ho, ?_⟩
   have e0 : (List.replicate k.toNat xs).flatten = [] := by
    simp only [Bool.or_eq_true, decide_eq_true_eq] at hc1
    rcases hc1 with z | z
    ·rw [show k.toNat = 0 by omega]; rfl
    ·exact absurd (by simp [z]) hc0
   refine ⟨.ref s.heap.objs.size, _, I.laid (t' := s.toks) (o := .tup []) (fun b u e => Heap.get?_push_of_some _ e) (Nat.le_refl _) ?_, rfl, by have := q _ (I.hok.fresh (Nat.le_refl _)); rw [e0] at this; exact this⟩
   exact ⟨Nat.zero_le _, [], .nil, ⟨_, Heap.get?_push_size _ rfl, rfl, _, rfl⟩⟩
  ·have hlen : its.length * k.toNat ≤ sizeLine := by rw [← hl]; exact hz
   have hk0 : 0 < k := by
    simp only [Bool.or_eq_true, decide_eq_true_eq] at hc1; omega
   have hm : ((its.toArray.size : Int) * k) = ((its.length * k.toNat : Nat) : Int) := by
    rw [List.size_toArray]
    have : k = (k.toNat : Int) := by omega
    rw [Int.natCast_mul, ← this]
   have hsl : (sizeLine : Nat) ≤ (2 ^ 63 - 1) / 8 := by decide
   have hc2 : ¬ (its.toArray.size : Int) * k > (2 ^ 63 - 1) / 8 := by
    rw [hm]
    have h63 : ((2 ^ 63 - 1) / 8 : Int) = (((2 ^ 63 - 1) / 8 : Nat) : Int) := by decide
    rw [h63]
    intro z
    have := Int.ofNat_lt.mp z
    omega
   have hc3 : ¬ Builtin.Tuple.tupleTooMany ((its.toArray.size : Int) * k) = true := by
    unfold Builtin.Tuple.tupleTooMany
    rw [hm, decide_eq_true_eq]
    intro z
    have := Int.ofNat_lt.mp z
    omega
   refine call_meets F.slot_tuple_mul ⟨_, ho, rfl⟩ F.entry_tuple_mul (F.args_tuple_mul_2 _ _) (tuple_mulW3 l its.toArray n dd sl k t hb1 hc0 hc1 hc2 hc3 (by rw [hnew, List.size_toArray, len_rep, Nat.mul_comm]; exact hlen)) ⟨ho, ?_⟩
   rw [hnew]
   refine ⟨.ref s.heap.objs.size, _, I.laid (t' := s.toks) (o := .tup (List.replicate k.toNat xs).flatten) (fun b u e => Heap.get?_push_of_some _ e) (Nat.le_refl _) ?_, rfl, q _ (I.hok.fresh (Nat.le_refl _))⟩
   exact ⟨by rw [len_rep, Nat.mul_comm]; exact hz, _, r.rep k.toNat, ⟨_, Heap.get?_push_size _ rfl, rfl, _, rfl⟩⟩
theorem RepL.rep {M : Addr → Prop} {H : Hp} {vs : List V} {ds : List PyData} (h : RepL M H vs ds) : ∀ k : Nat, RepL M H (List.replicate k vs).flatten (List.replicate k ds).flatten
 | 0 => .nil
 | k + 1 => by rw [List.replicate_succ, List.replicate_succ, List.flatten_cons, List.flatten_cons]; exact h.append (RepL.rep h k)
theorem Rep.tup_inv {M : Addr → Prop} {H : Hp} {v : V} {ds : List PyData} (r : Rep M H v (.tuple ds)) : ∃ a vs, v = .ref a ∧ H a = some (.tup vs) ∧ RepL M H vs ds := by
 cases r with
 | tuple e q => exact ⟨_, _, rfl, e, q⟩
theorem Rep.lst_inv {M : Addr → Prop} {H : Hp} {v : V} {ds : List PyData} (r : Rep M H v (.list ds)) : ∃ a vs, v = .ref a ∧ H a = some (.lst vs) ∧ ¬ M a ∧ RepL M H vs ds := by
 cases r with
 | list e n q => exact ⟨_, _, rfl, e, n, q⟩
variable {Γ : Ge} {pos p p2 : Pos} {a b c : Expr} {es : List Expr} {d d1 d2 : PyData} {ds ds1 ds2 : List PyData}
noncomputable def rCatT2 (K : PySem.W.Frag) : R2 := fun x y H Q => ∃ a b xs ys, x = .ref a ∧ y = .ref b ∧ SqT K H a xs ∧ SqT K H b ys ∧ xs.length + ys.length ≤ sizeLine ∧ (xs = [] → Q (.ref b) H) ∧ (ys = [] → Q (.ref a) H) ∧ ∀ p, H p = none → Q (.ref p) (upd H p (.tup (xs ++ ys)))
theorem op_catT2 : OpR X (binaryOp .Add) (rCatT2 X.K) := by
 intro pins s σ H x y v u Q I rx ry h
 obtain ⟨a, b, xs, ys, rfl, rfl, ha, hb, hz, q0, q1, q⟩ := h
 cases rx
 cases ry
 obtain ⟨its, r, hit, _⟩ := I.tuple ha
 obtain ⟨its2, r2, hit2, _⟩ := I.tuple hb
 by_cases hv : its = []
 ·obtain ⟨⟨cls, dd, data, sl⟩, ho, hc, n, hd⟩ := id hit
  obtain ⟨⟨cls2, dd2, data2, sl2⟩, ho2, hc2, n2, hd2⟩ := id hit2
  simp only at hc hd hc2 hd2
  subst hc hd hc2 hd2
  refine concat_meets ⟨_, ho, rfl⟩ ⟨_, ho2, rfl⟩ noFill_tuple_add seq_tuple_add PySem.F.slot_tuple_add PySem.F.entry_tuple_add (PySem.F.args_tuple_add_2 _ _)
   (tuple_addW0 a b its.toArray its2.toArray n n2 dd dd2 sl sl2 (by simp [hv])) ⟨ho, ho2, ⟨.ref b, H, I, rfl, q0 ?_⟩⟩
  exact r.nil_iff.mp hv
 ·refine HT.cat_tup hit hit2 hv (fun hw => ⟨.ref a, H, I, rfl, q1 (r2.nil_iff.mp hw)⟩) (fun _ => ?_) (by rw [← r.length, ← r2.length]; exact hz)
  refine ⟨.ref s.heap.objs.size, _, I.laid (t' := s.toks) (o := .tup (xs ++ ys)) (fun b u e => Heap.get?_push_of_some _ e) (Nat.le_refl _) ?_, rfl, q _ (I.hok.fresh (Nat.le_refl _))⟩
  exact ⟨by rw [List.length_append]; exact hz, _, r.append r2, ⟨_, Heap.get?_push_size _ rfl, rfl, _, rfl⟩⟩
theorem atI_rep {M : Addr → Prop} {H : Hp} {vs : List V} {ds : List PyData} {i : Int} {d : PyData} (r : RepL M H vs ds) (h : atI ds i = some d) : ∃ v, atI vs i = some v ∧ Rep M H v d := by
 unfold atI at h ⊢
 rw [r.length]
 cases e : ixN ds.length i with
 | none => rw [e] at h; cases h
 | some j =>
  rw [e] at h
  exact r.get' h
end
end L2
namespace L2
open PySem PySem.Spec PyProof.Rows
variable [Cs]
noncomputable def tyD : PyData → String
 | .none => "NoneType"
 | .bool _ => "bool"
 | .int _ => "int"
 | .str _ => "str"
 | .list _ => "list"
 | .tuple _ => "tuple"
 | .dict _ => "dict"
theorem Rep.ty {K : PySem.W.Frag} {M : Addr → Prop} {H : Hp} {v : V} {d : PyData} (r : Rep M H v d) (hd : tyD d ≠ "dict") : TyOf K H v (.type (tyD d)) := by
 cases r with
 | none => exact .non
 | bool b => exact .bl b
 | int i => exact .int i
 | str x => exact .str x
 | list e n q => exact .lst e
 | tuple e q => exact .tup e
 | dict _ _ _ _ => exact absurd rfl hd
 | inst _ _ _ _ => exact absurd rfl hd
 | exo _ _ _ _ _ => exact absurd rfl hd
section
variable {X : Cx}
theorem call_isi : CallR X (.builtin "isinstance") (fun xs H Q => ∃ x T t k, xs = [x, .ty T] ∧ TyOf X.K H x t ∧ PySem.W.kitOne X.K t (.type T) = some k ∧ Q (.bl k) H) := by
 intro pins s σ H xs us Q I r h
 obtain ⟨x, T, t, k, rfl, ty, e, q⟩ := h
 obtain ⟨u, w', rfl, rx, rc⟩ := vals2 r
 cases (show w' = Value.type T from rc)
 exact isinst_ok I rx ty e fun tk => ⟨.bl k, H, I.tok tk, rfl, q⟩
variable {Γ : Ge} {pos p p2 : Pos} {a b c : Expr} {es : List Expr} {d d1 d2 : PyData} {ds ds1 ds2 : List PyData}
theorem boot_listW : bootBuiltins "list" = some (.type "list") := by decide +kernel
theorem boot_tupleW : bootBuiltins "tuple" = some (.type "tuple") := by decide +kernel
theorem boot_intW : bootBuiltins "int" = some (.type "int") := by decide +kernel
theorem boot_boolW : bootBuiltins "bool" = some (.type "bool") := by decide +kernel
end
section
variable {X : Cx} {Γ : Ge} {tg iter a b : Expr} {ds : List PyData} {p pos : Pos}
noncomputable def rangeD (n : Nat) : List PyData := (List.range n).map fun (i : Nat) => PyData.int (i : Int)
theorem rangeD_length (n : Nat) : (rangeD n).length = n := by simp [rangeD]
theorem rangeD_get {n i : Nat} {d : PyData} (h : (rangeD n)[i]? = some d) : i < n ∧ d = .int (i : Int) := by
 unfold rangeD at h
 rw [List.getElem?_map] at h
 have hi : i < n := by
  cases e : (List.range n)[i]? with
  | none => rw [e] at h; cases h
  | some j => simpa using (List.getElem?_eq_some_iff.mp e).1
 rw [List.getElem?_range hi] at h
 exact ⟨hi, (Option.some.inj h).symm⟩
end
noncomputable def wpGs (X : Cx) (ts : List Expr) : TGs := fun vs σ H Q => ∀ (pins : List (Addr × Obj)) (s : Shared) (us : List Value), Inv X pins σ H s → Vals vs us →
  wpAny (model X.prog X.w) X.A (assignInOrder ((assignEach ts X.env).map (·.2)) us) (fun _ s' => ∃ σ' H', Inv X pins σ' H' s' ∧ Q σ' H') X.xe s
theorem pgs_self {X : Cx} {ts : List Expr} : PGs X ts (wpGs X ts) := fun pins s σ H vs us Q I r h => h pins s us I r
theorem PGs.wp {X : Cx} {ts : List Expr} {t : TGs} {vs : List V} {σ : St} {H : Hp} {Q : St → Hp → Prop} (h : PGs X ts t) (q : t vs σ H Q) : wpGs X ts vs σ H Q := fun pins s us I r => h pins s σ H vs us Q I r q
section
variable {X : Cx} {k : Nat} {Γ Γ1 Γ2 : Ge} {tg : Expr} {ts : List Expr} {d : PyData} {ds : List PyData} {pos : Pos}
end
theorem cS_get {k : Nat} {ix : List Nat} {σ : St} {j i0 : Nat} {v : V} (q : ix[j]? = some i0) (h : σ[i0]? = some (some v)) : (cS k ix σ)[k + j]? = some (some v) := by
 unfold cS
 rw [List.getElem?_append_right (by simp), List.length_replicate, Nat.add_sub_cancel_left, List.getElem?_map, q]
 simp [h]
section
variable {X : Cx} {elt tg iter : Expr} {ifs : List Expr} {scope : Scope} {pos : Pos} {N' : List Str} {k : Nat} {ix : List Nat} {Γ : Ge} {ds : List PyData} {M : Addr → Prop} {σ : St} {H : Hp} {Q : VK}
noncomputable def gU (X : Cx) (N' : List Str) (scope : Scope) (tg : Expr) (σ0 : St) : TG := fun v σ H Q => ∀ cl C s2 H2 fp, Cat X σ0 C s2 H2 fp → wpG (X.comp N' scope cl C s2 H2 fp) tg v σ H Q
noncomputable def fU (X : Cx) (N' : List Str) (scope : Scope) (ifs : List Expr) (σ0 : St) : TT := fun σ H Q => ∀ cl C s2 H2 fp, Cat X σ0 C s2 H2 fp → wpF (X.comp N' scope cl C s2 H2 fp) ifs σ H Q
noncomputable def eU (X : Cx) (N' : List Str) (scope : Scope) (elt : Expr) (σ0 : St) : TE := fun σ H Q => ∀ cl C s2 H2 fp, Cat X σ0 C s2 H2 fp → wpE (X.comp N' scope cl C s2 H2 fp) elt σ H Q
theorem pe_compU (hcalm : X.calm = true) (S : CSc X.env.scope X.N scope N' k ix) (hf : ∀ x, foldedSetIterable iter X.env x = pure x := by intro _; rfl) :
    PE X (.ListComp elt [⟨tg, iter, ifs, 0⟩] scope pos) (tComp k ix (wpI X tg iter) (gU X N' scope tg) (fU X N' scope ifs) (eU X N' scope elt)) :=
  pe_comp hcalm S pi_self (fun _ cl C s2 H2 fp c pins s σ H v u Q I r h => h cl C s2 H2 fp c pins s u I r) (fun _ cl C s2 H2 fp c pins s σ H Q I h => h cl C s2 H2 fp c pins s I)
    (fun _ cl C s2 H2 fp c pins s σ H Q I h => h cl C s2 H2 fp c pins s I) hf
theorem ps_setU {i : Nat} {x : Str} {pos' spos : Pos} (hN : X.N.Nodup) (hi' : X.N[i]? = some x) (hx : Loc X.env.scope x) (hcalm : X.calm = true) (S : CSc X.env.scope X.N scope N' k ix)
  (hsw : swapsWith (.ListComp elt [⟨tg, iter, ifs, 0⟩] scope pos) (some (.Name x pos')) spos.line X.env = pure true) (hs : ∀ x, foldedSetIterable iter X.env x = pure x := by intro _; rfl)
  (hf : X.fn x = true ∨ X.env.scope.names.lookup x = some .local := by first | exact .inl rfl | exact .inr rfl | assumption) :
  PS X (.Assign [.Name x pos'] (.ListComp elt [⟨tg, iter, ifs, 0⟩] scope pos) spos) (tAsg (tComp k ix (wpI X tg iter) (gU X N' scope tg) (fU X N' scope ifs) (eU X N' scope elt)) (gName i)) :=
 ps_setC hN hi' hx hcalm S pi_self (fun _ cl C s2 H2 fp c pins s σ H v u Q I r h => h cl C s2 H2 fp c pins s u I r) (fun _ cl C s2 H2 fp c pins s σ H Q I h => h cl C s2 H2 fp c pins s I)
  (fun _ cl C s2 H2 fp c pins s σ H Q I h => h cl C s2 H2 fp c pins s I) hsw hs hf
end
inductive Out where
 | next (Γ : Ge)
 | ret (d : PyData)
 | new (ds : List PyData)
section
variable {X : Cx} {Γ Γ1 : Ge} {st : Stmt} {sts body els : List Stmt} {o : Out} {d : PyData} {e c tg : Expr} {pos : Pos}
end
structure Kn (P : Program) (w : World) (K : PySem.W.Frag) (mg : Str → Option Value) (base : Heap) (CX : CXT) (x : Str) (k : Nat) (sp : Sp) : Prop where
 ex : ∃ (f : Addr) (fd : FuncData) (ps : List Str), FnOk P w K mg base CX k f fd ps sp ∧ mg x = some (.ref f) ∧ PySem.W.keepIn K (.ref f) = true ∧ Binds K fd ps []
section
variable {X : Cx} {Γ : Ge} {x : Str} {k : Nat} {CX : CXT} {E : XK} {n : Nat} {pre : List PyData → Prop} {e : Expr} {es : List Expr} {ds : List PyData} {p pos : Pos}
theorem wp_call {sp : Sp} {σ : St} {H : Hp} {Q : VK} (kn : Kn X.prog X.w X.K X.mg X.base CX x k sp) (hr : Room k X.A) (hg : Gl X x) (hx : Passes CX X E) (h : wpA X (e :: es) σ H fun vs H1 => sp vs H1 Q E) (hdb : (x == ("__debug__" : Str)) = false := by decide)
    (he : starEach (e :: es) X.env = (false, eval e X.env) :: starEach es X.env := by rfl) (hpl : (backTo pos (starEach es X.env)).any (·.1) = false := by rfl) : wpE X (.Call (.Name x p) (e :: es) [] pos) σ H Q := by
  obtain ⟨f, fd, ps, F, hm, hk, hb⟩ := kn.ex
  refine (pe_call F hr hg hm hk hb .nil hx pa_self hdb he hpl).wp (h.mono fun vs H1 q => ?_)
  show sp (vs ++ []) H1 Q E
  rw [List.append_nil]; exact q
end
theorem start_length {N : List Str} {vs : List V} (h : vs.length ≤ N.length) : (start N vs).length = N.length := by
 unfold start; simp; omega
structure Df (K : PySem.W.Frag) (mg : Str → Option Value) (x : Str) (st : Stmt) (ps : List Str) : Prop where
 ex : ∃ f fd, Fun K x x st f fd ∧ mg x = some (.ref f) ∧ Binds K fd ps []
section
variable {P : Program} {w : World} {K : PySem.W.Frag} {mg : Str → Option Value} {base : Heap} {x : Str} {st : Stmt} {N ps : List Str} {k : Nat}
theorem Df.kn {sp : Sp} (D : Df K mg x st ps) (S : FnScope N ps (defScope st)) (len : ∀ vs H Q E, sp vs H Q E → vs.length = ps.length)
  (hbody : ∀ (f : Addr) (cdv : Value) (A : Around) (outer : List Env) (s : Shared) (H : Hp) (vs : List V) (Q : VK) (E : XK), Room k (A.deeper (envOfC x (defScope st) s.heap.objs.size f cdv)) → sp vs H Q E →
   wpB (cxOf CX0 P w K mg base N x (defScope st) f cdv A outer s H E).nox (defBody st) { nx := fun _ H' => Q .non H', rt := Q } (start N vs) H) : Kn P w K mg base CX0 x (k + 1) sp := by
 obtain ⟨f, fd, F, hm, hb⟩ := D.ex
 exact ⟨f, fd, ps, F.ok S len (fun cdv A outer s H vs Q E hr h => ⟨_, pss_self, hbody f cdv A outer s H vs Q E hr h⟩), hm, F.kp, hb⟩
end
section
variable {X : Cx} {M : Addr → Prop} {Γ Γ1 : Ge} {σ : St} {H : Hp} {D : Ends} {st : Stmt} {sts body els : List Stmt} {o : Out} {d : PyData} {e c tg : Expr} {pos pos' : Pos} {x : Str}
theorem wb_wp (i : Nat) {Q : VK} (hN : X.N.Nodup) (h : wpE X e σ H Q) (k : ∀ v H', Q v H' → wpB X sts D (σ.set i (some v)) H') (hi : X.N[i]? = some x := by rfl) (hx : Loc X.env.scope x := by first | exact Or.inl rfl | exact Or.inr rfl) (hs : swapsWith e (some (.Name x pos')) pos.line X.env = pure false := by rfl)
    (hf : X.fn x = true ∨ X.env.scope.names.lookup x = some .local := by first | exact .inl rfl | exact .inr rfl | assumption) : wpB X (.Assign [.Name x pos'] e pos :: sts) D σ H :=
  (pss_cons (ps_set hN hi hx pe_self hs hf) pss_self).wp (h.mono k)
end
section
variable {X : Cx} {M : Addr → Prop} {Γ Γ1 : Ge} {σ : St} {H : Hp} {D : Ends} {sts : List Stmt} {e : Expr} {ds : List PyData} {d : PyData} {pos pos' : Pos} {x : Str}
end
mutual
/-- no list within -/
noncomputable def noL : PyData → Bool
 | .list _ => false
 | .tuple ds => noLs ds
 | .dict _ => false
 | _ => true
noncomputable def noLs : List PyData → Bool
 | [] => true
 | d :: ds => noL d && noLs ds
end
mutual
theorem Rep.free {M M' : Addr → Prop} {H : Hp} : ∀ {v : V} {d : PyData}, noL d = true → Rep M H v d → Rep M' H v d
 | _, _, _, .none => .none
 | _, _, _, .bool b => .bool b
 | _, _, _, .int i => .int i
 | _, _, _, .str x => .str x
 | _, _, h, .list e n r => by simp [noL] at h
 | _, _, h, .tuple e r => .tuple e (RepL.free (by simpa [noL] using h) r)
 | _, _, h, .dict e n k r => by cases h
 | _, _, h, .inst e n k r => by cases h
 | _, _, h, .exo e n x k r => by cases h
theorem RepL.free {M M' : Addr → Prop} {H : Hp} : ∀ {vs : List V} {ds : List PyData}, noLs ds = true → RepL M H vs ds → RepL M' H vs ds
 | _, _, _, .nil => .nil
 | _, _, h, .cons r t => by
  rw [noLs, Bool.and_eq_true] at h
  exact .cons (Rep.free h.1 r) (RepL.free h.2 t)
end
section
variable {X : Cx} {M : Addr → Prop} {Γ Γ1 : Ge} {σ : St} {H : Hp} {D : Ends} {sts : List Stmt} {e : Expr} {ds : List PyData} {d : PyData} {pos pos' p2 p3 : Pos} {x : Str} {l : Addr} {vs : List V}
end
theorem Df.of {K : PySem.W.Frag} {mg : Str → Option Value} {h : Heap} {x : Str} {st : Stmt} {ps : List Str} {f : Addr} {oc : Value} {od an : Option Addr} {sl : Array (Option Value)} {kV dc pm cd ct : Value} (X : K.In h) (G : h.Ns mainGlobals mg)
  (a : PySem.W.nsIn K mainGlobals x = some (some (.ref f))) (l : K.lookup f = some ⟨oc, od, .func (PySem.W.fnOf x x (defArgs st) (defBody st) (defScope st) .none kV dc pm an cd ct), sl⟩) (c : PySem.W.codeIn K cd x = true) (k : PySem.W.keepIn K (.ref f) = true)
  (hb : ∀ (kV doc pm : Value) (an : Option Addr) (cdv ct : Value) (us : List Value), us.length = ps.length → bindArgs (PySem.W.fnOf x x (defArgs st) (defBody st) (defScope st) .none kV doc pm an cdv ct) ⟨us, []⟩ = pure (ps.zip us)) : Df K mg x st ps :=
 ⟨f, _, fun_mk (st := st) l c k, PySem.W.mg_of X G a, (fun_mk (st := st) l c k).binds hb⟩
structure Dl (K : PySem.W.Frag) (x : Str) (st : Stmt) (fa : Addr) (p : Str) : Prop where
 ex : ∃ fd : FuncData, Fun K x x st fa fd ∧ ∀ (s : Shared) (u : Value), BindsTo s fd ⟨[u], []⟩ [(p, u)]
theorem Dl.of {K : PySem.W.Frag} {mg : Str → Option Value} {h : Heap} {x p : Str} {st : Stmt} {f fa : Addr} {oc : Value} {od an : Option Addr} {sl : Array (Option Value)} {kV dc pm cd ct : Value} (X : K.In h) (G : h.Ns mainGlobals mg) (hfa : mg x = some (.ref fa))
  (a : PySem.W.nsIn K mainGlobals x = some (some (.ref f))) (l : K.lookup f = some ⟨oc, od, .func (PySem.W.fnOf x x (defArgs st) (defBody st) (defScope st) .none kV dc pm an cd ct), sl⟩) (c : PySem.W.codeIn K cd x = true) (k : PySem.W.keepIn K (.ref f) = true)
  (hb : ∀ (s : Shared) (u : Value), BindsTo s (PySem.W.fnOf x x (defArgs st) (defBody st) (defScope st) .none kV dc pm an cd ct) ⟨[u], []⟩ [(p, u)]) : Dl K x st fa p := by
 have e := hfa.symm.trans (PySem.W.mg_of X G a)
 cases e
 exact ⟨_, fun_mk (st := st) l c k, hb⟩
noncomputable def spLaw (K : PySem.W.Frag) : Sp := fun vs H Q _ => ∃ (a : Addr) (ns : List Int), vs = [.ref a] ∧ SqL K H a (ns.map V.int) ∧ ns.length ≤ 63 ∧ ∀ H', Q (.bl true) H'
theorem Fun.law {P : Program} {w : World} {K : PySem.W.Frag} {mg : Str → Option Value} {base : Heap} {x p : Str} {st : Stmt} {N : List Str} {k : Nat} {f : Addr} {fd : FuncData} (F : Fun K x x st f fd) (S : FnScope N [p] (defScope st))
  (hbody : ∀ (cdv : Value) (A : Around) (outer : List Env) (s : Shared) (H : Hp) (Q : VK) (E : XK) (a : Addr) (ns : List Int), Room k (A.deeper (envOfC x (defScope st) s.heap.objs.size f cdv)) → SqL K H a (ns.map V.int) → ns.length ≤ 63 → (∀ H', Q (.bl true) H') →
   wpB (cxOf CX0 P w K mg base N x (defScope st) f cdv A outer s H E).nox (defBody st) { nx := fun _ H' => Q .non H', rt := Q } (start N [.ref a]) H) : FnOk P w K mg base CX0 (k + 1) f fd [p] (spLaw K) :=
 F.ok S (fun vs H Q E ⟨a, ns, e, _⟩ => by rw [e]; rfl) fun cdv A outer s H vs Q E hr ⟨a, ns, e, hS, hlen, kk⟩ => ⟨_, pss_self, by subst e; exact hbody cdv A outer s H Q E a ns hr hS hlen kk⟩
theorem walkL {l : PySem.W.OpenLaw} {q : Program} {loose : List Str} {XP : (Str → Option Value) → Heap → Prop} {YP : World → Heap → Prop} {d : DefRec} {K : Params → PySem.W.Frag} {k : Nat} {st : Stmt} (hn : l.most = some 63) (hdf : d.params.defaults = []) (hk : Room k callerA)
  (hY : ∀ (w : World) (h : Heap), YP w h → (K w.params).In h)
  (F : ∀ (w : World) (mg : Str → Option Value) (fa : Addr) (h : Heap), (K w.params).In h → h.Ns mainGlobals mg → mg d.name = some (.ref fa) →
   Dl (K w.params) "law" st fa "_law_script" ∧ ∀ (fd : FuncData), Fun (K w.params) "law" "law" st fa fd → ∀ base : Heap, FnOk l.prog w (K w.params) mg base CX0 k fa fd ["_law_script"] (spLaw (K w.params))) :
  PySem.W.WalkO q loose XP YP l.row.toRowW d [] (fun f vs => PySem.call f vs) :=
 L2.walk_of (n := 63) (k := k) (x := "_law_script") (CX := fun _ => CX0) (sp := fun w => spLaw (K w.params)) hn (by decide) hdf hk hY (fun w mg fa h KX G hm => by
  obtain ⟨⟨fd, Ff, hb⟩, hF⟩ := F w mg fa h KX G hm
  exact ⟨fd, hb, fun base _ _ => hF fd Ff base⟩) (fun _ _ a ns hl _ hS => ⟨a, ns, rfl, hS, hl, fun _ => rfl⟩) fun _ _ _ _ _ z => z
end L2
namespace L2
open PySem PySem.Spec PyProof.Rows
variable [Cs]
noncomputable def Aloft (B : Heap) (l : List Env) (ea : Addr) (c : Value) (dx : Option Addr) (fl : Value) (h : Heap) : Prop := B.StaysIn h ∧ B.get? ea = none ∧ h.FunFrames B l ∧
 ∃ oe vs T oT ts, h.get? ea = some oe ∧ (oe.cls = c ∧ oe.dict = dx) ∧ oe.data = .fields vs ∧ vs[1]? = some (.ref T) ∧ B.get? T = none ∧ T ≠ ea ∧ h.get? T = some oT ∧ oT.data = .fields ts ∧ ts[3]? = some fl
section
variable {M : Model} {A : Around} {E : Value → Shared → Prop} {s : Shared} {B : Heap} {l outer : List Env} {env : Env} {ea L : Addr} {c fl : Value} {dx : Option Addr} {Q : Unit → Shared → Prop}
theorem entry_any {oe : Obj} {vs : Array Value} {head : Value} {hn : Bool} (hfr : A.frames = some (env :: outer)) (hl : s.heap.FunFrames B (env :: outer)) (hf : env.frame = some L) (he : s.heap.get? ea = some oe) (hb : B.StaysIn s.heap) (hen : B.get? ea = none) (hd : oe.data = .fields vs) (h1 : 1 < vs.size)
  (k : ∀ h', Aloft B (env :: outer) ea oe.cls oe.dict (rawInt L) h' → s.heap.UpToSlots h' → Q () { s with heap := h' }) :
  wpAny M A (do let a ← PySem.frameOf env; let pl ← entryPlaceOf L hn; let b ← EntryCells.newEntry head a .none (rawInt L) .none pl; setField (.ref ea) 1 b) Q E s := by
 refine wpAny_bind (wpAny_frameOf_fun hfr hl hf fun h1' so => ?_)
 refine wpAny_bind (wpAny_entryPlaceOf fun pl hpl => ?_)
 have hnL : ∀ b, B.get? b ≠ none → b ∉ frs (env :: outer) := fun b h z => h (hl.mem z).1
 have he1 : h1'.get? ea = some { oe with slots := (h1'.get? ea).elim #[] (·.slots) } := by
  obtain ⟨sl, e⟩ := so.2.2 ea oe he
  rw [e]; rfl
 generalize hoe : (({ oe with slots := (h1'.get? ea).elim #[] (·.slots) } : Obj)) = oe1 at he1
 have hd1 : oe1.data = .fields vs := by rw [← hoe]; exact hd
 have hcl : oe1.cls = oe.cls ∧ oe1.dict = oe.dict := by rw [← hoe]; exact ⟨rfl, rfl⟩
 have hl1 : h1'.FunFrames B (env :: outer) := hl.of_slotsOnly so
 have hb1 : B.StaysIn h1' := fun b o e => by rw [so.2.1 b (hnL b (by rw [e]; exact fun z => nomatch z))]; exact hb b o e
 obtain ⟨oT, ts, hT, hT3⟩ : ∃ (oT : Obj) (ts : Array Value), oT = { cls := .type "traceback", data := .fields ts } ∧ ts = ([head, Value.ref L, .none, rawInt L, .none] ++ (if pl.isEmpty then List.replicate 6 .none else pl)).toArray := ⟨_, _, rfl, rfl⟩
 have hts : ts[3]? = some (rawInt L) := by rw [hT3]; simp
 have hsz : ts.size ≤ sizeLine + 2 := by
  have := sizeLine_eq
  rw [hT3]
  rcases hpl with rfl | ⟨a, b, c, d, c9, b10, _, rfl⟩ <;> simp <;> omega
 have key : wpAny M A (setField (.ref ea) 1 (.ref h1'.objs.size)) Q E { s with heap := h1'.push oT } := by
  have hne : ea ≠ h1'.objs.size := Nat.ne_of_lt (Heap.lt_size he1)
  have hp : ∀ b o, h1'.get? b = some o → (h1'.push oT).get? b = some o := fun b o e => Heap.get?_push_of_some _ e
  refine wpAny_setField (s := { s with heap := h1'.push oT }) (hp _ _ he1) hd1 h1 (k _ ⟨fun b o e => ?_, hen, ?_, ?_⟩ fun b o e hnf => ?_)
  ·exact (Heap.get?_update_other _ _ fun z => by rw [← z, hen] at e; cases e).trans (hp _ _ (hb1 b o e))
  ·exact hl1.of_keeps fun b o e hnf => ⟨o, (Heap.get?_update_other _ _ fun z => by rw [← z, he1] at e; cases e; exact hnf vs hd1).trans (hp _ _ e), rfl⟩
  ·refine ⟨_, _, h1'.objs.size, oT, ts, Heap.get?_update_self _ (hp _ _ he1) (Obj.isFreed_of_fields (Obj.data_mapFields hd1 _)), ?_, Obj.data_mapFields hd1 _, by simp [h1], ?_, Ne.symm hne, ?_, by rw [hT], hts⟩
   ·rw [← hcl.1, ← hcl.2]
    obtain ⟨a1, a2, a3, a4⟩ := oe1
    dsimp only at hd1
    subst hd1
    exact ⟨rfl, rfl⟩
   ·cases q : B.get? h1'.objs.size with
    | none => rfl
    | some o => exact absurd (Heap.lt_size (hb1 _ _ q)) (Nat.lt_irrefl _)
   ·exact (Heap.get?_update_other _ _ hne).trans (Heap.get?_push_size _ (by rw [hT]; rfl))
  ·obtain ⟨sl, e1⟩ := so.2.2 b o e
   exact ⟨sl, (Heap.get?_update_other _ _ fun z => by rw [← z, he1] at e1; cases e1; exact hnf vs hd1).trans (hp _ _ e1)⟩
 unfold EntryCells.newEntry newFields newObj
 rw [← hT3]
 dsimp only
 rw [if_neg (Nat.not_lt.mpr hsz)]
 unfold newObjAsIs
 refine wpAny_bind (wpAny_bind (wpAny_alloc ?_))
 rw [← hT]
 exact wpAny_pure key
theorem set_any {fr : Option Addr} (h : Aloft B l ea c dx fl s.heap) (k : ∀ h', Aloft B l ea c dx (fr.elim .none fun f => rawInt f) h' → s.heap.UpToSlots h' → Q () { s with heap := h' }) : wpAny M A (setFlight (.ref ea) fr) Q E s := by
 obtain ⟨hkb, hen, hl, oe, vs, T, oT, ts, he, hcls, hd, h1, hnT, hTe, hT, hdT, h3⟩ := h
 have hsz3 : 3 < ts.size := (Array.getElem?_eq_some_iff.mp h3).1
 have other : ∀ b, b ≠ T → (s.heap.update T (Obj.mapFields (·.setIfInBounds 3 (fr.elim Value.none fun f => rawInt f)))).get? b = s.heap.get? b := fun b hb => Heap.get?_update_other _ _ (Ne.symm hb)
 have noR : ∀ b o, s.heap.get? b = some o → (∀ vs, o.data ≠ .fields vs) → b ≠ T := fun b o hb hnf q => by
  rw [q, hT] at hb; injection hb with hb; subst hb; exact hnf ts hdT
 unfold setFlight
 refine wpAny_bind (wpAny_field he hd h1 ?_)
 rw [if_pos (show (Value.ref T != Value.none) = true from by simp)]
 refine wpAny_setField hT hdT hsz3 (k _ ⟨fun b o hbo => (other b fun q => by rw [q, hnT] at hbo; cases hbo).trans (hkb b o hbo), hen,
  hl.of_keeps fun b o hb hnf => ⟨o, (other b (noR b o hb hnf)).trans hb, rfl⟩, ?_⟩ fun b o hb hnf => ⟨o.slots, (other b (noR b o hb hnf)).trans hb⟩)
 exact ⟨oe, vs, T, _, _, (other ea (Ne.symm hTe)).trans he, hcls, hd, h1, hnT, hTe, Heap.get?_update_self _ hT (Obj.isFreed_of_fields (Obj.data_mapFields hdT _)), Obj.data_mapFields hdT _, by simp [hsz3]⟩
end
noncomputable def CX1 (P : Program) (w : World) : CXT := fun outer H s E e s' => ∃ (ea : Addr) (c : Value) (dx : Option Addr) (B h0 : Heap) (H' : Hp), e = .ref ea ∧ s'.os = s.os ∧ AllBare s'.gens ∧ Aloft B outer ea c dx .none s'.heap ∧ h0.UpToSlots s'.heap ∧
 (∀ h6, B.StaysIn h6 → h0.UpToSlots h6 → Un (frs outer) [] H H' s.heap h6 ∧ HOk P w H' h6) ∧ E c dx H'
structure MadeX (h h' : Heap) (ea : Addr) (c : Value) (dx : Option Addr) : Prop where
 keeps : ∀ b o, h.get? b = some o → h'.get? b = some o
 new : h.get? ea = none
 there : ∃ t, h'.get? ea = some { cls := c, dict := dx, data := .fields #[.ref t, .none, .none, .none, .bool false, .none] }
theorem MadeX.of {h h' : Heap} {ea : Addr} {c : Value} {args : List Value} (m : Heap.MadeExcOf h h' ea c args) : MadeX h h' ea c none := ⟨m.keeps, m.new, let ⟨t, e, _⟩ := m.there; ⟨t, e⟩⟩
section
variable {M : Model} {A : Around} {E : Value → Shared → Prop} {s : Shared} {B : Heap} {l outer : List Env} {env : Env} {ea L : Addr} {c fl : Value} {dx : Option Addr} {Q : Unit → Shared → Prop}
theorem note_any (hfr : A.frames = some (env :: outer)) (hf : env.frame = some L) (h : Aloft B (env :: outer) ea c dx fl s.heap) (k : ∀ h', Aloft B (env :: outer) ea c dx (rawInt L) h' → s.heap.UpToSlots h' → Q () { s with heap := h' }) : wpAny M A (noteFrame (.ref ea) env) Q E s := by
 have hh := h
 obtain ⟨hkb, hen, hl, oe, vs, T, oT, ts, he, ⟨hcls, h0⟩, hd, h1, hnT, hTe, hT, hdT, h3⟩ := h
 subst hcls h0
 unfold noteFrame
 simp only [hf]
 refine wpAny_bind (wpAny_field he hd h1 ?_)
 rw [if_pos (show (Value.ref T != Value.none) = true from by simp)]
 refine wpAny_bind (wpAny_field hT hdT h3 ?_)
 by_cases hq : fl = rawInt L
 ·subst hq
  rw [if_pos (by simp)]
  exact wpAny_pure (k s.heap hh (.refl _))
 ·have other : ∀ b, b ≠ T → (s.heap.update T (Obj.mapFields (·.setIfInBounds 3 Value.none))).get? b = s.heap.get? b := fun b hb => Heap.get?_update_other _ _ (Ne.symm hb)
  have noR : ∀ b o, s.heap.get? b = some o → (∀ vs, o.data ≠ .fields vs) → b ≠ T := fun b o hb hnf q => by
   rw [q, hT] at hb; injection hb with hb; subst hb; exact hnf ts hdT
  rw [if_neg (show ¬ ((fl == rawInt L) = true) from by simpa using hq)]
  refine wpAny_bind (wpAny_setField hT hdT (Array.getElem?_eq_some_iff.mp h3).1 ?_)
  refine entry_any (s := { s with heap := _ }) hfr (hl.of_keeps fun b o hb hnf => ⟨o, (other b (noR b o hb hnf)).trans hb, rfl⟩) hf ((other ea (Ne.symm hTe)).trans he)
   (fun b o hbo => (other b fun q => by rw [q, hnT] at hbo; cases hbo).trans (hkb b o hbo)) hen hd (Array.getElem?_eq_some_iff.mp h1).1
   fun h' x1 x4 => k h' x1 fun b o hb hnf => x4 b o ((other b (noR b o hb hnf)).trans hb) hnf
theorem note_new {h : Heap} (hfr : A.frames = some (env :: outer)) (hf : env.frame = some L) (hb : B.StaysIn h) (hl : h.FunFrames B (env :: outer)) (m : MadeX h s.heap ea c dx) (k : ∀ h', Aloft B (env :: outer) ea c dx (rawInt L) h' → s.heap.UpToSlots h' → Q () { s with heap := h' }) : wpAny M A (noteFrame (.ref ea) env) Q E s := by
 obtain ⟨t, he⟩ := m.there
 unfold noteFrame
 simp only [hf]
 refine wpAny_bind (wpAny_field he rfl rfl ?_)
 rw [if_neg (by simp)]
 refine entry_any hfr (hl.of_keeps fun b o hb hnf => ⟨o, m.keeps b o hb, rfl⟩) hf he (fun b o e => m.keeps b o (hb b o e)) ?_ rfl (by simp) k
 cases q : B.get? ea with
 | none => rfl
 | some o => have := hb _ _ q; rw [m.new] at this; cases this
end
section
variable {X : Cx} {pins : List (Addr × Obj)} {σ : St} {H : Hp} {s : Shared}
theorem Inv.flies (I : Inv X pins σ H s) (hx : X.ex = []) (hst : X.stack = X.env :: X.outer) (hf : X.env.frame = some X.env.locals) {h6 : Heap}
  (k1 : (PySem.W.hideAll s.heap (frs X.stack)).StaysIn h6) (k2 : s.heap.UpToSlots h6) : Un (frs X.outer) [] X.H₀ H X.s₀.heap h6 ∧ HOk X.prog X.w H h6 := by
 have nex : ∀ b, b ∉ X.ex := fun b z => by rw [hx] at z; cases z
 have kk : ∀ b o, s.heap.get? b = some o → b ∉ frs X.stack → h6.get? b = some o := fun b o e n => k1 b o (PySem.W.hideAll_get _ e n)
 have fr : ∀ b, b ∈ frs X.stack → ∀ o, s.heap.get? b = some o → ∃ sl, h6.get? b = some { o with slots := sl } := fun b hb o e => by
  obtain ⟨_, o', e', hn⟩ := I.stack.mem hb
  rw [e] at e'
  cases e'
  exact k2 b o e hn
 have hsub : ∀ b, b ∈ frs X.outer → b ∈ frs X.stack := fun b hb => by
  rw [hst]
  unfold frs at hb ⊢
  rw [List.filterMap_cons, hf]
  exact List.mem_cons_of_mem _ hb
 have hsup : ∀ b, b ∈ frs X.stack → b = X.env.locals ∨ b ∈ frs X.outer := fun b hb => by
  rw [hst] at hb
  unfold frs at hb ⊢
  rw [List.filterMap_cons, hf] at hb
  exact List.mem_cons.mp hb
 have hL : ∀ b o, X.s₀.heap.get? b = some o → b ≠ X.env.locals := fun b o e z => by
  have h1 := Heap.lt_size e
  have h2 := I.ok.above
  rw [z] at h1
  exact absurd (Nat.lt_of_lt_of_le h1 h2) (Nat.lt_irrefl _)
 refine ⟨⟨fun b o e n hb _ => ?_, fun b o e n hb _ => ?_, fun b o e n _ => I.base.free b o e n (nex b), fun b o e _ => ?_, I.base.tups, I.base.frzs, I.base.tbls⟩, fun a o e => ?_⟩
 ·refine kk b o (I.base.keep b o e n hb (nex b)) fun z => ?_
  rcases hsup b z with z | z
  ·exact hL b o e z
  ·exact hb z
 ·obtain ⟨sl, e1⟩ := I.base.slot b o e n hb (nex b)
  obtain ⟨sl2, e2⟩ := fr b (hsub b hb) _ e1
  exact ⟨sl2, e2⟩
 ·obtain ⟨o1, e1⟩ := I.base.there b o e (nex b)
  by_cases hb : b ∈ frs X.stack
  ·obtain ⟨sl, e2⟩ := fr b hb _ e1
   exact ⟨_, e2⟩
  ·exact ⟨o1, kk b o1 e1 hb⟩
 ·refine (I.hok a o e).stay (fun b u hb q => kk b u q fun z => ?_) (fun _ q => q) fun _ _ q => q
  have hn := I.stkFree b z
  rcases hb with hb | hb
  ·subst hb; rw [e] at hn; cases hn
  ·rw [hb] at hn; cases hn
theorem made_leaves (I : Inv X pins σ H s) (hx : X.ex = []) (hst : X.stack = X.env :: X.outer) (hf : X.env.frame = some X.env.locals) {h' : Heap} {ea : Addr} {c : Value} {dx : Option Addr}
  (hm : MadeX s.heap h' ea c dx) {E : XK} (q : E c dx H) {E' : Value → Shared → Prop} :
  wpAny (model X.prog X.w) X.A (leaving X.env (.ref ea)) (fun _ s'' => CX1 X.prog X.w X.outer X.H₀ X.s₀ E (.ref ea) s'') E' { s with heap := h' } := by
 have hfr : X.A.frames = some (X.env :: X.outer) := by rw [← hst]; exact I.ok.frames
 have hst' := I.stack
 rw [hst] at hst'
 unfold leaving
 refine wpAny_bind (note_new (B := PySem.W.hideAll s.heap (frs X.stack)) (h := s.heap) hfr hf (fun b o e => PySem.W.of_hideAll _ e) (PySem.W.funFrames_hide hst' fun env he a ha => ?_) hm fun h4 al4 up4 => set_any al4 fun h5 ⟨x1, x2, ⟨_, _, x3⟩, x4⟩ up5 => ?_)
 ·rw [hst]; exact List.mem_filterMap.mpr ⟨env, he, ha⟩
 ·exact ⟨ea, c, dx, _, s.heap, H, rfl, I.os, I.bare, ⟨x1, x2, x3, x4⟩, (Heap.UpToSlots.of_keeps hm.keeps).trans (up4.trans up5), fun h6 k1 k2 => I.flies hx hst hf k1 k2, q⟩
end
theorem put_at (h g : Heap) (a : Addr) (o : Obj) (hg : g.get? a = some o) : ∃ h' : Heap, h'.get? a = some o ∧ ∀ b, b ≠ a → h'.get? b = h.get? b := by
 have ho : ∀ (x y : _) (z : _), o ≠ ⟨x, y, .freed, z⟩ := fun x y z e => by
  subst e
  unfold Heap.get? at hg
  split at hg
  ·cases hg
  ·rename_i h1
   exact h1 _ _ _ hg
 refine ⟨⟨Array.ofFn (n := max h.objs.size (a + 1)) fun i => if i.val = a then o else (h.objs[i.val]?).getD ⟨.none, none, .freed, #[]⟩, {}⟩, ?_, fun b hb => ?_⟩
 ·unfold Heap.get?
  rw [Array.getElem?_ofFn, dif_pos (by omega), if_pos rfl]
  obtain ⟨x, y, d, z⟩ := o
  cases d <;> first | rfl | exact absurd rfl (ho _ _ _)
 ·unfold Heap.get?
  rw [Array.getElem?_ofFn]
  by_cases hl : b < max h.objs.size (a + 1)
  ·rw [dif_pos hl, if_neg hb]
   cases h.objs[b]? <;> rfl
  ·rw [dif_neg hl, Array.getElem?_eq_none (Nat.le_trans (Nat.le_max_left _ _) (Nat.not_lt.mp hl))]
section
variable {B : Heap} {env : Env}
theorem note_env {x : Value} {env' : Env} (h : env.frame = env'.frame) : noteFrame x env = noteFrame x env' := by
 unfold noteFrame PySem.frameOf
 rw [h]
theorem frames_at {h h' B' : Heap} (hB : ∀ b, B.get? b = none → B'.get? b = none) : ∀ {l : List Env}, h.FunFrames B l → (∀ b ∈ frs l, h'.get? b = h.get? b) → h'.FunFrames B' l
  | [], _, _ => trivial
  | env :: r, ⟨hk, ⟨L, o, hf, hn, ho, hd⟩, hr⟩, k => ⟨hk, ⟨L, o, hf, hB L hn, (k L (by unfold frs; rw [List.filterMap_cons, hf]; exact .head _)).trans ho, hd⟩, frames_at hB hr fun b hb => k b (by
      unfold frs at hb ⊢; rw [List.filterMap_cons, hf]; exact .tail _ hb)⟩
end
noncomputable def Up (X : Cx) (pins : List (Addr × Obj)) (σ : St) (H : Hp) (C : Addr) (dx : Option Addr) (e : Value) (s : Shared) : Prop :=
 ∃ (ea : Addr) (fl : Value) (B : Heap), e = .ref ea ∧ Aloft B X.stack ea (.ref C) dx fl s.heap ∧ ∀ h6, B.StaysIn h6 → s.heap.UpToSlots h6 → Inv X pins σ H { s with heap := h6 }
noncomputable def Sk (X : Cx) : Prop := ∃ env0 outer0 L, X.stack = env0 :: outer0 ∧ env0.frame = some L ∧ X.env.frame = some L
section
variable {X : Cx} {pins : List (Addr × Obj)} {σ : St} {H : Hp} {s s' : Shared} {C : Addr} {dx : Option Addr} {e : Value}
theorem Inv.up (I : Inv X pins σ H s) {E : XK} (hc : CX1 X.prog X.w X.stack H s E e s') {G : Prop} (k : ∀ c dx H', E c dx H' → (∀ C, c = .ref C → Up X pins σ H' C dx e s') → G) : G := by
 obtain ⟨ea, c, dx, B, h0, H', rfl, os, bare, hfl, up, hk, q⟩ := hc
 refine k c dx H' q fun C e => ?_
 subst e
 exact ⟨ea, .none, B, rfl, hfl, fun h6 k1 k2 => by
  obtain ⟨un, hok⟩ := hk h6 k1 (up.trans k2)
  exact I.call' (s' := { s' with heap := h6 }) os un hok bare fun b z => nomatch z⟩
theorem Up.comp {N' : List Str} {scope : Scope} {cl : List (Str × Addr)} {Cn : Addr} {s2 : Shared} {H2 : Hp} {fp : List Addr} {pins' : List (Addr × Obj)} {σ' : St} (sk : Sk X) (cat : Cat X σ Cn s2 H2 fp) (u : Up (X.comp N' scope cl Cn s2 H2 fp) pins' σ' H C dx e s)
  (k : ∀ pins s', Up X pins σ H C dx e s' → X.xe e s') : (X.comp N' scope cl Cn s2 H2 fp).xe e s := by
 obtain ⟨ea, fl, B, rfl, al, inv⟩ := u
 obtain ⟨pins, I2, f2, hC⟩ := cat
 obtain ⟨env0, outer0, L, hst, hf0, hfx⟩ := sk
 have hfr : X.A.frames = some (env0 :: outer0) := by rw [← hst]; exact I2.ok.frames
 have al' : Aloft B (env0 :: outer0) ea (.ref C) dx fl s.heap := by rw [← hst]; exact al
 show wpAny (model X.prog X.w) X.A (noteFrame (.ref ea) (compEnvC scope cl Cn X.env)) (fun _ s'' => ErrC X Cn (.ref ea) s'') (ErrC X Cn) s
 rw [note_env (env' := env0) (show (compEnvC scope cl Cn X.env).frame = env0.frame from hfx.trans hf0.symm)]
 refine note_any hfr hf0 al' fun h4 al4 up4 => ?_
 obtain ⟨g1, g2, g3, g4⟩ := al4
 have I4 := inv h4 g1 up4
 obtain ⟨m, hn, _⟩ := I4.loc
 refine ⟨m, hn, fun h' sb cenv _ => ?_⟩
 obtain ⟨oC, es, ep, hoC, hdC, _⟩ := id hn
 have hCf : ∀ b o vs, h4.get? b = some o → o.data = .fields vs → b ≠ Cn := fun b o vs e1 e2 z => by
  subst z
  have e3 : h4.get? b = some oC := hoC
  rw [e1] at e3; cases e3
  rw [hdC] at e2; cases e2
 have hfrC : ∀ b ∈ frs (env0 :: outer0), b ≠ Cn := fun b hb z => by
  rw [← hst] at hb
  obtain ⟨_, o, ho, _⟩ := I2.stack.mem hb
  rw [z] at ho
  exact absurd (Heap.lt_size ho) (Nat.not_lt.mpr hC)
 have hB' : ∀ b, B.get? b = none → (PySem.W.hideAll B [Cn]).get? b = none := fun b e1 => by
  cases q : (PySem.W.hideAll B [Cn]).get? b with
  | none => rfl
  | some o => rw [PySem.W.of_hideAll _ q] at e1; cases e1
 have hBC : (PySem.W.hideAll B [Cn]).get? Cn = none := PySem.W.hideAll_none _ (.head _)
 obtain ⟨oe, vs, T, oT, ts, he, hcls, hd, h1, hnT, hTe, hT, hdT, h3⟩ := g4
 have he' : h'.get? ea = some oe := (sb.2 ea (hCf _ _ _ he hd)).trans he
 have hT' : h'.get? T = some oT := (sb.2 T (hCf _ _ _ hT hdT)).trans hT
 have al5 : Aloft (PySem.W.hideAll B [Cn]) X.stack ea (.ref C) dx (rawInt L) h' := by
  rw [hst]
  exact ⟨fun b o e1 => (sb.2 b fun z => by rw [z, hBC] at e1; cases e1).trans (g1 b o (PySem.W.of_hideAll _ e1)), hB' _ g2, frames_at hB' g3 fun b hb => sb.2 b (hfrC b hb), oe, vs, T, oT, ts, he', hcls, hd, h1, hB' _ hnT, hTe, hT', hdT, h3⟩
 unfold PySem.passOn
 refine wpAny_bind (wpAny_field he' hd h1 ?_)
 rw [if_neg (show ¬ ((Value.ref T == Value.none) = true) from by simp)]
 refine wpAny_bind (set_any (s := { s with heap := h' }) al5 fun h5 al6 up5 => wpAny_throw (k pins _ ⟨ea, _, _, rfl, al6, fun h6 k1 k2 => ?_⟩))
 obtain ⟨h7, e7, k7⟩ := put_at h6 h4 Cn oC hoC
 have I7 := inv h7 (fun b o e1 => by
  by_cases z : b = Cn
  ·subst z
   have e2 := g1 b o e1
   have e3 : h4.get? b = some oC := hoC
   rw [e3] at e2; cases e2; exact e7
  ·exact (k7 b z).trans (k1 b o (PySem.W.hideAll_get _ e1 (by simpa using z)))) fun b o e1 hnf => by
  obtain ⟨sl, e2⟩ := up4 b o e1 hnf
  by_cases z : b = Cn
  ·subst z
   have e3 : h4.get? b = some oC := hoC
   rw [e3] at e2; cases e2; exact ⟨_, e7⟩
  ·obtain ⟨sl2, e4⟩ := (up5.trans k2) b _ ((sb.2 b z).trans e2) hnf
   exact ⟨sl2, (k7 b z).trans e4⟩
 exact I2.letgo (s5 := { s with heap := h7 }) (I2.back f2 I7) hC I7.free fun b hb => (k7 b hb).symm
end
noncomputable abbrev bmV : List Value := [.type "ValueError", .type "Exception", .type "BaseException", .type "object"]
noncomputable def mroIn (K : PySem.W.Frag) (C : Addr) : List Value := match K.lookup C with
 | some ⟨_, _, .cls cd, _⟩ => cd.mro
 | _ => []
theorem exc_obj {K : PySem.W.Frag} {h : Heap} {C : Addr} (X : K.In h) (q : PySem.W.excIn K C bmV "ValueError.__new__" = true) :
  ∃ bm N nm qn bs hdct sn sub ab col dd k0 k1 k2 k3 k5 mN, h.get? C = some (excClassObj nm qn C N bs bm hdct sn sub ab col dd k0 k1 k2 k3 k5 "ValueError.__new__") ∧ h.Ns N mN ∧ mN "__init__" = none ∧ OwnTail h bmV bm ∧ mroIn K C = Value.ref C :: bm := by
 unfold PySem.W.excIn at q
 unfold mroIn
 split at q
 ·rename_i d0 c0 s0 e0
  rw [e0]
  dsimp only
  split at q
  ·rename_i C1 bm z0 z1 z2 z3 n1 z5 e1 e2
   rw [Bool.and_eq_true, Bool.and_eq_true, Bool.and_eq_true, Bool.and_eq_true, Bool.and_eq_true] at q
   obtain ⟨⟨⟨⟨⟨q1, q2⟩, q3⟩, q4⟩, q5⟩, q6⟩ := q
   have r1 : C1 = C := eq_of_beq q1
   have r2 : n1 = "ValueError.__new__" := eq_of_beq q2
   have r3 : c0.hasDel = false := by simpa using q3
   have r6 : PySem.W.nsIn K c0.ns "__init__" = some none := eq_of_beq q6
   subst r1 r2
   have r5 : s0 = #[z0, z1, z2, z3, some (.builtin "ValueError.__new__"), z5] := by
    cases s0 with
    | mk l => exact congrArg Array.mk e2
   cases c0 with
   | mk a1 a2 a3 a4 a5 a6 a7 a8 a9 a10 a11 =>
    dsimp only at e1 r3 q5 r6
    subst e1 r3 r5
    exact ⟨_, _, _, _, _, _, _, _, _, _, _, _, _, _, _, _, _, X _ _ e0, .of_isNs (PySem.W.isNs_of_in X q5), PySem.W.nsMap_none_of_in X q5 r6, PySem.W.tail_of_in X q4, rfl⟩
  ·cases q
 ·cases q
structure ExcK (X : Cx) (x : Str) (C : Addr) : Prop where
 gl : Gl X x
 mg : X.mg x = some (.ref C)
 ex : PySem.W.excIn X.K C bmV "ValueError.__new__" = true
 d : (x == ("__debug__" : Str)) = false
section
variable {X : Cx} {x : Str} {C : Addr} {np cpos pos cp : Pos} {z : Str} {cj : Nat} {σ : St} {H : Hp} {D : Ends}
end
end L2
namespace L2
open PySem PySem.Spec PyProof.Rows
variable [Cs]
section
variable {X : Cx} {pins : List (Addr × Obj)} {σ : St} {H : Hp} {s : Shared} {e : Value} {E : Value → Shared → Prop} {D : Ends} {f : Flow}
end
inductive HC where
 | s (z : Str)
 | b (c : Bool)
noncomputable def HC.V : HC → L2.V
 | .s z => .str z
 | .b c => .bl c
noncomputable def HC.D : HC → PyData
 | .s z => .str z
 | .b c => .bool c
noncomputable def HC.C : HC → Const
 | .s z => .str z
 | .b c => .bool c
structure HdK (X : Cx) (hd : ExceptHandler) (C : Addr) (t : Nat) (v : HC) : Prop where
 ex : ∃ x np y py cj pc pa hp, hd = .ExceptHandler (some (.Name x np)) none [.Assign [.Name y py] (.Constant v.C cj pc) pa] hp ∧ ExcK X x C ∧ X.N[t]? = some y ∧ Loc X.env.scope y ∧ (X.fn y = true ∨ X.env.scope.names.lookup y = some .local)
inductive HdKs (X : Cx) : List ExceptHandler → List (Addr × Nat × HC) → Prop
 | nil : HdKs X [] []
 | cons {hd : ExceptHandler} {hs : List ExceptHandler} {C : Addr} {t : Nat} {v : HC} {zs : List (Addr × Nat × HC)} : HdK X hd C t v → HdKs X hs zs → HdKs X (hd :: hs) ((C, t, v) :: zs)
section
variable {X : Cx} {pins : List (Addr × Obj)} {σ : St} {H : Hp} {s : Shared} {E : Value → Shared → Prop} {D : Ends} {B : Heap} {ea C : Addr} {dx : Option Addr}
end
end L2
namespace L2
open PySem PySem.Spec PyProof.Rows
variable [Cs]
section
variable {X : Cx} {pins : List (Addr × Obj)} {σ : St} {H : Hp} {s s' : Shared} {D : Ends} {e : Value} {C : Addr} {dx : Option Addr}
theorem wp_callX {CX : CXT} {E : XK} {sp : Sp} {Q : VK} {x : Str} {k : Nat} {e : Expr} {es : List Expr} {p pos : Pos} (kn : Kn X.prog X.w X.K X.mg X.base CX x k sp) (hr : Room k X.A) (hg : Gl X x)
  (hx : ∀ pins H s e s', Inv X pins σ H s → CX X.stack H s E e s' → X.xe e s') (h : wpA X (e :: es) σ H fun vs H1 => sp vs H1 Q E) (hdb : (x == ("__debug__" : Str)) = false)
  (he : starEach (e :: es) X.env = (false, eval e X.env) :: starEach es X.env) (hpl : (backTo pos (starEach es X.env)).any (·.1) = false) : wpE X (.Call (.Name x p) (e :: es) [] pos) σ H Q := fun pins s I => by
 obtain ⟨f, fd, ps, F, hm, hk, hb⟩ := kn.ex
 refine wpAny_Call_Name_kw (ld_glob I hg hm ?_ hdb)
 refine PySem.W.callWith_K (h₀ := X.base) I.ok.mod.kin hk (thn (h pos pins s I) fun us s1 ⟨vs, H1, I1, r, q⟩ => ⟨I1.kIn, ?_⟩) he hpl
 have hl : us.length = ps.length := by rw [← r.length]; exact F.len _ _ _ _ q
 have hb' := hb s1 us I1.kIn (by simpa using hl)
 rw [List.append_nil] at hb'
 refine wpAny_call (codeAny_mono (F.run X.A X.stack s1 H1 ⟨us, []⟩ us vs Q E hr I1.env0 hb' r q) fun r s' hq => ?_)
 cases r with
 | error e => exact hx pins H1 s1 e s' I1 hq
 | ok fl =>
  cases fl with
  | ret u => exact I1.after hq
  | next => exact False.elim hq
  | brk => exact False.elim hq
  | cont => exact False.elim hq
theorem wp_callX0 {CX : CXT} {E : XK} {sp : Sp} {Q : VK} {x : Str} {k : Nat} {p pos : Pos} (kn : Kn X.prog X.w X.K X.mg X.base CX x k sp) (hr : Room k X.A) (hg : Gl X x)
  (hx : ∀ pins H s e s', Inv X pins σ H s → CX X.stack H s E e s' → X.xe e s') (h : sp [] H Q E) (hdb : (x == ("__debug__" : Str)) = false) : wpE X (.Call (.Name x p) [] [] pos) σ H Q := fun pins s I => by
 obtain ⟨f, fd, ps, F, hm, hk, hb⟩ := kn.ex
 refine wpAny_Call_Name_kw (ld_glob I hg hm ?_ hdb)
 refine PySem.W.callWith_K0 I.kIn hk ?_
 have hl : ([] : List Value).length = ps.length := F.len _ _ _ _ h
 have hb' := hb s [] I.kIn (by simpa using hl)
 rw [List.append_nil] at hb'
 refine wpAny_call (codeAny_mono (F.run X.A X.stack s H ⟨[], []⟩ [] [] Q E hr I.env0 hb' .nil h) fun r s' hq => ?_)
 cases r with
 | error e => exact hx pins H s e s' I hq
 | ok fl =>
  cases fl with
  | ret u => exact I.after hq
  | next => exact False.elim hq
  | brk => exact False.elim hq
  | cont => exact False.elim hq
end
section
variable {P : Program} {w : World} {K : PySem.W.Frag} {mg : Str → Option Value} {base : Heap} {x : Str} {st : Stmt} {N ps : List Str} {k : Nat}
end
end L2
namespace L2
open PySem PySem.Spec PyProof.Rows
variable [Cs]
section
variable {prog : Program} {w : World} {A : Around} {E : Value → Shared → Prop} {s : Shared}
end
section
variable {M : Model} {A : Around} {E : Value → Shared → Prop} {s : Shared}
end
section
variable {X : Cx}
noncomputable def gTupL (K : PySem.W.Frag) (n : Nat) (t : TGs) : TG := fun v σ H Q => ∃ a xs, v = .ref a ∧ SqL K H a xs ∧ xs.length = n ∧ t xs σ H Q
theorem pg_tupL {es : List Expr} {k : Nat} {t : TGs} {n : Nat} {pos : Pos} (hc : X.calm = true) (h : PGs X es t) (hn : (assignEach es X.env).length = n) (hst : (assignEach es X.env).findIdx? (·.1) = none) : PG X (.Tuple es k pos) (gTupL X.K n t) := by
 intro pins s σ H v u Q I r hw
 obtain ⟨a, xs, e1, hq, hl, hw⟩ := hw
 subst e1
 cases r
 obtain ⟨its, rv, pl, hz⟩ := I.list hq
 rw [assign_Tuple]
 refine wpAny_bind (wpAny_standAt ?_)
 unfold unpack
 have hsz : (assignEach es X.env).length = its.toArray.size := by rw [hn, ← hl, rv.length, List.size_toArray]
 rw [hst, hsz]
 refine wpAny_bind (wpAny_holding (PySem.W.kun_itemsOf (I.ok.hd hc) pl.isList fun h' hx => ?_))
 have I1 : Inv X pins σ H { s with heap := h' } := I.kept (t' := s.toks) fun b o e => hx b o (Nat.ne_of_lt (Heap.lt_size e)) e
 exact h pins _ σ H xs _ Q I1 (by simpa using rv) hw
end
end L2
namespace L3
open PySem PySem.Spec PyProof.Rows L2
inductive OV where
 | d (x : PyData)
 | l (xs : List OV)
 | t (xs : List OV)
 | m (kvs : List (Str × PyData))
 | o (c : Str) (ns : List Str) (xs : List OV)
noncomputable abbrev Gv := List (Option OV)
mutual
noncomputable def OV.view : OV → PyData
 | .d x => x
 | .l xs => .list (OV.views xs)
 | .t xs => .tuple (OV.views xs)
 | .m kvs => .dict (kvs.map dK)
 | .o c ns xs => .dict ((.none, .str c) :: (ns.zip (OV.views xs)).map dK)
noncomputable def OV.views : List OV → List PyData
 | [] => []
 | x :: xs => x.view :: OV.views xs
end
theorem OV.views_d (xs : List PyData) : OV.views (xs.map .d) = xs := by
 induction xs with
 | nil => rfl
 | cons x xs ih => simp [OV.views, OV.view, ih]
theorem OV.views_map (xs : List OV) : OV.views xs = xs.map OV.view := by
 induction xs with
 | nil => rfl
 | cons x xs ih => simp [OV.views, ih]
variable [Cs]
mutual
/-- v stands for the value; its own lists lie at A -/
inductive OR (M : Addr → Prop) (H : Hp) : V → OV → List Addr → Prop
 | d {v : V} {x : PyData} : Rep M H v x → OR M H v (.d x) []
 | l {a : Addr} {vs : List V} {xs : List OV} {A : List Addr} : H a = some (.lst vs) → ORL M H vs xs A → OR M H (.ref a) (.l xs) (a :: A)
 | t {a : Addr} {vs : List V} {xs : List OV} {A : List Addr} : H a = some (.tup vs) → ORL M H vs xs A → OR M H (.ref a) (.t xs) A
 | m {a : Addr} {kvs : List (Str × V)} {ds : List (Str × PyData)} : H a = some (.dK (kvs.map kK)) → kvs.map (·.1) = ds.map (·.1) → RepL M H (kvs.map (·.2)) (ds.map (·.2)) → OR M H (.ref a) (.m ds) [a]
 | o {a dx : Addr} {c : Str} {fs : List (Str × V)} {ns : List Str} {xs : List OV} {A : List Addr} : H a = some (.ins (Cs.adr c) dx fs) → fs.map (·.1) = ns → ORL M H (fs.map (·.2)) xs A → OR M H (.ref a) (.o c ns xs) (a :: A)
inductive ORL (M : Addr → Prop) (H : Hp) : List V → List OV → List Addr → Prop
 | nil : ORL M H [] [] []
 | cons {v : V} {vs : List V} {x : OV} {xs : List OV} {A B : List Addr} : OR M H v x A → ORL M H vs xs B → ORL M H (v :: vs) (x :: xs) (A ++ B)
end
noncomputable abbrev Nothing : Addr → Prop := fun _ => False
theorem repL_map {M M' : Addr → Prop} {H H' : Hp} (hr : ∀ v d, Rep M H v d → Rep M' H' v d) : ∀ {vs : List V} {ds : List PyData}, RepL M H vs ds → RepL M' H' vs ds
 | _, _, .nil => .nil
 | _, _, .cons r t => .cons (hr _ _ r) (repL_map hr t)
theorem OV.views_len (xs : List OV) : (OV.views xs).length = xs.length := by rw [OV.views_map, List.length_map]
theorem ORL.length {M : Addr → Prop} {H : Hp} : ∀ {vs : List V} {os : List OV} {A : List Addr}, ORL M H vs os A → vs.length = os.length
 | _, _, _, .nil => rfl
 | _, _, _, .cons _ t => by rw [List.length_cons, List.length_cons, ORL.length t]
theorem zip_fst {α β : Type} : ∀ {ns : List α} {xs : List β}, ns.length = xs.length → (ns.zip xs).map (·.1) = ns := fun {ns xs} h => by rw [List.map_fst_zip (Nat.le_of_eq h)]
theorem zip_snd {α β : Type} : ∀ {ns : List α} {xs : List β}, ns.length = xs.length → (ns.zip xs).map (·.2) = xs := fun {ns xs} h => by rw [List.map_snd_zip (Nat.le_of_eq h.symm)]
mutual
theorem OR.go {M M' : Addr → Prop} {H H' : Hp} (hr : ∀ v d, Rep M H v d → Rep M' H' v d) (ht : ∀ b xs, H b = some (.tup xs) → H' b = some (.tup xs)) : ∀ {v : V} {o : OV} {A : List Addr}, (∀ a ∈ A, H' a = H a) → OR M H v o A → OR M' H' v o A
 | _, _, _, _, .d r => .d (hr _ _ r)
 | _, _, _, h, .l e r => .l (by rw [h _ List.mem_cons_self]; exact e) (ORL.go hr ht (fun a ha => h a (List.mem_cons_of_mem _ ha)) r)
 | _, _, _, h, .t e r => .t (ht _ _ e) (ORL.go hr ht h r)
 | _, _, _, h, .m e k r => .m (by rw [h _ List.mem_cons_self]; exact e) k (repL_map hr r)
 | _, _, _, h, .o e k r => .o (by rw [h _ List.mem_cons_self]; exact e) k (ORL.go hr ht (fun a ha => h a (List.mem_cons_of_mem _ ha)) r)
theorem ORL.go {M M' : Addr → Prop} {H H' : Hp} (hr : ∀ v d, Rep M H v d → Rep M' H' v d) (ht : ∀ b xs, H b = some (.tup xs) → H' b = some (.tup xs)) : ∀ {v : List V} {o : List OV} {A : List Addr}, (∀ a ∈ A, H' a = H a) → ORL M H v o A → ORL M' H' v o A
 | _, _, _, _, .nil => .nil
 | _, _, _, h, .cons r t =>   .cons (OR.go hr ht (fun a ha => h a (List.mem_append_left _ ha)) r) (ORL.go hr ht (fun a ha => h a (List.mem_append_right _ ha)) t)
end
mutual
/-- given up: it is data from now on -/
theorem OR.rep {M M' : Addr → Prop} {H : Hp} (hm : ∀ b, M' b → M b) : ∀ {v : V} {o : OV} {A : List Addr}, (∀ a ∈ A, ¬ M' a) → OR M H v o A → Rep M' H v o.view
 | _, _, _, _, .d r => r.less fun b hb _ => hm b hb
 | _, _, _, h, .l e r => .list e (h _ List.mem_cons_self) (ORL.rep hm (fun a ha => h a (List.mem_cons_of_mem _ ha)) r)
 | _, _, _, h, .t e r => .tuple e (ORL.rep hm h r)
 | _, _, _, h, .m e k r => .dict (.inl e) (h _ List.mem_cons_self) k (repL_map (fun _ _ x => x.less fun b hb _ => hm b hb) r)
 | _, _, _, h, .o (fs := fs) (ns := ns) (xs := xs) e k r => by
  have hl : ns.length = (OV.views xs).length := by rw [OV.views_len, ← r.length, ← k, List.length_map, List.length_map]
  refine .inst e (h _ List.mem_cons_self) (by rw [zip_fst hl]; exact k) ?_
  rw [zip_snd hl]
  exact ORL.rep hm (fun a ha => h a (List.mem_cons_of_mem _ ha)) r
theorem ORL.rep {M M' : Addr → Prop} {H : Hp} (hm : ∀ b, M' b → M b) : ∀ {v : List V} {o : List OV} {A : List Addr}, (∀ a ∈ A, ¬ M' a) → ORL M H v o A → RepL M' H v (OV.views o)
 | _, _, _, _, .nil => .nil
 | _, _, _, h, .cons r t => .cons (OR.rep hm (fun a ha => h a (List.mem_append_left _ ha)) r) (ORL.rep hm (fun a ha => h a (List.mem_append_right _ ha)) t)
end
theorem OR.weak {M : Addr → Prop} {H : Hp} {v : V} {o : OV} {A : List Addr} (r : OR M H v o A) : Rep Nothing H v o.view := r.rep (fun _ h => h.elim) fun _ _ h => h
mutual
theorem OR.laid {M : Addr → Prop} {H : Hp} : ∀ {v : V} {o : OV} {A : List Addr}, OR M H v o A → ∀ a ∈ A, ∃ vs, H a = some vs
 | _, _, _, .d _, a, h => by cases h
 | _, _, _, .l e r, a, h => by
  rcases List.mem_cons.mp h with rfl | h
  ·exact ⟨_, e⟩
  ·exact ORL.laid r a h
 | _, _, _, .t e r, a, h => ORL.laid r a h
 | _, _, _, .m e k r, a, h => by
  rcases List.mem_cons.mp h with rfl | h
  ·exact ⟨_, e⟩
  ·cases h
 | _, _, _, .o e k r, a, h => by
  rcases List.mem_cons.mp h with rfl | h
  ·exact ⟨_, e⟩
  ·exact ORL.laid r a h
theorem ORL.laid {M : Addr → Prop} {H : Hp} : ∀ {v : List V} {o : List OV} {A : List Addr}, ORL M H v o A → ∀ a ∈ A, ∃ vs, H a = some vs
 | _, _, _, .nil, a, h => by cases h
 | _, _, _, .cons r t, a, h => by
  rcases List.mem_append.mp h with h | h
  ·exact OR.laid r a h
  ·exact ORL.laid t a h
end
theorem ORL.data {M : Addr → Prop} {H : Hp} : ∀ {vs : List V} {ds : List PyData}, RepL M H vs ds → ORL M H vs (ds.map .d) []
 | _, _, .nil => .nil
 | _, _, .cons r t => .cons (A := []) (.d r) (ORL.data t)
noncomputable abbrev Fp := Nat → List Addr
noncomputable def fset (F : Fp) (i : Nat) (A : List Addr) : Fp := fun j => if j = i then A else F j
theorem fset_same {F : Fp} {i : Nat} {A : List Addr} : fset F i A i = A := by unfold fset; rw [if_pos rfl]
theorem fset_ne {F : Fp} {i j : Nat} {A : List Addr} (h : j ≠ i) : fset F i A j = F j := by unfold fset; rw [if_neg h]
noncomputable def MM (M0 : Addr → Prop) (F : Fp) : Addr → Prop := fun a => M0 a ∨ ∃ i, a ∈ F i
noncomputable abbrev Nu := List (Option V)
structure RS (M0 : Addr → Prop) (F : Fp) (Γ : Gv) (ν : Nu) (H : Hp) : Prop where
 al0 : ∀ a, M0 a → H a ≠ none
 dis0 : ∀ i a, a ∈ F i → ¬ M0 a
 nd : ∀ i, (F i).Nodup
 dis : ∀ i j a, a ∈ F i → a ∈ F j → i = j
 at' : ∀ i o, Γ[i]? = some (some o) → ∃ v, ν[i]? = some (some v) ∧ OR (MM M0 F) H v o (F i)
 emp : ∀ i, (∀ o, Γ[i]? ≠ some (some o)) → F i = []
 len : ν.length = Γ.length
structure Stp (F : Fp) (H : Hp) (F' : Fp) (H' : Hp) : Prop where
 keep : ∀ b o, H b = some o → (∀ i, b ∉ F i) → H' b = some o ∧ ∀ i, b ∉ F' i
 tups : ∀ b xs, H b = some (.tup xs) → H' b = some (.tup xs)
 stay : ∀ b, H b ≠ none → H' b ≠ none
theorem Stp.refl (F : Fp) (H : Hp) : Stp F H F H := ⟨fun _ _ e n => ⟨e, n⟩, fun _ _ e => e, fun _ h => h⟩
theorem Stp.trans {F F1 F2 : Fp} {H H1 H2 : Hp} (a : Stp F H F1 H1) (b : Stp F1 H1 F2 H2) : Stp F H F2 H2 :=
 ⟨fun c o e n => let ⟨e1, n1⟩ := a.keep c o e n; b.keep c o e1 n1, fun c xs e => b.tups c xs (a.tups c xs e), fun c h => b.stay c (a.stay c h)⟩
theorem Stp.same {F : Fp} {H H' : Hp} (s : Same H H') : Stp F H F H' := ⟨fun b o e n => ⟨s b o e, n⟩, fun b xs e => s b _ e, fun b h => by
 cases q : H b with
 | none => exact absurd q h
 | some o => rw [s b o q]; exact fun z => nomatch z⟩
theorem Stp.free {F F' : Fp} {H H' : Hp} (s : Stp F H F' H') {a : Addr} (n : H' a = none) : H a = none := by
 cases q : H a with
 | none => rfl
 | some o => exact absurd n (s.stay a (by rw [q]; exact fun z => nomatch z))
section
variable {M0 : Addr → Prop} {F F' : Fp} {Γ Γ' : Gv} {ν ν' : Nu} {H H' : Hp}
theorem RS.laidF (r : RS M0 F Γ ν H) {i : Nat} {a : Addr} (h : a ∈ F i) : ∃ vs, H a = some vs := by
 by_cases q : ∃ o, Γ[i]? = some (some o)
 ·obtain ⟨o, q⟩ := q
  obtain ⟨v, _, z⟩ := r.at' i o q
  exact z.laid a h
 ·rw [r.emp i fun o e => q ⟨o, e⟩] at h; cases h
theorem RS.al (r : RS M0 F Γ ν H) : Al (MM M0 F) H := fun a h => by
 rcases h with h | ⟨i, h⟩
 ·exact r.al0 a h
 ·obtain ⟨vs, e⟩ := r.laidF h
  rw [e]; exact fun z => nomatch z
mutual
/-- data goes through a step -/
theorem rep_stp (s : Stp F H F' H') (h0 : ∀ a, M0 a → H a ≠ none) : ∀ {v : V} {d : PyData}, Rep (MM M0 F) H v d → Rep (MM M0 F') H' v d
 | _, _, .none => .none
 | _, _, .bool b => .bool b
 | _, _, .int i => .int i
 | _, _, .str x => .str x
 | _, _, .list (a := a) e n q => by
  have hn : ∀ i, a ∉ F i := fun i h => n (.inr ⟨i, h⟩)
  obtain ⟨e', n'⟩ := s.keep a _ e hn
  refine .list e' ?_ (repL_stp s h0 q)
  rintro (h | ⟨i, h⟩)
  ·exact n (.inl h)
  ·exact n' i h
 | _, _, .tuple e q => .tuple (s.tups _ _ e) (repL_stp s h0 q)
 | _, _, .dict (a := a) e n k q => by
  have hn : ∀ i, a ∉ F i := fun i h => n (.inr ⟨i, h⟩)
  have : ∃ o, H a = some o := by rcases e with e | ⟨o, e⟩ <;> exact ⟨_, e⟩
  obtain ⟨o, eo⟩ := this
  obtain ⟨_, n'⟩ := s.keep a _ eo hn
  refine .dict (e.imp (fun z => (s.keep a _ z hn).1) fun ⟨o, z⟩ => ⟨o, (s.keep a _ z hn).1⟩) ?_ k (repL_stp s h0 q)
  rintro (h | ⟨i, h⟩)
  ·exact n (.inl h)
  ·exact n' i h
 | _, _, .inst (a := a) e n k q => by
  obtain ⟨e', n'⟩ := s.keep a _ e fun i h => n (.inr ⟨i, h⟩)
  refine .inst e' ?_ k (repL_stp s h0 q)
  rintro (h | ⟨i, h⟩)
  ·exact n (.inl h)
  ·exact n' i h
 | _, _, .exo (a := a) e n x k q => by
  have go : ∀ b o, H b = some o → ¬ MM M0 F b → H' b = some o ∧ ¬ MM M0 F' b := fun b o e n => by
   obtain ⟨e', n'⟩ := s.keep b _ e fun i h => n (.inr ⟨i, h⟩)
   refine ⟨e', ?_⟩
   rintro (h | ⟨i, h⟩)
   ·exact n (.inl h)
   ·exact n' i h
  exact .exo (go a _ e n).1 (go a _ e n).2 (x.imp id fun ⟨d, z, q, m⟩ => ⟨d, z, (go d _ q m).1, (go d _ q m).2⟩) k (repL_stp s h0 q)
theorem repL_stp (s : Stp F H F' H') (h0 : ∀ a, M0 a → H a ≠ none) : ∀ {vs : List V} {ds : List PyData}, RepL (MM M0 F) H vs ds → RepL (MM M0 F') H' vs ds
 | _, _, .nil => .nil
 | _, _, .cons r t => .cons (rep_stp s h0 r) (repL_stp s h0 t)
end
theorem RS.same (r : RS M0 F Γ ν H) (s : Same H H') : RS M0 F Γ ν H' where
 al0 a h := by
  have := r.al0 a h
  cases q : H a with
  | none => exact absurd q this
  | some o => rw [s a o q]; exact fun z => nomatch z
 dis0 := r.dis0
 nd := r.nd
 dis := r.dis
 at' i o e := by
  obtain ⟨v, e1, q⟩ := r.at' i o e
  exact ⟨v, e1, q.go (fun v d x => x.grow s.grow) (fun b xs e => s b _ e) fun a ha => by
   obtain ⟨vs, z⟩ := q.laid a ha
   rw [z, s a _ z]⟩
 emp := r.emp
 len := r.len
theorem RS.put {i : Nat} {o : OV} {v : V} {A : List Addr} (r : RS M0 F Γ ν H) (s : Stp F H (fset F i A) H') (hF : ∀ j, j ≠ i → ∀ a ∈ F j, H' a = H a)
  (hm : ∀ a, M0 a → H' a ≠ none) (hA0 : ∀ a ∈ A, ¬ M0 a) (hAn : A.Nodup) (hAd : ∀ j, j ≠ i → ∀ a ∈ A, a ∉ F j) (hi : i < Γ.length)
  (q : OR (MM M0 (fset F i A)) H' v o A) : RS M0 (fset F i A) (Γ.set i (some o)) (ν.set i (some v)) H' where
 al0 := hm
 dis0 j a h := by
  by_cases hj : j = i
  ·subst hj; rw [fset_same] at h; exact hA0 a h
  ·rw [fset_ne hj] at h; exact r.dis0 j a h
 nd j := by
  by_cases hj : j = i
  ·subst hj; rw [fset_same]; exact hAn
  ·rw [fset_ne hj]; exact r.nd j
 dis j k a h1 h2 := by
  by_cases hj : j = i
  ·by_cases hk : k = i
   ·rw [hj, hk]
   ·subst hj; rw [fset_same] at h1; rw [fset_ne hk] at h2; exact absurd h2 (hAd k hk a h1)
  ·by_cases hk : k = i
   ·subst hk; rw [fset_same] at h2; rw [fset_ne hj] at h1; exact absurd h1 (hAd j hj a h2)
   ·rw [fset_ne hj] at h1; rw [fset_ne hk] at h2; exact r.dis j k a h1 h2
 at' j p e := by
  by_cases hj : j = i
  ·subst hj
   rw [List.getElem?_set_self hi] at e
   cases e
   refine ⟨v, by rw [List.getElem?_set_self (by rw [r.len]; exact hi)], ?_⟩
   rw [fset_same]; exact q
  ·rw [List.getElem?_set_ne (Ne.symm hj)] at e ⊢
   obtain ⟨u, e1, z⟩ := r.at' j p e
   refine ⟨u, e1, ?_⟩
   rw [fset_ne hj]
   exact z.go (fun v d x => rep_stp s r.al0 x) s.tups (hF j hj)
 emp j h := by
  by_cases hj : j = i
  ·subst hj
   rw [List.getElem?_set_self hi] at h
   exact absurd rfl (h o)
  ·rw [fset_ne hj]
   refine r.emp j fun p e => h p ?_
   rw [List.getElem?_set_ne (Ne.symm hj)]; exact e
 len := by rw [List.length_set, List.length_set]; exact r.len
theorem RS.setD {i : Nat} {d : PyData} {v : V} (r : RS M0 F Γ ν H) (q : Rep (MM M0 F) H v d) (hi : i < Γ.length) : ∃ F', RS M0 F' (Γ.set i (some (.d d))) (ν.set i (some v)) H ∧ Stp F H F' H := by
 have s : Stp F H (fset F i []) H := ⟨fun b o e n => ⟨e, fun j => by
  by_cases hj : j = i
  ·subst hj; rw [fset_same]; exact fun z => nomatch z
  ·rw [fset_ne hj]; exact n j⟩, fun _ _ e => e, fun _ h => h⟩
 exact ⟨_, r.put s (fun _ _ _ _ => rfl) r.al0 (fun _ h => nomatch h) .nil (fun _ _ _ h => nomatch h) hi (.d (rep_stp s r.al0 q)), s⟩
noncomputable def fcut (F : Fp) (n : Nat) : Fp := fun j => if j < n then F j else []
theorem fcut_lt {n j : Nat} (h : j < n) : fcut F n j = F j := by unfold fcut; rw [if_pos h]
theorem fcut_ge {n j : Nat} (h : ¬ j < n) : fcut F n j = [] := by unfold fcut; rw [if_neg h]
theorem fcut_sub {n j : Nat} {a : Addr} (h : a ∈ fcut F n j) : j < n ∧ a ∈ F j := by
 unfold fcut at h
 split at h
 ·exact ⟨by assumption, h⟩
 ·cases h
theorem stp_sub (h : ∀ j a, a ∈ F' j → ∃ k, a ∈ F k) : Stp F H F' H := ⟨fun b o e n => ⟨e, fun j hj => let ⟨k, hk⟩ := h j b hj; n k hk⟩, fun _ _ e => e, fun _ h => h⟩
theorem RS.cut (r : RS M0 F Γ ν H) (n : Nat) : RS M0 (fcut F n) (Γ.take n) (ν.take n) H ∧ Stp F H (fcut F n) H := by
 have s : Stp F H (fcut F n) H := stp_sub fun j a h => ⟨j, (fcut_sub h).2⟩
 refine ⟨⟨r.al0, fun j a h => r.dis0 j a (fcut_sub h).2, fun j => ?_, fun j k a h1 h2 => r.dis j k a (fcut_sub h1).2 (fcut_sub h2).2, fun j o e => ?_, fun j h => ?_, ?_⟩, s⟩
 ·by_cases hj : j < n
  ·rw [fcut_lt hj]; exact r.nd j
  ·rw [fcut_ge hj]; exact .nil
 ·have hj : j < n := by
   by_cases hj : j < n
   ·exact hj
   ·rw [List.getElem?_eq_none (by rw [List.length_take]; omega)] at e; cases e
  rw [List.getElem?_take_of_lt hj] at e ⊢
  obtain ⟨v, e1, q⟩ := r.at' j o e
  exact ⟨v, e1, by rw [fcut_lt hj]; exact q.go (fun _ _ x => rep_stp s r.al0 x) s.tups fun _ _ => rfl⟩
 ·by_cases hj : j < n
  ·rw [fcut_lt hj]
   refine r.emp j fun o e => h o ?_
   rw [List.getElem?_take_of_lt hj]; exact e
  ·exact fcut_ge hj
 ·rw [List.length_take, List.length_take, r.len]
theorem RS.ext (r : RS M0 F Γ ν H) (k : Nat) : RS M0 F (Γ ++ List.replicate k none) (ν ++ List.replicate k none) H := by
 have get : ∀ {α : Type} (l : List (Option α)) (j : Nat) (o : α), (l ++ List.replicate k none)[j]? = some (some o) → l[j]? = some (some o) := fun {α} l j o e => by
  by_cases hj : j < l.length
  ·rw [List.getElem?_append_left hj] at e; exact e
  ·rw [List.getElem?_append_right (by omega), List.getElem?_replicate] at e
   split at e <;> cases e
 have put : ∀ {α : Type} (l : List (Option α)) (j : Nat) (o : α), l[j]? = some (some o) → (l ++ List.replicate k none)[j]? = some (some o) := fun {α} l j o e => by
  rw [List.getElem?_append_left (List.getElem?_eq_some_iff.mp e).1]; exact e
 exact ⟨r.al0, r.dis0, r.nd, r.dis, fun j o e => let ⟨v, e1, q⟩ := r.at' j o (get _ _ _ e); ⟨v, put _ _ _ e1, q⟩, fun j h => r.emp j fun o e => h o (put _ _ _ e), by simp [r.len]⟩
theorem set_last {α : Type} (l : List (Option α)) (x : α) : (l ++ List.replicate 1 none).set l.length (some x) = l ++ [some x] := by
 rw [List.set_append_right _ _ (Nat.le_refl _)]; simp
theorem RS.newO {p : Addr} {vs : List V} {ds : List PyData} (r : RS M0 F Γ ν H) (n : H p = none) (q : RepL (MM M0 F) H vs ds) :
  RS M0 (fset F Γ.length [p]) (Γ ++ [some (.l (ds.map .d))]) (ν ++ [some (.ref p)]) (upd H p (.lst vs)) ∧ Stp F H (fset F Γ.length [p]) (upd H p (.lst vs)) := by
 have hp : ∀ i, p ∉ F i := fun i h => by
  obtain ⟨vs, e⟩ := r.laidF h
  rw [n] at e; cases e
 have he : F Γ.length = [] := r.emp _ fun o e => by
  rw [List.getElem?_eq_none (Nat.le_refl _)] at e; cases e
 have s : Stp F H (fset F Γ.length [p]) (upd H p (.lst vs)) := ⟨fun b o e nb => ⟨upd_new n b o e, fun j h => by
  by_cases hj : j = Γ.length
  ·subst hj; rw [fset_same] at h
   have e' : b = p := by simpa using h
   subst e'; rw [n] at e; cases e
  ·rw [fset_ne hj] at h; exact nb j h⟩, fun b xs e => upd_new n b _ e, fun b h => by
   by_cases e : b = p
   ·subst e; exact absurd n h
   ·rw [upd_ne e]; exact h⟩
 have r1 := (r.ext 1).put (i := Γ.length) (o := .l (ds.map .d)) (v := .ref p) (A := [p]) (H' := upd H p (.lst vs)) s (fun j _ a ha => upd_ne (fun e => hp j (by rw [← e]; exact ha)))
  (fun a h => s.stay a (r.al0 a h)) (fun a ha h => by
   have e : a = p := by simpa using ha
   subst e; exact r.al0 a h n) (List.nodup_cons.mpr ⟨(fun z => nomatch z), .nil⟩) (fun j _ a ha => by
   have e : a = p := by simpa using ha
   subst e; exact hp j) (by simp) (.l upd_same (ORL.data (repL_stp s r.al0 q)))
 rw [set_last] at r1
 have e2 : (ν ++ List.replicate 1 none).set Γ.length (some (V.ref p)) = ν ++ [some (V.ref p)] := by rw [← r.len, set_last]
 rw [e2] at r1
 exact ⟨r1, s⟩
theorem RS.move {i : Nat} {o : OV} {v : V} (r : RS M0 F (Γ ++ [some o]) (ν ++ [some v]) H) (hi : i < Γ.length) : ∃ F', RS M0 F' (Γ.set i (some o)) (ν.set i (some v)) H ∧ Stp F H F' H := by
 have hl : ν.length = Γ.length := by have := r.len; simp at this; exact this
 have hni : Γ.length ≠ i := Nat.ne_of_gt hi
 let F' : Fp := fun j => if j = i then F Γ.length else if j < Γ.length then F j else []
 have hFi : F' i = F Γ.length := by show (if i = i then _ else _) = _; rw [if_pos rfl]
 have hFj : ∀ j, j ≠ i → j < Γ.length → F' j = F j := fun j h1 h2 => by show (if j = i then _ else _) = _; rw [if_neg h1, if_pos h2]
 have hFo : ∀ j, j ≠ i → ¬ j < Γ.length → F' j = [] := fun j h1 h2 => by show (if j = i then _ else _) = _; rw [if_neg h1, if_neg h2]
 have sub : ∀ j a, a ∈ F' j → (j = i ∧ a ∈ F Γ.length) ∨ (j ≠ i ∧ j < Γ.length ∧ a ∈ F j) := fun j a h => by
  by_cases h1 : j = i
  ·subst h1; rw [hFi] at h; exact .inl ⟨rfl, h⟩
  ·by_cases h2 : j < Γ.length
   ·rw [hFj j h1 h2] at h; exact .inr ⟨h1, h2, h⟩
   ·rw [hFo j h1 h2] at h; cases h
 have s : Stp F H F' H := stp_sub fun j a h => by
  rcases sub j a h with ⟨_, h⟩ | ⟨_, _, h⟩
  ·exact ⟨_, h⟩
  ·exact ⟨_, h⟩
 refine ⟨F', ⟨r.al0, fun j a h => ?_, fun j => ?_, fun j k a h1 h2 => ?_, fun j p e => ?_, fun j h => ?_, by simp [hl]⟩, s⟩
 ·rcases sub j a h with ⟨_, h⟩ | ⟨_, _, h⟩
  ·exact r.dis0 _ a h
  ·exact r.dis0 _ a h
 ·by_cases h1 : j = i
  ·subst h1; rw [hFi]; exact r.nd _
  ·by_cases h2 : j < Γ.length
   ·rw [hFj j h1 h2]; exact r.nd _
   ·rw [hFo j h1 h2]; exact .nil
 ·rcases sub j a h1 with ⟨e1, z1⟩ | ⟨n1, l1, z1⟩
  ·rcases sub k a h2 with ⟨e2, z2⟩ | ⟨n2, l2, z2⟩
   ·rw [e1, e2]
   ·have := r.dis _ _ a z1 z2; omega
  ·rcases sub k a h2 with ⟨e2, z2⟩ | ⟨n2, l2, z2⟩
   ·have := r.dis _ _ a z1 z2; omega
   ·exact r.dis _ _ a z1 z2
 ·by_cases hj : j = i
  ·subst hj
   rw [List.getElem?_set_self hi] at e
   cases e
   obtain ⟨u, e1, q⟩ := r.at' Γ.length o (by rw [List.getElem?_append_right (Nat.le_refl _)]; simp)
   rw [List.getElem?_append_right (by omega), hl] at e1
   simp at e1
   subst e1
   refine ⟨v, by rw [List.getElem?_set_self (by omega)], ?_⟩
   rw [hFi]; exact q.go (fun _ _ x => rep_stp s r.al0 x) s.tups fun _ _ => rfl
  ·rw [List.getElem?_set_ne (Ne.symm hj)] at e ⊢
   have hjl : j < Γ.length := (List.getElem?_eq_some_iff.mp e).1
   obtain ⟨u, e1, q⟩ := r.at' j p (by rw [List.getElem?_append_left hjl]; exact e)
   rw [List.getElem?_append_left (by omega)] at e1
   exact ⟨u, e1, by rw [hFj j hj hjl]; exact q.go (fun _ _ x => rep_stp s r.al0 x) s.tups fun _ _ => rfl⟩
 ·by_cases hj : j = i
  ·subst hj; rw [List.getElem?_set_self hi] at h; exact absurd rfl (h o)
  ·by_cases h2 : j < Γ.length
   ·rw [hFj j hj h2]
    refine r.emp j fun p e => h p ?_
    rw [List.getElem?_append_left h2] at e
    rw [List.getElem?_set_ne (Ne.symm hj)]; exact e
   ·exact hFo j hj h2
theorem RS.dropD {o : OV} {v : V} (r : RS M0 F (Γ ++ [some o]) (ν ++ [some v]) H) : ∃ F', RS M0 F' Γ ν H ∧ Stp F H F' H ∧ Rep (MM M0 F') H v o.view := by
 have hl : ν.length = Γ.length := by have := r.len; simp at this; exact this
 obtain ⟨r1, s⟩ := r.cut Γ.length
 have e1 : (Γ ++ [some o]).take Γ.length = Γ := by simp
 have e2 : (ν ++ [some v]).take Γ.length = ν := by rw [← hl]; simp
 rw [e1, e2] at r1
 refine ⟨_, r1, s, ?_⟩
 obtain ⟨u, e, q⟩ := r.at' Γ.length o (by rw [List.getElem?_append_right (Nat.le_refl _)]; simp)
 rw [List.getElem?_append_right (by omega), hl] at e
 simp at e
 subst e
 refine q.rep (fun b hb => ?_) (fun a ha hb => ?_)
 ·rcases hb with hb | ⟨j, hb⟩
  ·exact .inl hb
  ·exact .inr ⟨j, (fcut_sub hb).2⟩
 ·rcases hb with hb | ⟨j, hb⟩
  ·exact r.dis0 _ a ha hb
  ·have := r.dis _ _ a ha (fcut_sub hb).2
   have := (fcut_sub hb).1
   omega
theorem RS.frz {i : Nat} {o : OV} (r : RS M0 F Γ ν H) (e : Γ[i]? = some (some o)) : ∃ F' v, ν[i]? = some (some v) ∧ RS M0 F' (Γ.set i (some (.d o.view))) ν H ∧ Stp F H F' H ∧ Rep (MM M0 F') H v o.view := by
 obtain ⟨v, ev, q⟩ := r.at' i o e
 have hi := (List.getElem?_eq_some_iff.mp e).1
 have s : Stp F H (fset F i []) H := stp_sub fun j a h => by
  by_cases hj : j = i
  ·subst hj; rw [fset_same] at h; cases h
  ·rw [fset_ne hj] at h; exact ⟨j, h⟩
 have hq : Rep (MM M0 (fset F i [])) H v o.view := q.rep (fun b hb => by
  rcases hb with hb | ⟨j, hb⟩
  ·exact .inl hb
  ·by_cases hj : j = i
   ·subst hj; rw [fset_same] at hb; cases hb
   ·rw [fset_ne hj] at hb; exact .inr ⟨j, hb⟩) (fun a ha hb => by
  rcases hb with hb | ⟨j, hb⟩
  ·exact r.dis0 _ a ha hb
  ·by_cases hj : j = i
   ·subst hj; rw [fset_same] at hb; cases hb
   ·rw [fset_ne hj] at hb; exact hj (r.dis _ _ a hb ha))
 have r1 := r.put (i := i) (A := []) s (fun _ _ _ _ => rfl) r.al0 (fun _ h => nomatch h) .nil (fun _ _ _ h => nomatch h) hi (.d hq)
 have e2 : ν.set i (some v) = ν := by
  apply List.ext_getElem?
  intro j
  by_cases hj : i = j
  ·subst hj; rw [List.getElem?_set_self (List.getElem?_eq_some_iff.mp ev).1, ev]
  ·rw [List.getElem?_set_ne hj]
 rw [e2] at r1
 exact ⟨_, v, ev, r1, s, hq⟩
theorem RS.mut {i : Nat} {xs xs' : List OV} {a : Addr} {vs : List V} (r : RS M0 F Γ ν H) (e : Γ[i]? = some (some (.l xs))) (ev : ν[i]? = some (some (.ref a)))
  (h : ∀ us A, H a = some (.lst us) → ORL (MM M0 F) H us xs A → F i = a :: A → ∃ A', (∀ b ∈ A', b ∈ A) ∧ A'.Nodup ∧ ORL (MM M0 F) H vs xs' A') :
  ∃ F', RS M0 F' (Γ.set i (some (.l xs'))) ν (upd H a (.lst vs)) ∧ Stp F H F' (upd H a (.lst vs)) := by
 obtain ⟨v, ev', q⟩ := r.at' i _ e
 rw [ev] at ev'; cases ev'
 have hi := (List.getElem?_eq_some_iff.mp e).1
 generalize hA : F i = Ai at q
 cases q with
 | l ea qa =>
  rename_i us A
  obtain ⟨A', sub, nd', q'⟩ := h us A ea qa hA
  have nd := r.nd i
  rw [hA] at nd
  have hnA : a ∉ A := (List.nodup_cons.mp nd).1
  have inF : ∀ b, b ∈ (a :: A') → b ∈ F i := fun b hb => by
   rw [hA]
   rcases List.mem_cons.mp hb with z | z
   ·rw [z]; exact List.mem_cons_self
   ·exact List.mem_cons_of_mem _ (sub b z)
  have s : Stp F H (fset F i (a :: A')) (upd H a (.lst vs)) := ⟨fun b o eb nb => ⟨by rw [upd_ne (fun z => nb i (by rw [hA, z]; exact List.mem_cons_self))]; exact eb, fun j hj => by
   by_cases z : j = i
   ·subst z; rw [fset_same] at hj; exact nb j (inF b hj)
   ·rw [fset_ne z] at hj; exact nb j hj⟩, fun b xs eb => by rw [upd_ne (ne_of eb ea (by intro z; cases z))]; exact eb, fun b hb => by
   by_cases z : b = a
   ·subst z; rw [upd_same]; exact fun w => nomatch w
   ·rw [upd_ne z]; exact hb⟩
  have r1 := r.put (i := i) (o := .l xs') (v := .ref a) (A := a :: A') s (fun j hj b hb => by
    rw [upd_ne]
    intro z
    subst z
    exact hj (r.dis j i b hb (by rw [hA]; exact List.mem_cons_self))) (fun b hb => s.stay b (r.al0 b hb)) (fun b hb => r.dis0 i b (inF b hb)) (List.nodup_cons.mpr ⟨fun z => hnA (sub a z), nd'⟩)
   (fun j hj b hb hbj => hj (r.dis j i b hbj (inF b hb))) hi (.l upd_same (q'.go (fun _ _ x => rep_stp s r.al0 x) s.tups fun b hb => by
    rw [upd_ne]; intro z; subst z; exact hnA (sub b hb)))
  have e2 : ν.set i (some (V.ref a)) = ν := by
   apply List.ext_getElem?
   intro j
   by_cases hj : i = j
   ·subst hj; rw [List.getElem?_set_self (List.getElem?_eq_some_iff.mp ev).1, ev]
   ·rw [List.getElem?_set_ne hj]
  rw [e2] at r1
  exact ⟨_, r1, s⟩
end
theorem ORL.snoc {M : Addr → Prop} {H : Hp} {v : V} {d : PyData} (q : Rep M H v d) : ∀ {vs : List V} {os : List OV} {A : List Addr}, ORL M H vs os A → ORL M H (vs ++ [v]) (os ++ [.d d]) A
 | _, _, _, .nil => .cons (A := []) (.d q) .nil
 | _, _, _, .cons r t => .cons r (ORL.snoc q t)
theorem ORL.setD {M : Addr → Prop} {H : Hp} {v : V} {d : PyData} (q : Rep M H v d) : ∀ {vs : List V} {os : List OV} {A : List Addr} {j : Nat} {x : PyData}, ORL M H vs os A → os[j]? = some (.d x) → ORL M H (vs.set j v) (os.set j (.d d)) A
 | _, _, _, _, _, .nil, e => by simp at e
 | _, _, _, 0, x, .cons r t, e => by
  simp at e
  subst e
  cases r
  exact .cons (A := []) (.d q) t
 | _, _, _, j + 1, x, .cons r t, e => .cons r (ORL.setD (j := j) q t (by simpa using e))
theorem ORL.get {M : Addr → Prop} {H : Hp} : ∀ {vs : List V} {os : List OV} {A : List Addr} {j : Nat} {x : PyData}, ORL M H vs os A → os[j]? = some (.d x) → ∃ v, vs[j]? = some v ∧ Rep M H v x
 | _, _, _, _, _, .nil, e => by simp at e
 | _, _, _, 0, x, .cons r t, e => by
  simp at e
  subst e
  cases r with
  | d r => exact ⟨_, rfl, r⟩
 | _, _, _, j + 1, x, .cons r t, e => by
  obtain ⟨v, e1, q⟩ := ORL.get (j := j) t (by simpa using e)
  exact ⟨v, by simpa using e1, q⟩
end L3
namespace L3
open PySem PySem.Spec PyProof.Rows L2
variable [Cs]
noncomputable abbrev St := L2.St
structure Exc where
 cls : Str
 pay : PyData
inductive R (α : Type) where
 | ok (a : α)
 | exc (x : Exc) (Γ : Gv)
 | bad
noncomputable def R.bind {α β : Type} (r : R α) (f : α → R β) : R β := match r with
 | .ok a => f a
 | .exc x Γ => .exc x Γ
 | .bad => .bad
noncomputable abbrev EM (α : Type) := Gv → R (α × Gv)
inductive FV where
 | dat (x : PyData)
 | own (i : Nat)
noncomputable def derf (Γ : Gv) : FV → Option PyData
 | .dat x => some x
 | .own i => match Γ[i]? with
  | some (some o) => some o.view
  | _ => none
noncomputable def derS (Γ : Gv) : FV → Option PyData
 | .dat x => some x
 | .own i => match Γ[i]? with
  | some (some (.d x)) => some x
  | _ => none
noncomputable def leaves : List OV → Option (List PyData)
 | [] => some []
 | .d x :: r => (leaves r).map (x :: ·)
 | .l _ :: _ => none
 | .t _ :: _ => none
 | .m _ :: _ => none
 | .o _ _ _ :: _ => none
theorem leaves_d (xs : List PyData) : leaves (xs.map .d) = some xs := by
 induction xs with
 | nil => rfl
 | cons x r ih => simp [leaves, ih]
noncomputable def derL (Γ : Gv) : FV → Option (List PyData)
 | .dat (.list xs) => some xs
 | .own i => match Γ[i]? with
  | some (some (.l xs)) => leaves xs
  | some (some (.d (.list xs))) => some xs
  | _ => none
 | _ => none
noncomputable abbrev XPT := Exc → Gv → Fp → Nu → St → Hp → Prop
noncomputable def Sees (mp : List Nat) (ν : Nu) (σ : St) : Prop := ∀ (s i : Nat) (v : V), mp[s]? = some i → ν[i]? = some (some v) → σ[s]? = some (some v)
noncomputable def EPost {α : Type} (M0 : Addr → Prop) (F : Fp) (ν : Nu) (σ : St) (H : Hp) (XP : XPT) (P : Fp → Gv → Hp → α → Prop) (r : R (α × Gv)) : Prop := match r with
 | .ok (a, Γ') => ∀ F' H', RS M0 F' Γ' ν H' → Stp F H F' H' → P F' Γ' H' a
 | .exc x Γ' => ∀ F' H', RS M0 F' Γ' ν H' → Stp F H F' H' → XP x Γ' F' ν σ H'
 | .bad => False
section
variable {α β : Type} {M0 : Addr → Prop} {F : Fp} {Γ : Gv} {ν : Nu} {σ : St} {H : Hp} {XP : XPT}
theorem EPost.mono {P P' : Fp → Gv → Hp → α → Prop} {r : R (α × Gv)} (h : EPost M0 F ν σ H XP P r) (k : ∀ F' Γ' H' a, RS M0 F' Γ' ν H' → Stp F H F' H' → P F' Γ' H' a → P' F' Γ' H' a) : EPost M0 F ν σ H XP P' r := by
 cases r with
 | ok a => exact fun F' H' rs s => k F' _ H' _ rs s (h F' H' rs s)
 | exc x Γ' => exact h
 | bad => exact h
theorem EPost.seq {P : Fp → Gv → Hp → β → Prop} {r : R (α × Gv)} {k : α × Gv → R (β × Gv)} (h : EPost M0 F ν σ H XP P (r.bind k)) :
  EPost M0 F ν σ H XP (fun F1 Γ1 H1 a => EPost M0 F1 ν σ H1 XP P (k (a, Γ1))) r := by
 cases r with
 | ok a =>
  obtain ⟨a, Γ1⟩ := a
  intro F1 H1 rs1 s1
  have h' : EPost M0 F ν σ H XP P (k (a, Γ1)) := h
  revert h'
  generalize k (a, Γ1) = r2
  intro h'
  cases r2 with
  | ok b => exact fun F' H' rs s => h' F' H' rs (s1.trans s)
  | exc x Γ' => exact fun F' H' rs s => h' F' H' rs (s1.trans s)
  | bad => exact h'
 | exc x Γ' => exact h
 | bad => exact h
theorem EPost.step {P : Fp → Gv → Hp → α → Prop} {r : R (α × Gv)} {F1 : Fp} {H1 : Hp} (h : EPost M0 F ν σ H XP P r) (s1 : Stp F H F1 H1) : EPost M0 F1 ν σ H1 XP P r := by
 cases r with
 | ok b => exact fun F' H' rs s => h F' H' rs (s1.trans s)
 | exc x Γ' => exact fun F' H' rs s => h F' H' rs (s1.trans s)
 | bad => exact h
end
noncomputable def FOk (M0 : Addr → Prop) (F : Fp) (ν : Nu) (H : Hp) (v : V) : FV → Prop
 | .dat x => Rep (MM M0 F) H v x
 | .own i => ν[i]? = some (some v)
section
variable {M0 : Addr → Prop} {F F' : Fp} {Γ : Gv} {ν : Nu} {H H' : Hp} {v : V} {u : FV} {x : PyData}
theorem FOk.stp (h : FOk M0 F ν H v u) (s : Stp F H F' H') (h0 : ∀ a, M0 a → H a ≠ none) : FOk M0 F' ν H' v u := by
 cases u with
 | dat x => exact rep_stp s h0 h
 | own i => exact h
theorem FOk.weak (h : FOk M0 F ν H v u) (rs : RS M0 F Γ ν H) (e : derf Γ u = some x) : Rep Nothing H v x := by
 cases u with
 | dat y => cases e; exact Rep.less (fun _ z _ => z.elim) h
 | own i =>
  dsimp only [derf] at e
  split at e
  ·rename_i o q
   cases e
   obtain ⟨w, e1, r⟩ := rs.at' i o q
   have h' : ν[i]? = some (some v) := h
   rw [h'] at e1; cases e1
   exact r.weak
  ·cases e
theorem FOk.strong (h : FOk M0 F ν H v u) (rs : RS M0 F Γ ν H) (e : derS Γ u = some x) : Rep (MM M0 F) H v x := by
 cases u with
 | dat y => cases e; exact h
 | own i =>
  dsimp only [derS] at e
  split at e
  ·rename_i y q
   cases e
   obtain ⟨w, e1, r⟩ := rs.at' i _ q
   have h' : ν[i]? = some (some v) := h
   rw [h'] at e1; cases e1
   generalize F i = A at r
   cases r with
   | d r => exact r
  ·cases e
theorem ORL.leaf {M : Addr → Prop} : ∀ {vs : List V} {os : List OV} {A : List Addr} {ds : List PyData}, ORL M H vs os A → leaves os = some ds → RepL M H vs ds ∧ A = []
 | _, _, _, _, .nil, e => by cases e; exact ⟨.nil, rfl⟩
 | _, _, _, _, .cons (x := .d x) r t, e => by
  unfold leaves at e
  rename_i vs xs A B
  cases q : leaves xs with
  | none => rw [q] at e; cases e
  | some ys =>
   rw [q] at e; cases e
   obtain ⟨h1, h2⟩ := ORL.leaf t q
   cases r with
   | d r => exact ⟨.cons r h1, by rw [h2]; rfl⟩
 | _, _, _, _, .cons (x := .l x) r t, e => by cases e
 | _, _, _, _, .cons (x := .t x) r t, e => by cases e
 | _, _, _, _, .cons (x := .m x) r t, e => by cases e
 | _, _, _, _, .cons (x := .o _ _ x) r t, e => by cases e
theorem FOk.list {ds : List PyData} (h : FOk M0 F ν H v u) (rs : RS M0 F Γ ν H) (e : derL Γ u = some ds) : ∃ a vs, v = .ref a ∧ H a = some (.lst vs) ∧ RepL (MM M0 F) H vs ds := by
 unfold derL at e
 split at e
 ·cases e
  obtain ⟨a, vs, rfl, e1, _, r⟩ := Rep.lst_inv h
  exact ⟨a, vs, rfl, e1, r⟩
 ·rename_i i
  have h' : ν[i]? = some (some v) := h
  split at e
  ·rename_i q
   obtain ⟨w, e1, r⟩ := rs.at' i _ q
   rw [h'] at e1; cases e1
   generalize F i = A at r
   cases r with
   | l ea qa => exact ⟨_, _, rfl, ea, (ORL.leaf qa e).1⟩
  ·rename_i q
   cases e
   obtain ⟨w, e1, r⟩ := rs.at' i _ q
   rw [h'] at e1; cases e1
   generalize F i = A at r
   cases r with
   | d r =>
    obtain ⟨a, vs, rfl, e1, _, r⟩ := Rep.lst_inv r
    exact ⟨a, vs, rfl, e1, r⟩
  ·cases e
 ·cases e
end
noncomputable def SE (X : Cx) (XP : XPT) (mp : List Nat) (e : Expr) (f : EM FV) : Prop := ∀ (M0 : Addr → Prop) (F : Fp) (Γ : Gv) (ν : Nu) (σ : St) (H : Hp) (Q : VK), RS M0 F Γ ν H → Sees mp ν σ →
 EPost M0 F ν σ H XP (fun F' Γ' H' u => ∀ v, FOk M0 F' ν H' v u → Q v H') (f Γ) → wpE X e σ H Q
noncomputable def SN (X : Cx) (XP : XPT) (mp : List Nat) (e : Expr) (f : EM (List PyData)) : Prop := ∀ (M0 : Addr → Prop) (F : Fp) (Γ : Gv) (ν : Nu) (σ : St) (H : Hp) (Q : VK), RS M0 F Γ ν H → Sees mp ν σ →
 EPost M0 F ν σ H XP (fun F' Γ' H' ds => ∀ vs p, RepL (MM M0 F') H' vs ds → H' p = none → Q (.ref p) (upd H' p (.lst vs))) (f Γ) → wpE X e σ H Q
noncomputable def ST (X : Cx) (XP : XPT) (mp : List Nat) (e : Expr) (f : EM Bool) : Prop := ∀ (M0 : Addr → Prop) (F : Fp) (Γ : Gv) (ν : Nu) (σ : St) (H : Hp) (Q : Bool → Hp → Prop), RS M0 F Γ ν H → Sees mp ν σ →
 EPost M0 F ν σ H XP (fun F' Γ' H' b => Q b H') (f Γ) → wpT X e σ H Q
noncomputable def SW (X : Cx) (XP : XPT) (mp : List Nat) (e : Expr) (f : EM Bool) : Prop := ∀ (M0 : Addr → Prop) (F : Fp) (Γ : Gv) (ν : Nu) (σ : St) (H : Hp) (Q : Bool → Hp → Prop), RS M0 F Γ ν H → Sees mp ν σ →
 EPost M0 F ν σ H XP (fun F' Γ' H' b => Q b H') (f Γ) → wpW X e σ H Q
section
variable {X : Cx} {XP : XPT} {mp : List Nat} {a b c e : Expr} {es : List Expr} {pos p p2 : Pos} {fa fb fc : EM FV} {ta tb : EM Bool} {na nb : EM (List PyData)}
section
variable {β : Type} {M0 : Addr → Prop} {F : Fp} {Γ : Gv} {ν : Nu} {σ : St} {H : Hp} {P : Fp → Gv → Hp → β → Prop}
theorem SE.run {Q : VK} {k : FV × Gv → R (β × Gv)} (ha : SE X XP mp a fa) (rs : RS M0 F Γ ν H) (hs : Sees mp ν σ) (h : EPost M0 F ν σ H XP P ((fa Γ).bind k))
  (kk : ∀ F1 Γ1 H1 u v, RS M0 F1 Γ1 ν H1 → Stp F H F1 H1 → FOk M0 F1 ν H1 v u → EPost M0 F1 ν σ H1 XP P (k (u, Γ1)) → Q v H1) : wpE X a σ H Q :=
 ha M0 F Γ ν σ H Q rs hs (h.seq.mono fun F1 Γ1 H1 u rs1 s1 h1 v hv => kk F1 Γ1 H1 u v rs1 s1 hv h1)
theorem SN.run {Q : VK} {k : List PyData × Gv → R (β × Gv)} (ha : SN X XP mp a na) (rs : RS M0 F Γ ν H) (hs : Sees mp ν σ) (h : EPost M0 F ν σ H XP P ((na Γ).bind k))
  (kk : ∀ F1 Γ1 H1 ds vs p, RS M0 F1 Γ1 ν H1 → Stp F H F1 H1 → RepL (MM M0 F1) H1 vs ds → H1 p = none → EPost M0 F1 ν σ H1 XP P (k (ds, Γ1)) → Q (.ref p) (upd H1 p (.lst vs))) : wpE X a σ H Q :=
 ha M0 F Γ ν σ H Q rs hs (h.seq.mono fun F1 Γ1 H1 u rs1 s1 h1 vs p r n => kk F1 Γ1 H1 u vs p rs1 s1 r n h1)
theorem ST.run {Q : Bool → Hp → Prop} {k : Bool × Gv → R (β × Gv)} (ha : ST X XP mp a ta) (rs : RS M0 F Γ ν H) (hs : Sees mp ν σ) (h : EPost M0 F ν σ H XP P ((ta Γ).bind k))
  (kk : ∀ F1 Γ1 H1 u, RS M0 F1 Γ1 ν H1 → Stp F H F1 H1 → EPost M0 F1 ν σ H1 XP P (k (u, Γ1)) → Q u H1) : wpT X a σ H Q :=
 ha M0 F Γ ν σ H Q rs hs (h.seq.mono fun F1 Γ1 H1 u rs1 s1 h1 => kk F1 Γ1 H1 u rs1 s1 h1)
end
noncomputable def fNew (n : EM (List PyData)) : EM FV := fun Γ => (n Γ).bind fun (ds, Γ1) => .ok (.dat (.list ds), Γ1)
theorem SN.se (h : SN X XP mp a na) : SE X XP mp a (fNew na) := fun M0 F Γ ν σ H Q rs hs hp =>
 h.run rs hs hp fun F1 Γ1 H1 ds vs p rs1 s1 r n h1 => by
  have s2 : Same H1 (upd H1 p (.lst vs)) := upd_new n
  exact h1 F1 _ (rs1.same s2) (.same s2) _ (Rep.list upd_same (fun z => rs1.al p z n) (r.grow s2.grow))
noncomputable def fVar (i : Nat) : EM FV := fun Γ => match Γ[i]? with
 | some (some (.d x)) => .ok (.dat x, Γ)
 | some (some (.l _)) => .ok (.own i, Γ)
 | some (some (.t _)) => .ok (.own i, Γ)
 | some (some (.m _)) => .ok (.own i, Γ)
 | some (some (.o _ _ _)) => .ok (.own i, Γ)
 | _ => .bad
theorem se_var {s i : Nat} {x : Str} (hN : X.N[s]? = some x) (hv : Vis X.env.scope x) (hm : mp[s]? = some i) (hd : (x == ("__debug__" : Str)) = false) (hcd : (x == ("__classdict__" : Str)) = false) :
  SE X XP mp (.Name x pos) (fVar i) := fun M0 F Γ ν σ H Q rs hs hp => by
 unfold fVar at hp
 split at hp
 ·rename_i y q
  obtain ⟨v, e1, r⟩ := rs.at' i _ q
  generalize hA : F i = A at r
  cases r with
  | d r => exact (pe_var hN hv hd hcd).wp ⟨v, hs s i v hm e1, hp F H rs (.refl F H) v r⟩
 ·rename_i y q
  obtain ⟨v, e1, r⟩ := rs.at' i _ q
  exact (pe_var hN hv hd hcd).wp ⟨v, hs s i v hm e1, hp F H rs (.refl F H) v e1⟩
 ·rename_i y q
  obtain ⟨v, e1, r⟩ := rs.at' i _ q
  exact (pe_var hN hv hd hcd).wp ⟨v, hs s i v hm e1, hp F H rs (.refl F H) v e1⟩
 ·rename_i y q
  obtain ⟨v, e1, r⟩ := rs.at' i _ q
  exact (pe_var hN hv hd hcd).wp ⟨v, hs s i v hm e1, hp F H rs (.refl F H) v e1⟩
 ·rename_i y _ _ q
  obtain ⟨v, e1, r⟩ := rs.at' i _ q
  exact (pe_var hN hv hd hcd).wp ⟨v, hs s i v hm e1, hp F H rs (.refl F H) v e1⟩
 ·exact hp.elim
noncomputable def fFrz (i : Nat) : EM FV := fun Γ => match Γ[i]? with
 | some (some o) => .ok (.dat o.view, Γ.set i (some (.d o.view)))
 | _ => .bad
noncomputable def fC (x : PyData) : EM FV := fun Γ => .ok (.dat x, Γ)
theorem se_int {i j} : SE X XP mp (.Constant (.int i) j pos) (fC (.int i)) := fun M0 F Γ ν σ H Q rs hs hp => pe_int.wp (hp F H rs (.refl F H) _ (Rep.int i))
theorem se_bool {x j} : SE X XP mp (.Constant (.bool x) j pos) (fC (.bool x)) := fun M0 F Γ ν σ H Q rs hs hp => pe_bl.wp (hp F H rs (.refl F H) _ (Rep.bool x))
theorem se_str {x j} : SE X XP mp (.Constant (.str x) j pos) (fC (.str x)) := fun M0 F Γ ν σ H Q rs hs hp => pe_str.wp (hp F H rs (.refl F H) _ (Rep.str x))
noncomputable def OpS (X : Cx) (f : Value → Value → Sem Value) (g : PyData → PyData → Option PyData) : Prop := ∀ x y z, g x y = some z → ∃ r : R2, OpR X f r ∧ ∀ (M : Addr → Prop) (H : Hp) (v u : V) (Q : VK),
 Al M H → Rep M H v x → Rep M H u y → (∀ w H', Same H H' → Rep M H' w z → Q w H') → r v u H Q
noncomputable def fBin (g : PyData → PyData → Option PyData) (fa fb : EM FV) : EM FV := fun Γ => (fa Γ).bind fun (u, Γ1) => (fb Γ1).bind fun (w, Γ2) => match derS Γ2 u, derS Γ2 w with
 | some x, some y => match g x y with
  | some z => .ok (.dat z, Γ2)
  | none => .bad
 | _, _ => .bad
theorem se_bin {op : Operator} {g : PyData → PyData → Option PyData} (ho : OpS X (binaryOp op) g) (ha : SE X XP mp a fa) (hb : SE X XP mp b fb) : SE X XP mp (.BinOp a op b pos) (fBin g fa fb) := fun M0 F Γ ν σ H Q rs hs hp => by
 have key : ∀ x y z, g x y = some z → ∃ r : R2, OpR X (binaryOp op) r ∧ ∀ (M : Addr → Prop) (H : Hp) (v u : V) (Q : VK), Al M H → Rep M H v x → Rep M H u y → (∀ w H', Same H H' → Rep M H' w z → Q w H') → r v u H Q := ho
 refine (pe_op (r := fun v u H Q => ∃ M x y z, g x y = some z ∧ Al M H ∧ Rep M H v x ∧ Rep M H u y ∧ ∀ w H', Same H H' → Rep M H' w z → Q w H') ?_ pe_self pe_self).wp
  (ha.run rs hs hp fun F1 Γ1 H1 u v rs1 s1 o1 h1 => hb.run rs1 hs h1 fun F2 Γ2 H2 w v2 rs2 s2 o2 h2 => ?_)
 ·rintro pins s σ H x y v u Q I rx ry ⟨M, dx, dy, dz, e, al, r1, r2, k⟩
  obtain ⟨r, hr, hh⟩ := ho dx dy dz e
  exact hr pins s σ H x y v u Q I rx ry (hh M H x y Q al r1 r2 k)
 ·dsimp only at h2
  split at h2
  ·rename_i x y e1 e2
   split at h2
   ·rename_i z e3
    exact ⟨MM M0 F2, x, y, z, e3, rs2.al, (o1.stp s2 rs1.al0).strong rs2 e1, o2.strong rs2 e2, fun w' H3 s3 r3 => h2 F2 H3 (rs2.same s3) (.same s3) w' r3⟩
   ·exact h2.elim
  ·exact h2.elim
noncomputable def CmpS (X : Cx) (op : CmpOp) (g : PyData → PyData → Option Bool) : Prop := ∀ x y z, g x y = some z → ∃ r : R2, OpR X (compareOp op) r ∧ ∀ (H : Hp) (v u : V) (Q : VK),
 Rep Nothing H v x → Rep Nothing H u y → Q (.bl z) H → r v u H Q
noncomputable def fCmp (g : PyData → PyData → Option Bool) (fa fb : EM FV) : EM Bool := fun Γ => (fa Γ).bind fun (u, Γ1) => (fb Γ1).bind fun (w, Γ2) => match derf Γ2 u, derf Γ2 w with
 | some x, some y => match g x y with
  | some z => .ok (z, Γ2)
  | none => .bad
 | _, _ => .bad
noncomputable def fB (t : EM Bool) : EM FV := fun Γ => (t Γ).bind fun (b, Γ1) => .ok (.dat (.bool b), Γ1)
theorem cmpR_of {op : CmpOp} {g : PyData → PyData → Option Bool} (ho : CmpS X op g) : OpR X (compareOp op) (fun v u H Q => ∃ x y z, g x y = some z ∧ Rep Nothing H v x ∧ Rep Nothing H u y ∧ Q (.bl z) H) := by
 rintro pins s σ H x y v u Q I rx ry ⟨dx, dy, dz, e, r1, r2, k⟩
 obtain ⟨r, hr, hh⟩ := ho dx dy dz e
 exact hr pins s σ H x y v u Q I rx ry (hh H x y Q r1 r2 k)
section
variable {M0 : Addr → Prop} {F : Fp} {Γ : Gv} {ν : Nu} {σ : St} {H : Hp} {β : Type} {P : Fp → Gv → Hp → β → Prop}
theorem cmp_two {g : PyData → PyData → Option Bool} {k : Bool × Gv → R (β × Gv)} {Q : VK} (ha : SE X XP mp a fa) (hb : SE X XP mp b fb) (rs : RS M0 F Γ ν H) (hs : Sees mp ν σ) (hp : EPost M0 F ν σ H XP P ((fCmp g fa fb Γ).bind k))
  (kk : ∀ F2 Γ2 H2 z, RS M0 F2 Γ2 ν H2 → Stp F H F2 H2 → EPost M0 F2 ν σ H2 XP P (k (z, Γ2)) → Q (.bl z) H2) :
  wpE X a σ H fun v H1 => wpE X b σ H1 fun u H2 => ∃ x y z, g x y = some z ∧ Rep Nothing H2 v x ∧ Rep Nothing H2 u y ∧ Q (.bl z) H2 := by
 have hp' : EPost M0 F ν σ H XP P ((fa Γ).bind fun (u, Γ1) => (fb Γ1).bind fun (w, Γ2) => (match derf Γ2 u, derf Γ2 w with
  | some x, some y => match g x y with
   | some z => R.ok (z, Γ2)
   | none => .bad
  | _, _ => .bad).bind k) := by
  have e : ((fCmp g fa fb Γ).bind k) = ((fa Γ).bind fun (u, Γ1) => (fb Γ1).bind fun (w, Γ2) => (match derf Γ2 u, derf Γ2 w with
   | some x, some y => match g x y with
    | some z => R.ok (z, Γ2)
    | none => .bad
   | _, _ => .bad).bind k) := by
   unfold fCmp
   cases fa Γ with
   | ok a =>
    obtain ⟨a, Γ1⟩ := a
    simp only [R.bind]
    cases fb Γ1 <;> rfl
   | exc x y => rfl
   | bad => rfl
  rw [← e]; exact hp
 refine ha.run rs hs hp' fun F1 Γ1 H1 u v rs1 s1 o1 h1 => hb.run rs1 hs h1 fun F2 Γ2 H2 w v2 rs2 s2 o2 h2 => ?_
 dsimp only at h2
 split at h2
 ·rename_i x y e1 e2
  split at h2
  ·rename_i z e3
   exact ⟨x, y, z, e3, (o1.stp s2 rs1.al0).weak rs2 e1, o2.weak rs2 e2, kk F2 Γ2 H2 z rs2 (s1.trans s2) h2⟩
  ·exact h2.elim
 ·exact h2.elim
end
theorem R.bind_ok {α : Type} (r : R α) : r.bind .ok = r := by cases r <;> rfl
theorem se_cmp {op : CmpOp} {g : PyData → PyData → Option Bool} (ho : CmpS X op g) (ha : SE X XP mp a fa) (hb : SE X XP mp b fb) (hm : behindInMarks op b = false) : SE X XP mp (.Compare a [op] [b] pos) (fB (fCmp g fa fb)) := fun M0 F Γ ν σ H Q rs hs hp =>
 (pe_cmpR (cmpR_of ho) pe_self pe_self hm).wp (cmp_two ha hb rs hs hp fun F2 Γ2 H2 z rs2 s2 h2 => h2 F2 H2 rs2 (.refl _ _) _ (Rep.bool z))
theorem st_cmp {op : CmpOp} {g : PyData → PyData → Option Bool} (ho : CmpS X op g) (ha : SE X XP mp a fa) (hb : SE X XP mp b fb) (hm : behindInMarks op b = false) : ST X XP mp (.Compare a [op] [b] pos) (fCmp g fa fb) := fun M0 F Γ ν σ H Q rs hs hp =>
 (pt_cmpR (cmpR_of ho) pe_self pe_self hm).wp (cmp_two (k := .ok) (Q := fun v H' => ∃ k, v = .bl k ∧ Q k H') ha hb rs hs (by rw [R.bind_ok]; exact hp) fun F2 Γ2 H2 z rs2 s2 h2 => ⟨z, rfl, h2 F2 H2 rs2 (.refl _ _)⟩)
end
end L3
namespace L3
open PySem PySem.Spec PyProof.Rows L2
variable [Cs]
noncomputable def truD : PyData → Option Bool
 | .none => some false
 | .bool b => some b
 | .int i => some (i != 0)
 | .list xs => some (!xs.isEmpty)
 | .tuple xs => some (!xs.isEmpty)
 | _ => none
theorem isEmptyR {M : Addr → Prop} {H : Hp} {vs : List V} {ds : List PyData} (r : RepL M H vs ds) : (!vs.isEmpty) = !ds.isEmpty := by cases r <;> rfl
theorem truV_of {K : PySem.W.Frag} {M : Addr → Prop} {H : Hp} {v : V} {x : PyData} {k : Bool} (r : Rep M H v x) (e : truD x = some k) : TruV K v H k := by
 cases r with
 | none => cases e; rfl
 | bool b => cases e; rfl
 | int i => cases e; rfl
 | str x => cases e
 | list ea n q => cases e; exact .inl ⟨_, SqL.of ea, (isEmptyR q).symm⟩
 | tuple ea q => cases e; exact .inr (.inl ⟨_, SqT.of ea, (isEmptyR q).symm⟩)
 | dict _ _ _ _ => cases e
 | inst _ _ _ _ => cases e
 | exo _ _ _ _ _ => cases e
section
variable {X : Cx} {XP : XPT} {mp : List Nat} {a b c e : Expr} {es : List Expr} {pos p p2 : Pos} {fa fb fc : EM FV} {ta tb : EM Bool} {na nb : EM (List PyData)}
noncomputable def fTru (fa : EM FV) : EM Bool := fun Γ => (fa Γ).bind fun (u, Γ1) => match (derf Γ1 u).bind truD with
 | some k => .ok (k, Γ1)
 | none => .bad
theorem st_truth (ha : SE X XP mp a fa) (he : ∀ whole, isTrue a X.env whole = (do let v ← whole; standAt a.pos; holding [v] (truthy v))) : ST X XP mp a (fTru fa) := fun M0 F Γ ν σ H Q rs hs hp =>
 (pt_truth pe_self he).wp (ha.run rs hs hp fun F1 Γ1 H1 u v rs1 s1 o1 h1 => by
  dsimp only at h1
  split at h1
  ·rename_i k ek
   cases ex : derf Γ1 u with
   | none => rw [ex] at ek; cases ek
   | some x =>
    rw [ex] at ek
    exact ⟨k, truV_of (o1.weak rs1 ex) ek, h1 F1 H1 rs1 (.refl _ _)⟩
  ·exact h1.elim)
noncomputable def fNotT (ta : EM Bool) : EM Bool := fun Γ => (ta Γ).bind fun (b, Γ1) => .ok (!b, Γ1)
theorem st_not (h : ST X XP mp a ta) : ST X XP mp (.UnaryOp .Not a pos) (fNotT ta) := fun M0 F Γ ν σ H Q rs hs hp =>
 (pt_not pt_self).wp (h.run rs hs hp fun F1 Γ1 H1 b rs1 s1 h1 => h1 F1 H1 rs1 (.refl _ _))
theorem SW.st (h : SW X XP mp a ta) : ST X XP mp a ta := fun M0 F Γ ν σ H Q rs hs hp pins s I => h M0 F Γ ν σ H Q rs hs hp _ pins s I
theorem sw_one1 (h : ST X XP mp a ta) : SW X XP mp (.BoolOp .And [a] pos) ta := fun M0 F Γ ν σ H Q rs hs hp => (pw_and1 pt_self).wp (h M0 F Γ ν σ H Q rs hs hp)
theorem sw_one2 (h : ST X XP mp a ta) : SW X XP mp (.BoolOp .Or [a] pos) ta := fun M0 F Γ ν σ H Q rs hs hp => (pw_or1 pt_self).wp (h M0 F Γ ν σ H Q rs hs hp)
noncomputable def fAndT (ta tb : EM Bool) : EM Bool := fun Γ => (ta Γ).bind fun (b, Γ1) => if b then tb Γ1 else .ok (false, Γ1)
noncomputable def fOrT (ta tb : EM Bool) : EM Bool := fun Γ => (ta Γ).bind fun (b, Γ1) => if b then .ok (true, Γ1) else tb Γ1
theorem sw_and (ha : ST X XP mp a ta) (hb : SW X XP mp (.BoolOp .And (b :: es) pos) tb) : SW X XP mp (.BoolOp .And (a :: b :: es) pos) (fAndT ta tb) := fun M0 F Γ ν σ H Q rs hs hp =>
 (pw_and pt_self pw_self).wp (ha.run rs hs hp fun F1 Γ1 H1 b rs1 s1 h1 => by
  cases b with
  | true => exact iteT (hb M0 F1 Γ1 ν σ H1 Q rs1 hs h1)
  | false => exact iteF (h1 F1 H1 rs1 (.refl _ _)))
theorem sw_or (ha : ST X XP mp a ta) (hb : SW X XP mp (.BoolOp .Or (b :: es) pos) tb) : SW X XP mp (.BoolOp .Or (a :: b :: es) pos) (fOrT ta tb) := fun M0 F Γ ν σ H Q rs hs hp =>
 (pw_or pt_self pw_self).wp (ha.run rs hs hp fun F1 Γ1 H1 b rs1 s1 h1 => by
  cases b with
  | true => exact iteT (h1 F1 H1 rs1 (.refl _ _))
  | false => exact iteF (hb M0 F1 Γ1 ν σ H1 Q rs1 hs h1))
noncomputable def fAndV (fa fb : EM FV) : EM FV := fun Γ => (fa Γ).bind fun (u, Γ1) => match derf Γ1 u with
 | some (.bool true) => fb Γ1
 | some (.bool false) => .ok (.dat (.bool false), Γ1)
 | _ => .bad
noncomputable def fOrV (fa fb : EM FV) : EM FV := fun Γ => (fa Γ).bind fun (u, Γ1) => match derf Γ1 u with
 | some (.bool true) => .ok (.dat (.bool true), Γ1)
 | some (.bool false) => fb Γ1
 | _ => .bad
theorem se_one {op} (h : SE X XP mp a fa) : SE X XP mp (.BoolOp op [a] pos) fa := fun M0 F Γ ν σ H Q rs hs hp => (pe_one pe_self).wp (h M0 F Γ ν σ H Q rs hs hp)
theorem se_and (ha : SE X XP mp a fa) (hb : SE X XP mp (.BoolOp .And (b :: es) pos) fb) : SE X XP mp (.BoolOp .And (a :: b :: es) pos) (fAndV fa fb) := fun M0 F Γ ν σ H Q rs hs hp =>
 (pe_and pe_self pe_self).wp (ha.run rs hs hp fun F1 Γ1 H1 u v rs1 s1 o1 h1 => by
  dsimp only at h1
  split at h1
  ·rename_i ex
   cases o1.weak rs1 ex
   exact ⟨true, rfl, iteT (hb M0 F1 Γ1 ν σ H1 Q rs1 hs h1)⟩
  ·rename_i ex
   cases o1.weak rs1 ex
   exact ⟨false, rfl, iteF (h1 F1 H1 rs1 (.refl _ _) _ (Rep.bool false))⟩
  ·exact h1.elim)
theorem se_or (ha : SE X XP mp a fa) (hb : SE X XP mp (.BoolOp .Or (b :: es) pos) fb) : SE X XP mp (.BoolOp .Or (a :: b :: es) pos) (fOrV fa fb) := fun M0 F Γ ν σ H Q rs hs hp =>
 (pe_or pe_self pe_self).wp (ha.run rs hs hp fun F1 Γ1 H1 u v rs1 s1 o1 h1 => by
  dsimp only at h1
  split at h1
  ·rename_i ex
   cases o1.weak rs1 ex
   exact ⟨true, rfl, iteT (h1 F1 H1 rs1 (.refl _ _) _ (Rep.bool true))⟩
  ·rename_i ex
   cases o1.weak rs1 ex
   exact ⟨false, rfl, iteF (hb M0 F1 Γ1 ν σ H1 Q rs1 hs h1)⟩
  ·exact h1.elim)
theorem un_notT : UnR X (unaryOp .Not) (fun x H Q => ∃ k, TruV X.K x H k ∧ Q (.bl (!k)) H) := by
 intro pins s σ H x v Q I rx h
 obtain ⟨k, hk, q⟩ := h
 exact not_of (thn (tru_ok pins s σ H x v _ I rx ⟨k, hk, q⟩) fun b s' ⟨H', I', q'⟩ => ⟨.bl (!b), H', I', rfl, q'⟩)
theorem se_not (ha : SE X XP mp a fa) : SE X XP mp (.UnaryOp .Not a pos) (fB (fNotT (fTru fa))) := fun M0 F Γ ν σ H Q rs hs hp => by
 refine (pe_un un_notT pe_self).wp (ha.run (k := fun (u, Γ1) => match (derf Γ1 u).bind truD with
  | some k => R.ok (FV.dat (.bool (!k)), Γ1)
  | none => .bad) (P := fun F' Γ' H' u => ∀ (v : V), FOk M0 F' ν H' v u → Q v H') rs hs ?_ fun F1 Γ1 H1 u v rs1 s1 o1 h1 => ?_)
 ·have e : fB (fNotT (fTru fa)) Γ = (fa Γ).bind fun (u, Γ1) => match (derf Γ1 u).bind truD with
   | some k => .ok (.dat (.bool (!k)), Γ1)
   | none => .bad := by
   unfold fB fNotT fTru
   cases fa Γ with
   | ok a =>
    obtain ⟨u, Γ1⟩ := a
    simp only [R.bind]
    cases (derf Γ1 u).bind truD <;> rfl
   | exc x y => rfl
   | bad => rfl
  rw [← e]; exact hp
 ·dsimp only at h1
  split at h1
  ·rename_i k ek
   cases ex : derf Γ1 u with
   | none => rw [ex] at ek; cases ek
   | some x =>
    rw [ex] at ek
    exact ⟨k, truV_of (o1.weak rs1 ex) ek, h1 F1 H1 rs1 (.refl _ _) _ (Rep.bool (!k))⟩
  ·exact h1.elim
noncomputable def fIf (t : EM Bool) (fa fb : EM FV) : EM FV := fun Γ => (t Γ).bind fun (b, Γ1) => if b then fa Γ1 else fb Γ1
theorem se_if (hc : ST X XP mp c ta) (ha : SE X XP mp a fa) (hb : SE X XP mp b fb) : SE X XP mp (.IfExp c a b pos) (fIf ta fa fb) := fun M0 F Γ ν σ H Q rs hs hp =>
 (pe_ifExp pt_self pe_self pe_self).wp (hc.run rs hs hp fun F1 Γ1 H1 b rs1 s1 h1 => by
  cases b with
  | true => exact iteT (ha M0 F1 Γ1 ν σ H1 Q rs1 hs h1)
  | false => exact iteF (hb M0 F1 Γ1 ν σ H1 Q rs1 hs h1))
noncomputable def fChain (g g' : PyData → PyData → Option Bool) (fa fb fc : EM FV) : EM Bool := fun Γ => (fa Γ).bind fun (u, Γ1) => (fb Γ1).bind fun (w, Γ2) => match derf Γ2 u, derf Γ2 w with
 | some x, some y => match g x y with
  | some true => (fc Γ2).bind fun (t, Γ3) => match derf Γ3 w, derf Γ3 t with
   | some y, some z => match g' y z with
    | some k => .ok (k, Γ3)
    | none => .bad
   | _, _ => .bad
  | some false => .ok (false, Γ2)
  | none => .bad
 | _, _ => .bad
section
variable {M0 : Addr → Prop} {F : Fp} {Γ : Gv} {ν : Nu} {σ : St} {H : Hp} {β : Type} {P : Fp → Gv → Hp → β → Prop}
end
inductive FOks (M0 : Addr → Prop) (F : Fp) (ν : Nu) (H : Hp) : List V → List FV → Prop
 | nil : FOks M0 F ν H [] []
 | cons {v : V} {vs : List V} {u : FV} {us : List FV} : FOk M0 F ν H v u → FOks M0 F ν H vs us → FOks M0 F ν H (v :: vs) (u :: us)
noncomputable def derSs (Γ : Gv) : List FV → Option (List PyData)
 | [] => some []
 | u :: us => match derS Γ u, derSs Γ us with
  | some x, some xs => some (x :: xs)
  | _, _ => none
theorem FOks.strong {M0 : Addr → Prop} {F : Fp} {Γ : Gv} {ν : Nu} {H : Hp} (rs : RS M0 F Γ ν H) : ∀ {vs : List V} {us : List FV} {ds : List PyData}, FOks M0 F ν H vs us → derSs Γ us = some ds → RepL (MM M0 F) H vs ds
 | _, _, _, .nil, e => by cases e; exact .nil
 | _, _, _, .cons h t, e => by
  unfold derSs at e
  split at e
  ·rename_i e1 e2
   cases e
   exact .cons (h.strong rs e1) (FOks.strong rs t e2)
  ·cases e
theorem FOks.length {M0 : Addr → Prop} {F : Fp} {ν : Nu} {H : Hp} : ∀ {vs : List V} {us : List FV}, FOks M0 F ν H vs us → vs.length = us.length
 | _, _, .nil => rfl
 | _, _, .cons _ t => by rw [List.length_cons, List.length_cons, FOks.length t]
noncomputable def SL (X : Cx) (XP : XPT) (mp : List Nat) (es : List Expr) (f : EM (List FV)) : Prop := ∀ (M0 : Addr → Prop) (F : Fp) (Γ : Gv) (ν : Nu) (σ : St) (H : Hp) (Q : List V → Hp → Prop), RS M0 F Γ ν H → Sees mp ν σ →
 EPost M0 F ν σ H XP (fun F' Γ' H' us => ∀ vs, FOks M0 F' ν H' vs us → Q vs H') (f Γ) → wpA X es σ H Q
theorem SL.run {β : Type} {M0 : Addr → Prop} {F : Fp} {Γ : Gv} {ν : Nu} {σ : St} {H : Hp} {P : Fp → Gv → Hp → β → Prop} {fl : EM (List FV)} {Q : List V → Hp → Prop} {k : List FV × Gv → R (β × Gv)} (ha : SL X XP mp es fl) (rs : RS M0 F Γ ν H) (hs : Sees mp ν σ) (h : EPost M0 F ν σ H XP P ((fl Γ).bind k))
  (kk : ∀ F1 Γ1 H1 us vs, RS M0 F1 Γ1 ν H1 → Stp F H F1 H1 → FOks M0 F1 ν H1 vs us → EPost M0 F1 ν σ H1 XP P (k (us, Γ1)) → Q vs H1) : wpA X es σ H Q :=
 ha M0 F Γ ν σ H Q rs hs (h.seq.mono fun F1 Γ1 H1 u rs1 s1 h1 v hv => kk F1 Γ1 H1 u v rs1 s1 hv h1)
noncomputable def fNil : EM (List FV) := fun Γ => .ok ([], Γ)
noncomputable def fCons (fa : EM FV) (fl : EM (List FV)) : EM (List FV) := fun Γ => (fa Γ).bind fun (u, Γ1) => (fl Γ1).bind fun (us, Γ2) => .ok (u :: us, Γ2)
theorem sl_nil : SL X XP mp [] fNil := fun M0 F Γ ν σ H Q rs hs hp => pa_nil.wp (hp F H rs (.refl _ _) [] .nil)
theorem sl_cons {fl : EM (List FV)} (ha : SE X XP mp a fa) (hl : SL X XP mp es fl) (hst : starEach (a :: es) X.env = (false, eval a X.env) :: starEach es X.env) : SL X XP mp (a :: es) (fCons fa fl) := fun M0 F Γ ν σ H Q rs hs hp =>
 (pa_cons pe_self pa_self hst).wp (ha.run rs hs hp fun F1 Γ1 H1 u v rs1 s1 o1 h1 => hl.run rs1 hs h1 fun F2 Γ2 H2 us vs rs2 s2 o2 h2 => h2 F2 H2 rs2 (.refl _ _) _ (.cons (o1.stp s2 rs1.al0) o2))
theorem sz6 {n : Nat} (h : n ≤ 1000000) : n ≤ sizeLine := by have := sizeLine_eq; omega
noncomputable def fTup (fl : EM (List FV)) : EM FV := fun Γ => (fl Γ).bind fun (us, Γ1) => match derSs Γ1 us with
 | some ds => if us.length ≤ 1000000 then .ok (.dat (.tuple ds), Γ1) else .bad
 | none => .bad
noncomputable def fLst (fl : EM (List FV)) : EM (List PyData) := fun Γ => (fl Γ).bind fun (us, Γ1) => match derSs Γ1 us with
 | some ds => if us.length ≤ 1000000 then .ok (ds, Γ1) else .bad
 | none => .bad
theorem se_tup {fl : EM (List FV)} {x1} (h : SL X XP mp es fl) : SE X XP mp (.Tuple es x1 pos) (fTup fl) := fun M0 F Γ ν σ H Q rs hs hp =>
 (pe_tup pa_self).wp (h.run rs hs hp fun F1 Γ1 H1 us vs rs1 s1 o1 h1 => by
  dsimp only at h1
  split at h1
  ·rename_i ds e
   split at h1
   ·rename_i hz
    exact ⟨by rw [o1.length]; exact sz6 hz, fun p n => h1 F1 _ (rs1.same (upd_new n)) (.same (upd_new n)) _ (Rep.tuple upd_same ((o1.strong rs1 e).grow (upd_new n).grow))⟩
   ·exact h1.elim
  ·exact h1.elim)
theorem sn_lst {fl : EM (List FV)} (h : SL X XP mp es fl) : SN X XP mp (.List es pos) (fLst fl) := fun M0 F Γ ν σ H Q rs hs hp =>
 (pe_lst pa_self).wp (h.run rs hs hp fun F1 Γ1 H1 us vs rs1 s1 o1 h1 => by
  dsimp only at h1
  split at h1
  ·rename_i ds e
   split at h1
   ·rename_i hz
    exact ⟨by rw [o1.length]; exact sz6 hz, fun p n => h1 F1 H1 rs1 (.refl _ _) vs p (o1.strong rs1 e) n⟩
   ·exact h1.elim
  ·exact h1.elim)
noncomputable def itemF (Γ : Gv) (u : FV) (i : Int) : Option PyData := match u with
 | .dat (.list xs) => atI xs i
 | .dat (.tuple xs) => atI xs i
 | .own k => match Γ[k]? with
  | some (some (.l xs)) => match atI xs i with
   | some (.d x) => some x
   | _ => none
  | some (some (.d (.list xs))) => atI xs i
  | _ => none
 | _ => none
theorem atI_nth {α : Type} {xs : List α} {i : Int} {x : α} (h : atI xs i = some x) : ∃ j, ixN xs.length i = some j ∧ xs[j]? = some x := by
 unfold atI at h
 cases e : ixN xs.length i with
 | none => rw [e] at h; cases h
 | some j => rw [e] at h; exact ⟨j, rfl, h⟩
theorem atI_of {α : Type} {xs : List α} {i : Int} {x : α} {j : Nat} (h : ixN xs.length i = some j) (h2 : xs[j]? = some x) : atI xs i = some x := by
 unfold atI; rw [h]; exact h2
theorem FOk.item {M0 : Addr → Prop} {F : Fp} {Γ : Gv} {ν : Nu} {H : Hp} {v : V} {u : FV} {i : Int} {x : PyData} {K : PySem.W.Frag} (h : FOk M0 F ν H v u) (rs : RS M0 F Γ ν H) (e : itemF Γ u i = some x) :
  ∃ l vs w, v = .ref l ∧ (SqL K H l vs ∨ SqT K H l vs) ∧ atI vs i = some w ∧ Rep (MM M0 F) H w x := by
 unfold itemF at e
 split at e
 ·obtain ⟨a, vs, rfl, e1, _, r⟩ := Rep.lst_inv h
  obtain ⟨w, ew, rw'⟩ := atI_rep r e
  exact ⟨a, vs, w, rfl, .inl (SqL.of e1), ew, rw'⟩
 ·obtain ⟨a, vs, rfl, e1, r⟩ := Rep.tup_inv h
  obtain ⟨w, ew, rw'⟩ := atI_rep r e
  exact ⟨a, vs, w, rfl, .inr (SqT.of e1), ew, rw'⟩
 ·rename_i k
  have h' : ν[k]? = some (some v) := h
  split at e
  ·rename_i q
   split at e
   ·rename_i y eo
    cases e
    obtain ⟨w, e1, r⟩ := rs.at' k _ q
    rw [h'] at e1; cases e1
    generalize F k = A at r
    cases r with
    | l ea qa =>
     obtain ⟨j, ej, exj⟩ := atI_nth eo
     obtain ⟨w, ew, r⟩ := qa.get exj
     rw [← qa.length] at ej
     exact ⟨_, _, w, rfl, .inl (SqL.of ea), atI_of ej ew, r⟩
   ·cases e
  ·rename_i q
   obtain ⟨w, e1, r⟩ := rs.at' k _ q
   rw [h'] at e1; cases e1
   generalize F k = A at r
   cases r with
   | d r =>
    obtain ⟨a, vs, rfl, e1, _, r⟩ := Rep.lst_inv r
    obtain ⟨w, ew, rw'⟩ := atI_rep r e
    exact ⟨a, vs, w, rfl, .inl (SqL.of e1), ew, rw'⟩
  ·cases e
 ·cases e
noncomputable def fIx (fa fb : EM FV) : EM FV := fun Γ => (fa Γ).bind fun (u, Γ1) => (fb Γ1).bind fun (w, Γ2) => match derf Γ2 w with
 | some (.int i) => match itemF Γ2 u i with
  | some x => .ok (.dat x, Γ2)
  | none => .bad
 | _ => .bad
theorem se_ix (ha : SE X XP mp a fa) (hb : SE X XP mp b fb) (hx : PlainIx b) : SE X XP mp (.Subscript a b pos) (fIx fa fb) := fun M0 F Γ ν σ H Q rs hs hp =>
 (pe_ix (ix_list.or ix_tup) pe_self pe_self hx).wp (ha.run rs hs hp fun F1 Γ1 H1 u v rs1 s1 o1 h1 => hb.run rs1 hs h1 fun F2 Γ2 H2 w v2 rs2 s2 o2 h2 => by
  dsimp only at h2
  split at h2
  ·rename_i i e1
   split at h2
   ·rename_i x e2
    obtain ⟨l, vs, z, rfl, hq, ez, rz⟩ := (o1.stp s2 rs1.al0).item (K := X.K) rs2 e2
    cases o2.weak rs2 e1
    rcases hq with hq | hq
    ·exact .inl ⟨l, vs, i, z, rfl, rfl, hq, ez, h2 F2 H2 rs2 (.refl _ _) z rz⟩
    ·exact .inr ⟨l, vs, i, z, rfl, rfl, hq, ez, h2 F2 H2 rs2 (.refl _ _) z rz⟩
   ·exact h2.elim
  ·exact h2.elim)
noncomputable def SOp (X : Cx) (XP : XPT) (mp : List Nat) (e : Option Expr) (f : EM (Option Int)) : Prop := ∃ t : TO, PO X e t ∧ ∀ (M0 : Addr → Prop) (F : Fp) (Γ : Gv) (ν : Nu) (σ : St) (H : Hp) (Q : Option Int → Hp → Prop), RS M0 F Γ ν H → Sees mp ν σ →
 EPost M0 F ν σ H XP (fun F' Γ' H' b => Q b H') (f Γ) → t σ H Q
noncomputable def fNoE : EM (Option Int) := fun Γ => .ok (none, Γ)
noncomputable def fEnd (fa : EM FV) : EM (Option Int) := fun Γ => (fa Γ).bind fun (u, Γ1) => match derf Γ1 u with
 | some (.int i) => .ok (some i, Γ1)
 | _ => .bad
theorem so_none : SOp X XP mp none fNoE := ⟨_, po_none, fun M0 F Γ ν σ H Q rs hs hp => hp F H rs (.refl _ _)⟩
theorem so_some (ha : SE X XP mp a fa) : SOp X XP mp (some a) (fEnd fa) := ⟨_, po_some pe_self, fun M0 F Γ ν σ H Q rs hs hp => ha.run rs hs hp fun F1 Γ1 H1 u v rs1 s1 o1 h1 => by
 dsimp only at h1
 split at h1
 ·rename_i i e1
  cases o1.weak rs1 e1
  exact ⟨i, rfl, h1 F1 H1 rs1 (.refl _ _)⟩
 ·exact h1.elim⟩
noncomputable def fCat (fa fb : EM FV) : EM (List PyData) := fun Γ => (fa Γ).bind fun (u, Γ1) => (fb Γ1).bind fun (w, Γ2) => match derL Γ2 u, derL Γ2 w with
 | some xs, some ys => if xs.length + ys.length ≤ 1000000 then .ok (xs ++ ys, Γ2) else .bad
 | _, _ => .bad
theorem sn_cat (ha : SE X XP mp a fa) (hb : SE X XP mp b fb) : SN X XP mp (.BinOp a .Add b pos) (fCat fa fb) := fun M0 F Γ ν σ H Q rs hs hp =>
 (pe_op op_cat pe_self pe_self).wp (ha.run rs hs hp fun F1 Γ1 H1 u v rs1 s1 o1 h1 => hb.run rs1 hs h1 fun F2 Γ2 H2 w v2 rs2 s2 o2 h2 => by
  dsimp only at h2
  split at h2
  ·rename_i xs ys e1 e2
   split at h2
   ·rename_i hz
    obtain ⟨l, vs, rfl, el, rl⟩ := (o1.stp s2 rs1.al0).list rs2 e1
    obtain ⟨l2, vs2, rfl, el2, rl2⟩ := o2.list rs2 e2
    exact ⟨l, l2, vs, vs2, rfl, rfl, el, el2, by rw [rl.length, rl2.length]; exact sz6 hz, fun p n => h2 F2 H2 rs2 (.refl _ _) _ p (rl.append rl2) n⟩
   ·exact h2.elim
  ·exact h2.elim)
structure BiK (X : Cx) (x : Str) (val : Value) : Prop where
 gl : Gl X x
 mg : X.mg x = none
 bt : bootBuiltins x = some val
 n : x ≠ "__name__"
 d : (x == ("__debug__" : Str)) = false
noncomputable def lenD : PyData → Option Nat
 | .list xs => some xs.length
 | .tuple xs => some xs.length
 | _ => none
noncomputable def f1 (g : PyData → Option PyData) (fa : EM FV) : EM FV := fun Γ => (fa Γ).bind fun (u, Γ1) => match (derf Γ1 u).bind g with
 | some y => .ok (.dat y, Γ1)
 | none => .bad
noncomputable def CallS (X : Cx) (f : Value) (g : PyData → Option PyData) : Prop := ∀ x z, g x = some z → noL z = true ∧ ∃ r, CallR X f r ∧ ∀ (H : Hp) (v : V) (Q : VK),
 Rep Nothing H v x → (∀ w, Rep Nothing H w z → Q w H) → r [v] H Q
theorem callR_of {f : Value} {g : PyData → Option PyData} (ho : CallS X f g) : CallR X f (fun vs H Q => ∃ v x z, vs = [v] ∧ g x = some z ∧ Rep Nothing H v x ∧ ∀ w, Rep Nothing H w z → Q w H) := by
 rintro pins s σ H xs us Q I r ⟨v, x, z, rfl, e, rv, k⟩
 obtain ⟨_, r', hr, hh⟩ := ho x z e
 exact hr pins s σ H [v] us Q I r (hh H v Q rv k)
theorem f1_run {M0 : Addr → Prop} {F : Fp} {Γ : Gv} {ν : Nu} {σ : St} {H : Hp} {g : PyData → Option PyData} {Q : VK} (hz : ∀ x z, g x = some z → noL z = true) (ha : SE X XP mp a fa) (rs : RS M0 F Γ ν H) (hs : Sees mp ν σ) (hst : starEach [a] X.env = [(false, eval a X.env)])
  (hp : EPost M0 F ν σ H XP (fun F' Γ' H' u => ∀ v, FOk M0 F' ν H' v u → Q v H') (f1 g fa Γ)) : wpA X [a] σ H fun vs H1 => ∃ v x z, vs = [v] ∧ g x = some z ∧ Rep Nothing H1 v x ∧ ∀ w, Rep Nothing H1 w z → Q w H1 :=
 (pa_cons pe_self pa_nil hst).wp (ha.run rs hs hp fun F1 Γ1 H1 u v rs1 s1 o1 h1 => by
  dsimp only at h1
  split at h1
  ·rename_i y ey
   cases ex : derf Γ1 u with
   | none => rw [ex] at ey; cases ey
   | some x =>
    rw [ex] at ey
    exact ⟨v, x, y, rfl, ey, o1.weak rs1 ex, fun w rw' => h1 F1 H1 rs1 (.refl _ _) w (Rep.free (hz x y ey) rw')⟩
  ·exact h1.elim)
theorem se_b1 {x : Str} {id : String} {g : PyData → Option PyData} (ho : CallS X (.builtin id) g) (B : BiK X x (.builtin id)) (ha : SE X XP mp a fa) (hst : starEach [a] X.env = [(false, eval a X.env)]) : SE X XP mp (.Call (.Name x p) [a] [] pos) (f1 g fa) := fun M0 F Γ ν σ H Q rs hs hp =>
 (pe_callB (callR_of ho) B.gl B.mg B.bt pa_self B.n B.d hst rfl).wp (f1_run (fun x z e => (ho x z e).1) ha rs hs hst hp)
noncomputable def gLen (x : PyData) : Option PyData := (lenD x).map fun n => .int n
theorem cs_len : CallS X (.builtin "len") gLen := fun x z e => by
 cases x with
 | list xs => cases e; exact ⟨rfl, _, call_len_seq, fun H v Q r k => by
   obtain ⟨l, vs, rfl, el, _, rl⟩ := r.lst_inv
   exact ⟨l, vs, rfl, .inl (SqL.of el), by rw [rl.length]; exact k _ (.int _)⟩⟩
 | tuple xs => cases e; exact ⟨rfl, _, call_len_seq, fun H v Q r k => by
   obtain ⟨l, vs, rfl, el, rl⟩ := r.tup_inv
   exact ⟨l, vs, rfl, .inr (SqT.of el), by rw [rl.length]; exact k _ (.int _)⟩⟩
 | _ => cases e
noncomputable def gInt : PyData → Option PyData
 | .int i => some (.int i)
 | .bool b => some (.int (if b then 1 else 0))
 | _ => none
noncomputable def boolsOf : List PyData → Option (List Bool)
 | [] => some []
 | .bool b :: r => (boolsOf r).map (b :: ·)
 | _ => none
noncomputable def gAll : PyData → Option PyData
 | .list xs => (boolsOf xs).map fun bs => .bool (bs.all id)
 | _ => none
noncomputable def gAny : PyData → Option PyData
 | .list xs => (boolsOf xs).map fun bs => .bool (bs.any id)
 | _ => none
noncomputable def seqF (Γ : Gv) (u : FV) : Option (List PyData) := match u with
 | .dat (.tuple xs) => some xs
 | u => derL Γ u
theorem FOk.seq {M0 : Addr → Prop} {F : Fp} {Γ : Gv} {ν : Nu} {H : Hp} {v : V} {u : FV} {ds : List PyData} {K : PySem.W.Frag} (h : FOk M0 F ν H v u) (rs : RS M0 F Γ ν H) (e : seqF Γ u = some ds) :
  ∃ l vs, v = .ref l ∧ (SqL K H l vs ∨ SqT K H l vs) ∧ RepL (MM M0 F) H vs ds := by
 unfold seqF at e
 split at e
 ·cases e
  obtain ⟨a, vs, rfl, e1, r⟩ := Rep.tup_inv h
  exact ⟨a, vs, rfl, .inr (SqT.of e1), r⟩
 ·obtain ⟨a, vs, rfl, e1, r⟩ := h.list rs e
  exact ⟨a, vs, rfl, .inl (SqL.of e1), r⟩
noncomputable def fListC (fa : EM FV) : EM (List PyData) := fun Γ => (fa Γ).bind fun (u, Γ1) => match seqF Γ1 u with
 | some ds => .ok (ds, Γ1)
 | none => .bad
theorem sn_list {x : Str} (B : BiK X x (.type "list")) (ha : SE X XP mp a fa) (hst : starEach [a] X.env = [(false, eval a X.env)]) : SN X XP mp (.Call (.Name x p) [a] [] pos) (fListC fa) := fun M0 F Γ ν σ H Q rs hs hp =>
 (pe_callTy call_list_of B.gl B.mg B.bt (pa_cons pe_self pa_nil hst) B.n B.d hst rfl).wp (ha.run rs hs hp fun F1 Γ1 H1 u v rs1 s1 o1 h1 => by
  dsimp only at h1
  split at h1
  ·rename_i ds e
   obtain ⟨l, vs, rfl, hq, r⟩ := o1.seq (K := X.K) rs1 e
   exact ⟨l, vs, rfl, hq, fun p n => h1 F1 H1 rs1 (.refl _ _) vs p r n⟩
  ·exact h1.elim)
noncomputable def fTupC (fa : EM FV) : EM FV := fun Γ => (fa Γ).bind fun (u, Γ1) => match derL Γ1 u with
 | some ds => .ok (.dat (.tuple ds), Γ1)
 | none => .bad
noncomputable def isiB (a T : String) : Option Bool := if (T = "int" ∨ T = "bool" ∨ T = "list" ∨ T = "tuple" ∨ T = "str") ∧ ¬ a = "dict" then some (a == T || (a == "bool" && T == "int")) else none
theorem isi_ok {K : PySem.W.Frag} {x : PyData} {T : String} {k : Bool} (h : isiB (tyD x) T = some k) : PySem.W.kitOne K (.type (tyD x)) (.type T) = some k := by
 unfold isiB at h
 split at h
 ·rename_i hT
  cases h
  rcases hT.1 with rfl | rfl | rfl | rfl | rfl <;> cases x <;> kernel_rfl
 ·cases h
theorem isi_nd {x : PyData} {T : String} {k : Bool} (h : isiB (tyD x) T = some k) : tyD x ≠ "dict" := by
 unfold isiB at h
 split at h
 ·rename_i hT; exact hT.2
 ·cases h
noncomputable def fIsi (T : String) (fa : EM FV) : EM FV := fun Γ => (fa Γ).bind fun (u, Γ1) => match (derf Γ1 u).bind fun x => isiB (tyD x) T with
 | some k => .ok (.dat (.bool k), Γ1)
 | none => .bad
theorem se_isi {x y : Str} {T : String} (B : BiK X x (.builtin "isinstance")) (BT : BiK X y (.type T)) (ha : SE X XP mp a fa) (hst : starEach [a, .Name y p2] X.env = (false, eval a X.env) :: starEach [.Name y p2] X.env) :
  SE X XP mp (.Call (.Name x p) [a, .Name y p2] [] pos) (fIsi T fa) := fun M0 F Γ ν σ H Q rs hs hp =>
 (pe_callB call_isi B.gl B.mg B.bt (pa_cons pe_self (pa_cons (pe_bltn (v := .ty T) BT.gl BT.mg BT.bt rfl BT.n BT.d) pa_nil rfl) hst) B.n B.d hst rfl).wp (ha.run rs hs hp fun F1 Γ1 H1 u v rs1 s1 o1 h1 => by
  dsimp only at h1
  split at h1
  ·rename_i k ek
   cases ex : derf Γ1 u with
   | none => rw [ex] at ek; cases ek
   | some z =>
    rw [ex] at ek
    exact ⟨v, T, _, k, rfl, (o1.weak rs1 ex).ty (isi_nd ek), isi_ok ek, h1 F1 H1 rs1 (.refl _ _) _ (Rep.bool k)⟩
  ·exact h1.elim)
noncomputable def f2 (g : PyData → PyData → Option PyData) (fa fb : EM FV) : EM FV := fun Γ => (fa Γ).bind fun (u, Γ1) => (fb Γ1).bind fun (w, Γ2) => match derf Γ2 u, derf Γ2 w with
 | some x, some y => match g x y with
  | some z => .ok (.dat z, Γ2)
  | none => .bad
 | _, _ => .bad
noncomputable def gMin : PyData → PyData → Option PyData
 | .int i, .int j => some (.int (if j < i then j else i))
 | _, _ => none
noncomputable def gMax : PyData → PyData → Option PyData
 | .int i, .int j => some (.int (if j > i then j else i))
 | _, _ => none
noncomputable def gNeg : PyData → Option PyData
 | .int i => some (.int (-i))
 | _ => none
open Classical in
noncomputable def binD (op : Operator) (x y : PyData) : Option PyData := match op, x, y with
 | .Add, .int i, .int j => some (.int (i + j))
 | .Sub, .int i, .int j => some (.int (i - j))
 | .Mult, .int i, .int j => if (-(2 ^ 64) < i ∧ i < 2 ^ 64) ∨ (-(2 ^ 64) < j ∧ j < 2 ^ 64) then some (.int (i * j)) else none
 | .Mod, .int i, .int j => if 0 < j then some (.int (i % j)) else none
 | .FloorDiv, .int i, .int j => if 0 < j ∧ j < 1073741824 then some (.int (i / j)) else none
 | .Pow, .int i, .int j => if 0 ≤ j ∧ j ≤ 1000000 ∧ i.natAbs < 2 ^ 64 then some (.int (i ^ j.toNat)) else none
 | .LShift, .int i, .int j => if 0 ≤ j ∧ j ≤ 1000000 ∧ i.natAbs < 2 ^ 64 then some (.int (i * 2 ^ j.toNat)) else none
 | .RShift, .int i, .int j => if 0 ≤ j then some (.int (i / 2 ^ j.toNat)) else none
 | .BitAnd, .int i, .int j => some (.int (Builtin.bitAnd i j))
 | .Add, .tuple a, .tuple b => if a.length + b.length ≤ 1000000 then some (.tuple (a ++ b)) else none
 | .Mult, .tuple a, .int n => if 0 ≤ n ∧ n < 1000000 ∧ a.length * n.toNat ≤ 1000000 then some (.tuple (List.replicate n.toNat a).flatten) else none
 | _, _, _ => none
theorem ints_op {op : Operator} {x y z : PyData} {i j k : Int} {C : Int → Int → Prop} {f : Int → Int → Int} (hc : C i j) (ho : OpR X (binaryOp op) (rI C fun i j => .int (f i j))) :
  ∃ r : R2, OpR X (binaryOp op) r ∧ ∀ (M : Addr → Prop) (H : Hp) (v u : V) (Q : VK), Al M H → Rep M H v (.int i) → Rep M H u (.int j) → (∀ w H', Same H H' → Rep M H' w (.int (f i j)) → Q w H') → r v u H Q :=
 ⟨_, ho, fun M H v u Q _ r1 r2 k => by cases r1; cases r2; exact ⟨i, j, rfl, rfl, hc, k _ H (Same.refl H) (.int _)⟩⟩
theorem ints_op0 {op : Operator} {i j : Int} {f : Int → Int → Int} (ho : OpR X (binaryOp op) (rI0 fun i j => .int (f i j))) :
  ∃ r : R2, OpR X (binaryOp op) r ∧ ∀ (M : Addr → Prop) (H : Hp) (v u : V) (Q : VK), Al M H → Rep M H v (.int i) → Rep M H u (.int j) → (∀ w H', Same H H' → Rep M H' w (.int (f i j)) → Q w H') → r v u H Q :=
 ⟨_, ho, fun M H v u Q _ r1 r2 k => by cases r1; cases r2; exact ⟨i, j, rfl, rfl, k _ H (Same.refl H) (.int _)⟩⟩
theorem bin_ok (op : Operator) : OpS X (binaryOp op) (binD op) := fun x y z e => by
 unfold binD at e
 split at e
 ·cases e; exact ints_op0 op_add
 ·cases e; exact ints_op0 op_sub
 ·split at e
  ·rename_i h; cases e; exact ints_op (x := .none) (y := .none) (z := .none) (k := 0) h op_mul
  ·cases e
 ·split at e
  ·rename_i h; cases e; exact ints_op (x := .none) (y := .none) (z := .none) (k := 0) h op_mod
  ·cases e
 ·split at e
  ·rename_i h; cases e; exact ints_op (x := .none) (y := .none) (z := .none) (k := 0) h op_fdiv
  ·cases e
 ·split at e
  ·rename_i h; cases e; exact ints_op (x := .none) (y := .none) (z := .none) (k := 0) h op_pow
  ·cases e
 ·split at e
  ·rename_i h; cases e; exact ints_op (x := .none) (y := .none) (z := .none) (k := 0) h op_shl
  ·cases e
 ·split at e
  ·rename_i h; cases e; exact ints_op (x := .none) (y := .none) (z := .none) (k := 0) (C := fun _ j => 0 ≤ j) h op_shr
  ·cases e
 ·cases e; exact ints_op0 op_and
 ·split at e
  ·rename_i h
   cases e
   exact ⟨_, op_catT2, fun M H v u Q _ q1 q2 k => by
    obtain ⟨l, vs, rfl, e, r⟩ := q1.tup_inv
    obtain ⟨l2, vs2, rfl, e2, r2⟩ := q2.tup_inv
    refine ⟨l, l2, vs, vs2, rfl, rfl, SqT.of e, SqT.of e2, by rw [r.length, r2.length]; exact sz6 h, fun z => k _ H (Same.refl H) ?_, fun z => k _ H (Same.refl H) ?_, fun p np => k _ _ (upd_new np) (.tuple upd_same ((r.append r2).grow (upd_new np).grow))⟩
    ·subst z
     cases r
     exact q2
    ·subst z
     cases r2
     rw [List.append_nil]; exact q1⟩
  ·cases e
 ·split at e
  ·rename_i h
   cases e
   exact ⟨_, op_repT, fun M H v u Q _ q1 q2 k => by
    obtain ⟨l, vs, rfl, e, r⟩ := q1.tup_inv
    cases q2
    refine ⟨l, _, vs, rfl, rfl, SqT.of e, by omega, by omega, by rw [r.length]; exact sz6 h.2.2, fun hs => k _ H (Same.refl H) ?_, fun p np => k _ _ (upd_new np) (.tuple upd_same ((r.rep _).grow (upd_new np).grow))⟩
    rcases hs with z | z
    ·subst z
     cases r
     rename_i n _
     have : (List.replicate n.toNat ([] : List PyData)).flatten = [] := by simp
     rw [this]; exact q1
    ·subst z
     have key : ∀ l : List PyData, (List.replicate (1 : Int).toNat l).flatten = l := fun l => by simp
     rw [key]; exact q1⟩
  ·cases e
 ·cases e
noncomputable def lay : Nat → PyData → Bool
 | _, .none => true
 | _, .bool _ => true
 | _, .int _ => true
 | _, .str x => PyData.strOk x
 | n + 1, .list xs => xs.all (lay n)
 | n + 1, .tuple xs => xs.all (lay n)
 | _, _ => false
theorem lay_all {n : Nat} (ih : ∀ d, lay n d = true → d.canLay0 = true ∧ d.depth ≤ n) : ∀ xs : List PyData, xs.all (lay n) = true → PyData.canLayAll0 xs = true ∧ PyData.depthAll xs ≤ n
 | [], _ => ⟨rfl, Nat.zero_le _⟩
 | x :: r, h => by
  rw [List.all_cons, Bool.and_eq_true] at h
  obtain ⟨a, b⟩ := ih x h.1
  obtain ⟨c, d⟩ := lay_all ih r h.2
  exact ⟨by simp [PyData.canLayAll0, a, c], by simp only [PyData.depthAll]; omega⟩
theorem lay_ok : ∀ (n : Nat) (d : PyData), lay n d = true → d.canLay0 = true ∧ d.depth ≤ n
 | n, .none, _ => ⟨rfl, Nat.zero_le _⟩
 | n, .bool _, _ => ⟨rfl, Nat.zero_le _⟩
 | n, .int _, _ => ⟨rfl, Nat.zero_le _⟩
 | n, .str _, h => ⟨by simpa [PyData.canLay0, lay] using h, Nat.zero_le _⟩
 | n + 1, .list xs, h => by
  obtain ⟨a, b⟩ := lay_all (lay_ok n) xs (by simpa [lay] using h)
  exact ⟨by simpa [PyData.canLay0] using a, by simp only [PyData.depth]; omega⟩
 | n + 1, .tuple xs, h => by
  obtain ⟨a, b⟩ := lay_all (lay_ok n) xs (by simpa [lay] using h)
  exact ⟨by simpa [PyData.canLay0] using a, by simp only [PyData.depth]; omega⟩
 | 0, .list _, h => by simp [lay] at h
 | 0, .tuple _, h => by simp [lay] at h
 | 0, .dict _, h => by simp [lay] at h
 | n + 1, .dict _, h => by simp [lay] at h
noncomputable def isN : PyData → Bool
 | .none => true
 | _ => false
noncomputable def inD (x : PyData) (ys : List PyData) : Bool := ys.any fun y => PyData.eqv y x
noncomputable def cmpD (op : CmpOp) (x y : PyData) : Option Bool := match op, x, y with
 | .Eq, x, y => if lay 20 x && lay 20 y then some (PyData.eqv x y) else none
 | .NotEq, x, y => if lay 20 x && lay 20 y then some (!PyData.eqv x y) else none
 | .Lt, .int i, .int j => some (decide (i < j))
 | .LtE, .int i, .int j => some (decide (i ≤ j))
 | .Gt, .int i, .int j => some (decide (j < i))
 | .GtE, .int i, .int j => some (decide (j ≤ i))
 | .In, x, .list ys => if lay 20 x && ys.all (lay 20) then some (inD x ys) else none
 | .In, x, .tuple ys => if lay 20 x && ys.all (lay 20) then some (inD x ys) else none
 | .NotIn, x, .list ys => if lay 20 x && ys.all (lay 20) then some (!inD x ys) else none
 | .NotIn, x, .tuple ys => if lay 20 x && ys.all (lay 20) then some (!inD x ys) else none
 | .Is, x, .none => some (isN x)
 | .IsNot, x, .none => some (!isN x)
 | _, _, _ => none
end
end L3
namespace L3
open PySem PySem.Spec PyProof.Rows L2
variable [Cs]
section
variable {X : Cx}
open Classical in
/-- is the value w equal to the data? -/
noncomputable def eqW (h : Heap) (dx : PyData) (w : Value) : Bool := if ∃ d as, Reads h w d as ∧ d.canLay0 = true ∧ PyData.eqv d dx = true then true else false
theorem eqW_of {h : Heap} {dx d : PyData} {w : Value} {as : List Addr} (r : Reads h w d as) (hl : d.canLay0 = true) : eqW h dx w = PyData.eqv d dx := by
 unfold eqW
 cases e : PyData.eqv d dx with
 | true => rw [if_pos ⟨d, as, r, hl, e⟩]
 | false =>
  rw [if_neg]
  rintro ⟨d', as', r', hl', e'⟩
  have := SeqAt.Reads.unique d d' w as as' hl r r'
  rw [← this, e] at e'; cases e'
theorem any_eqW {h : Heap} {dx : PyData} : ∀ {us : List Value} {ys : List PyData} {as : List Addr}, ReadsAll h us ys as → ys.all (lay 20) = true → us.any (eqW h dx) = inD dx ys
 | _, _, _, .nil, _ => rfl
 | _, _, _, .cons r t, hl => by
  rw [List.all_cons, Bool.and_eq_true] at hl
  unfold inD
  rw [List.any_cons, List.any_cons, eqW_of r (lay_ok 20 _ hl.1).1, any_eqW t hl.2]; rfl
theorem mem_eqW {A : Around} {s : Shared} {dx : PyData} {v : Value} {bs : List Addr} (rx : Reads s.heap v dx bs) (hx : lay 20 dx = true) (hu : ∀ n, n ≤ 60 → A.units + n < cLine) : ∀ {us : List Value} {ys : List PyData} {as : List Addr}, ReadsAll s.heap us ys as → ys.all (lay 20) = true → ∀ u ∈ us, SeqAt.EqAt A s u v (eqW s.heap dx u)
 | _, _, _, .nil, _ => fun u hu => by cases hu
 | _, _, _, .cons (d := d) r t, hl => fun u' hu' => by
  rw [List.all_cons, Bool.and_eq_true] at hl
  rcases List.mem_cons.mp hu' with rfl | hu'
  ·rw [eqW_of r (lay_ok 20 _ hl.1).1]
   have h1 := lay_ok 20 _ hl.1
   have h2 := lay_ok 20 _ hx
   exact SeqAt.eqAt_reads _ _ _ _ _ _ _ _ r rx h1.1 h2.1 (hu _ (Nat.le_trans (Nat.min_le_left _ _) (by omega)))
  ·exact mem_eqW rx hx hu t hl.2 u' hu'
noncomputable def rInD (K : PySem.W.Frag) (neg : Bool) : R2 := fun x y H Q => ∃ M M' dx ys p vs, Rep M H x dx ∧ y = .ref p ∧ (SqL K H p vs ∨ SqT K H p vs) ∧ RepL M' H vs ys ∧ lay 20 dx = true ∧ ys.all (lay 20) = true ∧ Q (.bl (if neg then !inD dx ys else inD dx ys)) H
theorem op_inD (hr : Room 1 X.A) : OpR X (compareOp .In) (rInD X.K false) := by
 intro pins s σ H x y v u Q I rx ry h
 obtain ⟨M, M', dx, ys, p, vs, r1, rfl, hq, r2, l1, l2, q⟩ := h
 cases ry
 obtain ⟨bs, z1⟩ := r1.reads I.hok (lay_ok 20 _ l1).1 rx
 have hu : ∀ n, n ≤ 60 → X.A.in1.units + n < cLine := (hr.in1).u60
 rcases hq with hq | hq
 ·obtain ⟨its, r, pl, hz⟩ := I.list hq
  obtain ⟨as, z2⟩ := r2.reads I.hok (lay_all (lay_ok 20) _ l2).1 r
  refine SeqAt.in_listAt (eqW s.heap dx) pl.isList (fun w hw => mem_eqW z1 l1 hu z2 l2 w (by simpa using hw)) ⟨.bl _, H, I, rfl, ?_⟩
  rw [show its.toArray.any (eqW s.heap dx) = its.any (eqW s.heap dx) by simp, any_eqW z2 l2]
  exact q
 ·obtain ⟨its, r, pl, hz⟩ := I.tuple hq
  obtain ⟨as, z2⟩ := r2.reads I.hok (lay_all (lay_ok 20) _ l2).1 r
  refine SeqAt.in_tupleAt (eqW s.heap dx) pl (fun w hw => mem_eqW z1 l1 hu z2 l2 w (by simpa using hw)) ⟨.bl _, H, I, rfl, ?_⟩
  rw [show its.toArray.any (eqW s.heap dx) = its.any (eqW s.heap dx) by simp, any_eqW z2 l2]
  exact q
theorem op_notInD (hr : Room 1 X.A) : OpR X (compareOp .NotIn) (rInD X.K true) := by
 intro pins s σ H x y v u Q I rx ry h
 obtain ⟨M, M', dx, ys, p, vs, r1, rfl, hq, r2, l1, l2, q⟩ := h
 cases ry
 obtain ⟨bs, z1⟩ := r1.reads I.hok (lay_ok 20 _ l1).1 rx
 have hu : ∀ n, n ≤ 60 → X.A.in1.units + n < cLine := (hr.in1).u60
 rcases hq with hq | hq
 ·obtain ⟨its, r, pl, hz⟩ := I.list hq
  obtain ⟨as, z2⟩ := r2.reads I.hok (lay_all (lay_ok 20) _ l2).1 r
  refine SeqAt.notIn_listAt (eqW s.heap dx) pl.isList (fun w hw => mem_eqW z1 l1 hu z2 l2 w (by simpa using hw)) ⟨.bl _, H, I, rfl, ?_⟩
  rw [show its.toArray.any (eqW s.heap dx) = its.any (eqW s.heap dx) by simp, any_eqW z2 l2]
  exact q
 ·obtain ⟨its, r, pl, hz⟩ := I.tuple hq
  obtain ⟨as, z2⟩ := r2.reads I.hok (lay_all (lay_ok 20) _ l2).1 r
  refine SeqAt.notIn_tupleAt (eqW s.heap dx) pl (fun w hw => mem_eqW z1 l1 hu z2 l2 w (by simpa using hw)) ⟨.bl _, H, I, rfl, ?_⟩
  rw [show its.toArray.any (eqW s.heap dx) = its.any (eqW s.heap dx) by simp, any_eqW z2 l2]
  exact q
theorem rep_isNone {M : Addr → Prop} {H : Hp} {v : V} {x : PyData} (r : Rep M H v x) : decide (v = .non) = isN x := by
 cases r <;> rfl
theorem cmp_ok (hr : Room 1 X.A) (op : CmpOp) : CmpS X op (cmpD op) := fun x y z e => by
 have h60 : ∀ n, n ≤ 60 → X.A.units + n < cLine := hr.u60
 unfold cmpD at e
 split at e
 ·split at e
  ·rename_i h
   cases e
   rw [Bool.and_eq_true] at h
   have h1 := lay_ok 20 _ h.1
   have h2 := lay_ok 20 _ h.2
   exact ⟨_, op_deepEq h60, fun H v u Q r1 r2 k => ⟨_, _, _, _, r1, r2, h1.1, h2.1, Nat.le_trans (Nat.min_le_left _ _) (by omega), k⟩⟩
  ·cases e
 ·split at e
  ·rename_i h
   cases e
   rw [Bool.and_eq_true] at h
   have h1 := lay_ok 20 _ h.1
   have h2 := lay_ok 20 _ h.2
   exact ⟨_, op_deepNe h60, fun H v u Q r1 r2 k => ⟨_, _, _, _, r1, r2, h1.1, h2.1, Nat.le_trans (Nat.min_le_left _ _) (by omega), k⟩⟩
  ·cases e
 ·cases e; exact ⟨_, op_lt, fun H v u Q r1 r2 k => by cases r1; cases r2; exact ⟨_, _, rfl, rfl, k⟩⟩
 ·cases e; exact ⟨_, op_le, fun H v u Q r1 r2 k => by cases r1; cases r2; exact ⟨_, _, rfl, rfl, k⟩⟩
 ·cases e; exact ⟨_, op_gt, fun H v u Q r1 r2 k => by cases r1; cases r2; exact ⟨_, _, rfl, rfl, k⟩⟩
 ·cases e; exact ⟨_, op_ge, fun H v u Q r1 r2 k => by cases r1; cases r2; exact ⟨_, _, rfl, rfl, k⟩⟩
 ·split at e
  ·rename_i h
   cases e
   rw [Bool.and_eq_true] at h
   exact ⟨_, op_inD hr, fun H v u Q r1 r2 k => by
    obtain ⟨l, vs, rfl, el, _, rl⟩ := r2.lst_inv
    exact ⟨_, _, _, _, l, vs, r1, rfl, .inl (SqL.of el), rl, h.1, h.2, k⟩⟩
  ·cases e
 ·split at e
  ·rename_i h
   cases e
   rw [Bool.and_eq_true] at h
   exact ⟨_, op_inD hr, fun H v u Q r1 r2 k => by
    obtain ⟨l, vs, rfl, el, rl⟩ := r2.tup_inv
    exact ⟨_, _, _, _, l, vs, r1, rfl, .inr (SqT.of el), rl, h.1, h.2, k⟩⟩
  ·cases e
 ·split at e
  ·rename_i h
   cases e
   rw [Bool.and_eq_true] at h
   exact ⟨_, op_notInD hr, fun H v u Q r1 r2 k => by
    obtain ⟨l, vs, rfl, el, _, rl⟩ := r2.lst_inv
    exact ⟨_, _, _, _, l, vs, r1, rfl, .inl (SqL.of el), rl, h.1, h.2, k⟩⟩
  ·cases e
 ·split at e
  ·rename_i h
   cases e
   rw [Bool.and_eq_true] at h
   exact ⟨_, op_notInD hr, fun H v u Q r1 r2 k => by
    obtain ⟨l, vs, rfl, el, rl⟩ := r2.tup_inv
    exact ⟨_, _, _, _, l, vs, r1, rfl, .inr (SqT.of el), rl, h.1, h.2, k⟩⟩
  ·cases e
 ·cases e
  exact ⟨_, op_isN, fun H v u Q r1 r2 k => by cases r2; exact ⟨rfl, by rw [rep_isNone r1]; exact k⟩⟩
 ·cases e
  exact ⟨_, op_notN, fun H v u Q r1 r2 k => by
   cases r2
   refine ⟨rfl, ?_⟩
   rw [rep_isNone r1]; exact k⟩
 ·cases e
end
mutual
inductive IT where
 | nm (s i : Nat)
 | tp (ts : ITs)
inductive ITs where
 | nil
 | cons (t : IT) (ts : ITs)
end
mutual
/-- what a store makes of the frame -/
noncomputable def tgF : IT → PyData → Gv → Option Gv
 | .nm _ i, x, Γ => if i < Γ.length then some (Γ.set i (some (.d x))) else none
 | .tp ts, .tuple xs, Γ => tgFs ts xs Γ
 | .tp ts, .list xs, Γ => tgFs ts xs Γ
 | _, _, _ => none
noncomputable def tgFs : ITs → List PyData → Gv → Option Gv
 | .nil, [], Γ => some Γ
 | .cons t ts, x :: xs, Γ => (tgF t x Γ).bind fun Γ => tgFs ts xs Γ
 | _, _, _ => none
end
noncomputable def ITs.len : ITs → Nat
 | .nil => 0
 | .cons _ ts => ts.len + 1
theorem tgFs_len : ∀ {ts : ITs} {ds : List PyData} {Γ Γ' : Gv}, tgFs ts ds Γ = some Γ' → ds.length = ts.len
 | .nil, [], _, _, _ => rfl
 | .nil, _ :: _, _, _, e => by simp [tgFs] at e
 | .cons t ts, [], _, _, e => by simp [tgFs] at e
 | .cons t ts, d :: ds, Γ, Γ', e => by
  rw [tgFs] at e
  cases q : tgF t d Γ with
  | none => rw [q] at e; cases e
  | some Γ1 => rw [q] at e; rw [List.length_cons, tgFs_len (ts := ts) e]; rfl
theorem tgF_length (t : IT) : ∀ (d : PyData) (Γ Γ' : Gv), tgF t d Γ = some Γ' → Γ'.length = Γ.length := by
 refine IT.rec (motive_1 := fun t => ∀ (d : PyData) (Γ Γ' : Gv), tgF t d Γ = some Γ' → Γ'.length = Γ.length) (motive_2 := fun ts => ∀ (ds : List PyData) (Γ Γ' : Gv), tgFs ts ds Γ = some Γ' → Γ'.length = Γ.length) ?_ ?_ ?_ ?_ t
 ·intro s i d Γ Γ' e
  rw [tgF] at e
  split at e
  ·cases e; simp
  ·cases e
 ·intro ts ih d Γ Γ' e
  cases d with
  | tuple xs => rw [tgF] at e; exact ih _ _ _ e
  | list xs => rw [tgF] at e; exact ih _ _ _ e
  | _ => simp [tgF] at e
 ·intro ds Γ Γ' e
  cases ds with
  | nil => simp [tgFs] at e; rw [e]
  | cons => simp [tgFs] at e
 ·intro t ts ih1 ih2 ds Γ Γ' e
  cases ds with
  | nil => simp [tgFs] at e
  | cons d ds =>
   rw [tgFs] at e
   cases q : tgF t d Γ with
   | none => rw [q] at e; cases e
   | some Γ1 => rw [q] at e; rw [ih2 _ _ _ e, ih1 _ _ _ q]
noncomputable def SG (X : Cx) (mp : List Nat) (kp : Nat → Prop) (tg : Expr) (t : IT) : Prop := ∀ (M0 : Addr → Prop) (F : Fp) (Γ Γ' : Gv) (ν : Nu) (σ : St) (H : Hp) (v : V) (d : PyData) (Q : St → Hp → Prop), RS M0 F Γ ν H → Sees mp ν σ → σ.length = X.N.length → Rep (MM M0 F) H v d →
 tgF t d Γ = some Γ' → (∀ F' ν' σ', RS M0 F' Γ' ν' H → Stp F H F' H → Sees mp ν' σ' → σ'.length = X.N.length → (∀ i : Nat, kp i → ν'[i]? = ν[i]?) → (∀ s i : Nat, mp[s]? = some i → kp i → σ'[s]? = σ[s]?) → Q σ' H) → wpG X tg v σ H Q
noncomputable def SGs (X : Cx) (mp : List Nat) (kp : Nat → Prop) (tgs : List Expr) (ts : ITs) : Prop := ∀ (M0 : Addr → Prop) (F : Fp) (Γ Γ' : Gv) (ν : Nu) (σ : St) (H : Hp) (vs : List V) (ds : List PyData) (Q : St → Hp → Prop), RS M0 F Γ ν H → Sees mp ν σ → σ.length = X.N.length → RepL (MM M0 F) H vs ds →
 tgFs ts ds Γ = some Γ' → (∀ F' ν' σ', RS M0 F' Γ' ν' H → Stp F H F' H → Sees mp ν' σ' → σ'.length = X.N.length → (∀ i : Nat, kp i → ν'[i]? = ν[i]?) → (∀ s i : Nat, mp[s]? = some i → kp i → σ'[s]? = σ[s]?) → Q σ' H) → wpGs X tgs vs σ H Q
section
variable {X : Cx} {mp : List Nat} {kp : Nat → Prop} {tg : Expr} {tgs : List Expr} {t : IT} {ts : ITs} {pos : Pos}
theorem Sees.set {ν : Nu} {σ : St} {s i : Nat} {v : V} (h : Sees mp ν σ) (hn : mp.Nodup) (hm : mp[s]? = some i) (hs : s < σ.length) : Sees mp (ν.set i (some v)) (σ.set s (some v)) := fun s' j w e1 e2 => by
 by_cases hj : i = j
 ·subst hj
  have : s' = s := by
   have h1 := (List.getElem?_eq_some_iff.mp e1).1
   have h2 := (List.getElem?_eq_some_iff.mp hm).1
   exact (List.getElem?_inj h1 hn).mp (by rw [e1, hm])
  subst this
  rw [List.getElem?_set_self hs]
  by_cases hl : i < ν.length
  ·rw [List.getElem?_set_self hl] at e2; rw [e2]
  ·rw [List.getElem?_eq_none (by simpa using hl)] at e2; cases e2
 ·rw [List.getElem?_set_ne hj] at e2
  have : s' ≠ s := fun z => hj (by subst z; rw [hm] at e1; exact Option.some.inj e1)
  rw [List.getElem?_set_ne (Ne.symm this)]
  exact h s' j w e1 e2
theorem sg_name {s i : Nat} {x : Str} (hN : X.N.Nodup) (hn : mp.Nodup) (hi : X.N[s]? = some x) (hm : mp[s]? = some i) (hlo : ¬ kp i) (hx : Loc X.env.scope x) (hf : X.fn x = true ∨ X.env.scope.names.lookup x = some .local) : SG X mp kp (.Name x pos) (.nm s i) :=
 fun M0 F Γ Γ' ν σ H v d Q rs hs hl r e k => by
  rw [tgF] at e
  split at e
  ·rename_i hi'
   cases e
   have hsl : s < σ.length := by rw [hl]; exact (List.getElem?_eq_some_iff.mp hi).1
   obtain ⟨F', rs', s'⟩ := rs.setD r hi'
   refine (pg_name hN hi hx hf).wp (k F' _ _ rs' s' (hs.set hn hm hsl) (by simpa using hl) (fun j hj => ?_) (fun s2 j e2 hj => ?_))
   ·rw [List.getElem?_set_ne (fun z => hlo (by rw [z]; exact hj))]
   ·rw [List.getElem?_set_ne]
    intro z
    subst z
    rw [hm] at e2
    cases e2
    exact hlo hj
  ·cases e
theorem sgs_nil : SGs X mp kp [] .nil := fun M0 F Γ Γ' ν σ H vs ds Q rs hs hl r e k => by
 cases r with
 | nil =>
  simp [tgFs] at e
  subst e
  exact pgs_nil.wp ⟨rfl, k F ν σ rs (.refl _ _) hs hl (fun _ _ => rfl) (fun _ _ _ _ => rfl)⟩
 | cons r rr => simp [tgFs] at e
theorem sgs_cons (h1 : SG X mp kp tg t) (h2 : SGs X mp kp tgs ts) (hst : (assignEach (tg :: tgs) X.env).map (·.2) = assign tg X.env :: (assignEach tgs X.env).map (·.2)) : SGs X mp kp (tg :: tgs) (.cons t ts) := fun M0 F Γ Γ' ν σ H vs ds Q rs hs hl r e k => by
 cases r with
 | nil => simp [tgFs] at e
 | cons r rr =>
  rename_i v vs d ds
  rw [tgFs] at e
  cases e1 : tgF t d Γ with
  | none => rw [e1] at e; cases e
  | some Γ1 =>
   rw [e1] at e
   refine (pgs_cons pg_self pgs_self hst).wp ⟨v, vs, rfl, h1 M0 F Γ Γ1 ν σ H v d _ rs hs hl r e1 fun F1 ν1 σ1 rs1 s1 hs1 hl1 n1 m1 => ?_⟩
   exact h2 M0 F1 Γ1 Γ' ν1 σ1 H vs ds _ rs1 hs1 hl1 (repL_stp s1 rs.al0 rr) e fun F2 ν2 σ2 rs2 s2 hs2 hl2 n2 m2 => k F2 ν2 σ2 rs2 (s1.trans s2) hs2 hl2 (fun i hi => (n2 i hi).trans (n1 i hi)) (fun s i e hi => (m2 s i e hi).trans (m1 s i e hi))
theorem sg_tup {n : Nat} (hc : X.calm = true) (h : SGs X mp kp tgs ts) (hl : ts.len = (assignEach tgs X.env).length) (hst : (assignEach tgs X.env).findIdx? (·.1) = none) : SG X mp kp (.Tuple tgs n pos) (.tp ts) := fun M0 F Γ Γ' ν σ H v d Q rs hs hl' r e k => by
 cases d with
 | tuple ds =>
  rw [tgF] at e
  obtain ⟨a, vs, rfl, ea, rr⟩ := r.tup_inv
  exact (pg_tup hc pgs_self rfl hst).wp ⟨a, vs, rfl, SqT.of ea, by rw [rr.length, tgFs_len e, hl], h M0 F Γ Γ' ν σ H vs ds Q rs hs hl' rr e k⟩
 | list ds =>
  rw [tgF] at e
  obtain ⟨a, vs, rfl, ea, _, rr⟩ := r.lst_inv
  exact (pg_tupL hc pgs_self rfl hst).wp ⟨a, vs, rfl, SqL.of ea, by rw [rr.length, tgFs_len e, hl], h M0 F Γ Γ' ν σ H vs ds Q rs hs hl' rr e k⟩
 | _ => simp [tgF] at e
end
end L3
namespace L3
open PySem PySem.Spec PyProof.Rows L2
variable [Cs]
noncomputable def JI (M0 : Addr → Prop) (F : Fp) (J : It) (ds : List PyData) (H1 : Hp) : Prop := ∀ (i : Nat) (F' : Fp) (H' : Hp), Stp F H1 F' H' → (∀ a, M0 a → H1 a ≠ none) →
 (∀ d, ds[i]? = some d → J.go i H' ∧ ∀ x H2, J.yld i H' x H2 → Same H' H2 ∧ Rep (MM M0 F') H2 x d) ∧ (ds.length ≤ i → J.stop i H')
noncomputable def SI (X : Cx) (XP : XPT) (mp : List Nat) (tg iter : Expr) (f : EM (List PyData)) : Prop := ∀ (M0 : Addr → Prop) (F : Fp) (Γ : Gv) (ν : Nu) (σ : St) (H : Hp) (R : It → Hp → Prop), RS M0 F Γ ν H → Sees mp ν σ →
 EPost M0 F ν σ H XP (fun F' Γ' H' ds => ∀ J, JI M0 F' J ds H' → R J H') (f Γ) → wpI X tg iter σ H R
section
variable {X : Cx} {XP : XPT} {mp : List Nat} {a b c e tg iter elt : Expr} {es ifs : List Expr} {pos p p2 : Pos} {fa fb fc : EM FV} {ta tb : EM Bool} {na nb : EM (List PyData)}
noncomputable def fSeqL (fa : EM FV) : EM (List PyData) := fun Γ => (fa Γ).bind fun (u, Γ1) => match derS Γ1 u with
 | some (.list ds) => .ok (ds, Γ1)
 | _ => .bad
noncomputable def fSeqT (fa : EM FV) : EM (List PyData) := fun Γ => (fa Γ).bind fun (u, Γ1) => match derS Γ1 u with
 | some (.tuple ds) => .ok (ds, Γ1)
 | _ => .bad
theorem ji_listF {M0 : Addr → Prop} {F : Fp} {K : PySem.W.Frag} {H1 : Hp} {l : Addr} {ds : List PyData} {vs : List V} (e : H1 l = some (.lst vs)) (n : ∀ j, l ∉ F j) (r : RepL (MM M0 F) H1 vs ds) : JI M0 F (Itl K l) ds H1 := fun i F' H' s h0 => by
 have e' : H' l = some (.lst vs) := (s.keep l _ e n).1
 refine ⟨fun d hd => ?_, fun hl => ⟨vs, SqL.of e', by rw [r.length]; exact hl⟩⟩
 obtain ⟨v, hv, rv⟩ := r.get' hd
 exact ⟨⟨vs, v, SqL.of e', hv⟩, fun x H2 ⟨e2, y⟩ => by
  subst e2
  have := y vs (SqL.of e')
  rw [hv] at this; cases this
  exact ⟨Same.refl _, rep_stp s h0 rv⟩⟩
theorem ji_list {M0 : Addr → Prop} {F : Fp} {K : PySem.W.Frag} {H1 : Hp} {l : Addr} {ds : List PyData} {vs : List V} (e : H1 l = some (.lst vs)) (n : ¬ MM M0 F l) (r : RepL (MM M0 F) H1 vs ds) : JI M0 F (Itl K l) ds H1 := ji_listF e (fun j hj => n (.inr ⟨j, hj⟩)) r
theorem ji_tup {M0 : Addr → Prop} {F : Fp} {K : PySem.W.Frag} {H1 : Hp} {l : Addr} {ds : List PyData} {vs : List V} (e : H1 l = some (.tup vs)) (r : RepL (MM M0 F) H1 vs ds) : JI M0 F (Itt K l) ds H1 := fun i F' H' s h0 => by
 have e' : H' l = some (.tup vs) := s.tups l _ e
 refine ⟨fun d hd => ?_, fun hl => ⟨vs, SqT.of e', by rw [r.length]; exact hl⟩⟩
 obtain ⟨v, hv, rv⟩ := r.get' hd
 exact ⟨⟨vs, v, SqT.of e', hv⟩, fun x H2 ⟨e2, y⟩ => by
  subst e2
  have := y vs (SqT.of e')
  rw [hv] at this; cases this
  exact ⟨Same.refl _, rep_stp s h0 rv⟩⟩
theorem si_list (ha : SE X XP mp iter fa) : SI X XP mp tg iter (fSeqL fa) := fun M0 F Γ ν σ H R rs hs hp =>
 (pi_list pe_self).wp (ha.run rs hs hp fun F1 Γ1 H1 u v rs1 s1 o1 h1 => by
  dsimp only at h1
  split at h1
  ·rename_i ds eu
   obtain ⟨l, vs, rfl, e, n, r⟩ := (o1.strong rs1 eu).lst_inv
   exact ⟨l, rfl, ⟨vs, SqL.of e⟩, h1 F1 H1 rs1 (.refl _ _) _ (ji_list e n r)⟩
  ·exact h1.elim)
theorem si_tup (ha : SE X XP mp iter fa) : SI X XP mp tg iter (fSeqT fa) := fun M0 F Γ ν σ H R rs hs hp =>
 (pi_tup pe_self).wp (ha.run rs hs hp fun F1 Γ1 H1 u v rs1 s1 o1 h1 => by
  dsimp only at h1
  split at h1
  ·rename_i ds eu
   obtain ⟨l, vs, rfl, e, r⟩ := (o1.strong rs1 eu).tup_inv
   exact ⟨l, rfl, ⟨vs, SqT.of e⟩, h1 F1 H1 rs1 (.refl _ _) _ (ji_tup e r)⟩
  ·exact h1.elim)
noncomputable def fRange (fa : EM FV) : EM (List PyData) := fun Γ => (fa Γ).bind fun (u, Γ1) => match derf Γ1 u with
 | some (.int n) => if -1000000 ≤ n ∧ n ≤ 1000000 then .ok (rangeD n.toNat, Γ1) else .bad
 | _ => .bad
theorem ji_range {M0 : Addr → Prop} {F : Fp} (n : Nat) (H1 : Hp) : JI M0 F (Itr 0 n) (rangeD n) H1 := fun i F' H' s h0 => by
 refine ⟨fun d hd => ?_, fun hl => ?_⟩
 ·obtain ⟨hi, rfl⟩ := rangeD_get hd
  exact ⟨hi, fun x H2 ⟨e, y⟩ => by subst e y; exact ⟨Same.refl _, by rw [show (0 : Int) + (i : Int) = i by omega]; exact .int _⟩⟩
 ·show n ≤ i
  simpa [rangeD_length] using hl
theorem si_range {x : Str} (B : BiK X x (.type "range")) (ex : x = "range") (ha : SE X XP mp a fa) (hst : starEach [a] X.env = [(false, eval a X.env)]) : SI X XP mp tg (.Call (.Name x p) [a] [] pos) (fRange fa) := fun M0 F Γ ν σ H R rs hs hp => by
 subst ex
 exact (pi_range1 B.gl B.mg (pa_cons pe_self pa_nil hst) hst).wp (ha.run rs hs hp fun F1 Γ1 H1 u v rs1 s1 o1 h1 => by
  dsimp only at h1
  split at h1
  ·rename_i n eu
   split at h1
   ·rename_i hn
    cases o1.weak rs1 eu
    exact ⟨n, rfl, by omega, by omega, h1 F1 H1 rs1 (.refl _ _) _ (ji_range n.toNat H1)⟩
   ·exact h1.elim
  ·exact h1.elim)
noncomputable def SF (X : Cx) (XP : XPT) (mp : List Nat) (ifs : List Expr) (f : EM Bool) : Prop := ∀ (M0 : Addr → Prop) (F : Fp) (Γ : Gv) (ν : Nu) (σ : St) (H : Hp) (Q : Bool → Hp → Prop), RS M0 F Γ ν H → Sees mp ν σ →
 EPost M0 F ν σ H XP (fun F' Γ' H' b => Q b H') (f Γ) → wpF X ifs σ H Q
noncomputable def fYes : EM Bool := fun Γ => .ok (true, Γ)
theorem sf_nil : SF X XP mp [] fYes := fun M0 F Γ ν σ H Q rs hs hp => pf_nil.wp (hp F H rs (.refl _ _))
theorem sf_one (h : ST X XP mp c ta) : SF X XP mp [c] ta := fun M0 F Γ ν σ H Q rs hs hp => (pf_one pt_self).wp (h M0 F Γ ν σ H Q rs hs hp)
noncomputable abbrev XP0 : XPT := fun _ _ _ _ _ _ => False
noncomputable def XPc (XP : XPT) (σ : St) : XPT := fun x _ _ _ _ H' => ∃ Γ F ν, XP x Γ F ν σ H'
noncomputable def mpC (mp : List Nat) (n k : Nat) (ix : List Nat) : List Nat := (List.range k).map (n + ·) ++ ix.map fun i => mp.getD i 0
theorem mpC_lo {mp : List Nat} {n k : Nat} {ix : List Nat} {s : Nat} (h : s < k) : (mpC mp n k ix)[s]? = some (n + s) := by
 unfold mpC
 rw [List.getElem?_append_left (by simpa using h), List.getElem?_map, List.getElem?_range h]; rfl
theorem mpC_hi {mp : List Nat} {n k : Nat} {ix : List Nat} {j : Nat} : (mpC mp n k ix)[k + j]? = (ix[j]?).map fun i => mp.getD i 0 := by
 unfold mpC
 rw [List.getElem?_append_right (by simp), List.getElem?_map]
 simp
noncomputable def SNt (XP : XPT) (mp : List Nat) (t : TE) (f : EM (List PyData)) : Prop := ∀ (M0 : Addr → Prop) (F : Fp) (Γ : Gv) (ν : Nu) (σ : St) (H : Hp) (Q : VK), RS M0 F Γ ν H → Sees mp ν σ →
 EPost M0 F ν σ H XP (fun F' Γ' H' ds => ∀ vs p, RepL (MM M0 F') H' vs ds → H' p = none → Q (.ref p) (upd H' p (.lst vs))) (f Γ) → t σ H Q
end
end L3
namespace L2
open PySem PySem.Spec PyProof.Rows
variable [Cs]
section
variable {X : Cx} {pins : List (Addr × Obj)} {σ : St} {H : Hp} {s s' : Shared} {e : Value}
theorem call_leaves {C : Addr} {dx : Option Addr} (u : Up X pins σ H C dx e s) (hx : X.ex = []) (hst : X.stack = X.env :: X.outer) (hf : X.env.frame = some X.env.locals) {E' : XK} (hE : E' (.ref C) dx H) {Ez : Value → Shared → Prop} :
  wpAny (model X.prog X.w) X.A (leaving X.env e) (fun _ s'' => CX1 X.prog X.w X.outer X.H₀ X.s₀ E' e s'') Ez s := by
 obtain ⟨ea, fl, B, rfl, al, inv⟩ := u
 have I0 := inv s.heap al.1 (.refl _)
 have hfr : X.A.frames = some (X.env :: X.outer) := by rw [← hst]; exact I0.ok.frames
 rw [hst] at al
 unfold leaving
 refine wpAny_bind (note_any hfr hf al fun h4 al4 up4 => set_any al4 fun h5 ⟨x1, x2, ⟨_, _, x3⟩, x4⟩ up5 => ⟨ea, .ref C, dx, B, s.heap, H, rfl, I0.os, I0.bare, ⟨x1, x2, x3, x4⟩, up4.trans up5, fun h6 k1 k2 => ?_, hE⟩)
 exact (inv h6 k1 k2).flies hx hst hf (fun b o e => PySem.W.of_hideAll _ e) (Heap.UpToSlots.of_keeps fun _ _ e => e)
end
end L2
namespace L2
open PySem PySem.Spec PyProof.Rows
variable [Cs]
end L2
namespace L3
open PySem PySem.Spec PyProof.Rows L2
variable [Cs]
inductive AV where
 | v (u : FV)
 | io (i : Nat)
inductive AOks (M0 : Addr → Prop) (F : Fp) (ν : Nu) (H : Hp) : List V → List AV → Prop
 | nil : AOks M0 F ν H [] []
 | v {v : V} {vs : List V} {u : FV} {as : List AV} : FOk M0 F ν H v u → AOks M0 F ν H vs as → AOks M0 F ν H (v :: vs) (.v u :: as)
 | io {v : V} {vs : List V} {i : Nat} {as : List AV} : ν[i]? = some (some v) → AOks M0 F ν H vs as → AOks M0 F ν H (v :: vs) (.io i :: as)
noncomputable def APost (M0 : Addr → Prop) (F : Fp) (ν : Nu) (σ : St) (H : Hp) (XP : XPT) (P : Fp → Gv → Nu → Hp → List AV → Prop) (r : R (List AV × Gv)) : Prop := match r with
 | .ok (as, Γ') => ∀ F' ν' H', RS M0 F' Γ' ν' H' → ν <+: ν' → Stp F H F' H' → P F' Γ' ν' H' as
 | .exc x Γ' => ∀ F' H', RS M0 F' Γ' ν H' → Stp F H F' H' → XP x Γ' F' ν σ H'
 | .bad => False
noncomputable def OPost (M0 : Addr → Prop) (F : Fp) (ν : Nu) (σ : St) (H : Hp) (XP : XPT) (P : Fp → Gv → Hp → OV → V → Prop) (r : R (OV × Gv)) : Prop := match r with
 | .ok (o, Γ') => ∀ F' H' v, RS M0 F' (Γ' ++ [some o]) (ν ++ [some v]) H' → Stp F H F' H' → P F' Γ' H' o v
 | .exc x Γ' => ∀ F' H', RS M0 F' Γ' ν H' → Stp F H F' H' → XP x Γ' F' ν σ H'
 | .bad => False
noncomputable def SA (X : Cx) (XP : XPT) (mp : List Nat) (es : List Expr) (f : EM (List AV)) : Prop := ∀ (M0 : Addr → Prop) (F : Fp) (Γ : Gv) (ν : Nu) (σ : St) (H : Hp) (Q : List V → Hp → Prop), RS M0 F Γ ν H → Sees mp ν σ →
 APost M0 F ν σ H XP (fun F' Γ' ν' H' as => ∀ vs, AOks M0 F' ν' H' vs as → Q vs H') (f Γ) → wpA X es σ H Q
noncomputable def SO (X : Cx) (XP : XPT) (mp : List Nat) (e : Expr) (f : EM OV) : Prop := ∀ (M0 : Addr → Prop) (F : Fp) (Γ : Gv) (ν : Nu) (σ : St) (H : Hp) (Q : VK), RS M0 F Γ ν H → Sees mp ν σ →
 OPost M0 F ν σ H XP (fun F' Γ' H' o v => Q v H') (f Γ) → wpE X e σ H Q
section
variable {M0 : Addr → Prop} {F : Fp} {Γ : Gv} {ν : Nu} {σ : St} {H : Hp} {XP : XPT} {α : Type}
theorem APost.seq {P : Fp → Gv → Nu → Hp → List AV → Prop} {r : R (α × Gv)} {k : α × Gv → R (List AV × Gv)} (h : APost M0 F ν σ H XP P (r.bind k)) : EPost M0 F ν σ H XP (fun F1 Γ1 H1 a => APost M0 F1 ν σ H1 XP P (k (a, Γ1))) r := by
 cases r with
 | ok a =>
  obtain ⟨a, Γ1⟩ := a
  intro F1 H1 rs1 s1
  have h' : APost M0 F ν σ H XP P (k (a, Γ1)) := h
  revert h'
  generalize k (a, Γ1) = r2
  intro h'
  cases r2 with
  | ok b => exact fun F' ν' H' rs hn s => h' F' ν' H' rs hn (s1.trans s)
  | exc x Γ' => exact fun F' H' rs s => h' F' H' rs (s1.trans s)
  | bad => exact h'
 | exc x Γ' => exact h
 | bad => exact h
theorem APost.mono {P P' : Fp → Gv → Nu → Hp → List AV → Prop} {r : R (List AV × Gv)} (h : APost M0 F ν σ H XP P r) (k : ∀ F' Γ' ν' H' as, RS M0 F' Γ' ν' H' → ν <+: ν' → Stp F H F' H' → P F' Γ' ν' H' as → P' F' Γ' ν' H' as) : APost M0 F ν σ H XP P' r := by
 cases r with
 | ok a => exact fun F' ν' H' rs hn s => k F' _ ν' H' _ rs hn s (h F' ν' H' rs hn s)
 | exc x Γ' => exact h
 | bad => exact h
theorem OPost.seq {P : Fp → Gv → Hp → OV → V → Prop} {r : R (α × Gv)} {k : α × Gv → R (OV × Gv)} (h : OPost M0 F ν σ H XP P (r.bind k)) : EPost M0 F ν σ H XP (fun F1 Γ1 H1 a => OPost M0 F1 ν σ H1 XP P (k (a, Γ1))) r := by
 cases r with
 | ok a =>
  obtain ⟨a, Γ1⟩ := a
  intro F1 H1 rs1 s1
  have h' : OPost M0 F ν σ H XP P (k (a, Γ1)) := h
  revert h'
  generalize k (a, Γ1) = r2
  intro h'
  cases r2 with
  | ok b => exact fun F' H' v rs s => h' F' H' v rs (s1.trans s)
  | exc x Γ' => exact fun F' H' rs s => h' F' H' rs (s1.trans s)
  | bad => exact h'
 | exc x Γ' => exact h
 | bad => exact h
theorem OPost.mono {P P' : Fp → Gv → Hp → OV → V → Prop} {r : R (OV × Gv)} (h : OPost M0 F ν σ H XP P r) (k : ∀ F' Γ' H' o v, RS M0 F' (Γ' ++ [some o]) (ν ++ [some v]) H' → Stp F H F' H' → P F' Γ' H' o v → P' F' Γ' H' o v) : OPost M0 F ν σ H XP P' r := by
 cases r with
 | ok a => exact fun F' H' v rs s => k F' _ H' _ v rs s (h F' H' v rs s)
 | exc x Γ' => exact h
 | bad => exact h
end
section
variable {X : Cx} {XP : XPT} {mp : List Nat} {a b c e : Expr} {es : List Expr} {pos p p2 : Pos} {fa fb fc : EM FV} {ta tb : EM Bool} {na nb : EM (List PyData)} {fl : EM (List AV)} {fo : EM OV}
noncomputable def fOwn (n : EM (List PyData)) : EM OV := fun Γ => (n Γ).bind fun (ds, Γ1) => .ok (.l (ds.map .d), Γ1)
theorem SN.so (h : SN X XP mp a na) : SO X XP mp a (fOwn na) := fun M0 F Γ ν σ H Q rs hs hp =>
 h M0 F Γ ν σ H Q rs hs (hp.seq.mono fun F1 Γ1 H1 ds rs1 s1 h1 vs p r n => by
  obtain ⟨r2, s2⟩ := rs1.newO n r
  exact h1 _ _ _ r2 s2)
noncomputable def fOD (f : EM OV) : EM FV := fun Γ => (f Γ).bind fun (o, Γ1) => .ok (.dat o.view, Γ1)
theorem SO.se (h : SO X XP mp a fo) : SE X XP mp a (fOD fo) := fun M0 F Γ ν σ H Q rs hs hp =>
 h M0 F Γ ν σ H Q rs hs (by
  have hp' : EPost M0 F ν σ H XP (fun F' Γ' H' u => ∀ v, FOk M0 F' ν H' v u → Q v H') ((fo Γ).bind fun (o, Γ1) => .ok (.dat o.view, Γ1)) := hp
  revert hp'
  generalize fo Γ = r
  intro hp'
  cases r with
  | ok z =>
   obtain ⟨o, Γ1⟩ := z
   intro F' H' v rs' s'
   obtain ⟨F2, rs2, s2, r2⟩ := rs'.dropD
   exact hp' F2 H' rs2 (s'.trans s2) v r2
  | exc x y => exact hp'
  | bad => exact hp')
theorem FOk.ext {M0 : Addr → Prop} {F : Fp} {ν ν' : Nu} {H : Hp} {v : V} {u : FV} (h : FOk M0 F ν H v u) (hn : ν <+: ν') : FOk M0 F ν' H v u := by
 cases u with
 | dat x => exact h
 | own i =>
  have h' : ν[i]? = some (some v) := h
  obtain ⟨t, rfl⟩ := hn
  show (ν ++ t)[i]? = _
  rw [List.getElem?_append_left (List.getElem?_eq_some_iff.mp h').1]; exact h'
noncomputable def aNil : EM (List AV) := fun Γ => .ok ([], Γ)
noncomputable def aCons (fa : EM FV) (fl : EM (List AV)) : EM (List AV) := fun Γ => (fa Γ).bind fun (u, Γ1) => (fl Γ1).bind fun (as, Γ2) => .ok (.v u :: as, Γ2)
noncomputable def aIo (i : Nat) (fl : EM (List AV)) : EM (List AV) := fun Γ => match Γ[i]? with
 | some (some _) => (fl Γ).bind fun (as, Γ2) => .ok (.io i :: as, Γ2)
 | _ => .bad
noncomputable def aTmp (n : EM (List PyData)) : EM (List AV) := fun Γ => (n Γ).bind fun (ds, Γ1) => .ok ([.io Γ1.length], Γ1 ++ [some (.l (ds.map .d))])
theorem sa_nil : SA X XP mp [] aNil := fun M0 F Γ ν σ H Q rs hs hp => pa_nil.wp (hp F ν H rs (List.prefix_refl _) (.refl _ _) [] .nil)
theorem APost.tail {M0 : Addr → Prop} {F : Fp} {ν : Nu} {σ : St} {H : Hp} {P : Fp → Gv → Nu → Hp → List AV → Prop} {r : R (List AV × Gv)} {f : List AV → List AV} (h : APost M0 F ν σ H XP P (r.bind fun (as, Γ2) => .ok (f as, Γ2))) :
  APost M0 F ν σ H XP (fun F' Γ' ν' H' as => P F' Γ' ν' H' (f as)) r := by
 cases r with
 | ok a => exact h
 | exc x Γ' => exact h
 | bad => exact h
theorem sa_cons (ha : SE X XP mp a fa) (hl : SA X XP mp es fl) (hst : starEach (a :: es) X.env = (false, eval a X.env) :: starEach es X.env) : SA X XP mp (a :: es) (aCons fa fl) := fun M0 F Γ ν σ H Q rs hs hp =>
 (pa_cons pe_self pa_self hst).wp (ha M0 F Γ ν σ H _ rs hs (hp.seq.mono fun F1 Γ1 H1 u rs1 s1 h1 v o1 =>
  hl M0 F1 Γ1 ν σ H1 _ rs1 hs (h1.tail.mono fun F2 Γ2 ν2 H2 as rs2 hn s2 h2 vs oks => h2 (v :: vs) (.v ((o1.stp s2 rs1.al0).ext hn) oks))))
theorem sa_io {s i : Nat} {x : Str} (hN : X.N[s]? = some x) (hv : Vis X.env.scope x) (hm : mp[s]? = some i) (hd : (x == ("__debug__" : Str)) = false) (hcd : (x == ("__classdict__" : Str)) = false) (hl : SA X XP mp es fl) (hst : starEach (.Name x pos :: es) X.env = (false, eval (.Name x pos) X.env) :: starEach es X.env) :
  SA X XP mp (.Name x pos :: es) (aIo i fl) := fun M0 F Γ ν σ H Q rs hs hp => by
 unfold aIo at hp
 split at hp
 ·rename_i o q
  obtain ⟨v, e1, r⟩ := rs.at' i _ q
  exact (pa_cons (pe_var hN hv hd hcd) pa_self hst).wp ⟨v, hs s i v hm e1, hl M0 F Γ ν σ H _ rs hs (hp.tail.mono fun F2 Γ2 ν2 H2 as rs2 hn s2 h2 vs oks => h2 (v :: vs) (.io (by
   obtain ⟨t, rfl⟩ := hn
   rw [List.getElem?_append_left (List.getElem?_eq_some_iff.mp e1).1]; exact e1) oks))⟩
 ·exact hp.elim
theorem sa_tmp (h : SN X XP mp a na) (hst : starEach [a] X.env = [(false, eval a X.env)]) : SA X XP mp [a] (aTmp na) := fun M0 F Γ ν σ H Q rs hs hp =>
 (pa_cons pe_self pa_nil hst).wp (h M0 F Γ ν σ H _ rs hs (hp.seq.mono fun F1 Γ1 H1 ds rs1 s1 h1 vs p r n => by
  obtain ⟨r2, s2⟩ := rs1.newO n r
  exact h1 _ _ _ r2 (List.prefix_append _ _) s2 _ (.io (by rw [← rs1.len]; simp) .nil)))
inductive RF where
 | ok (r : OV) (outs : List (Option OV))
 | exc (x : Exc) (outs : List (Option OV))
 | xp (c a : Str) (o : OV) (outs : List (Option OV))
 | bad
noncomputable def spX (mg : Str → Option Value) (n : Nat) (run : List OV → RF) : Sp := fun vs H Q E => vs.length = n ∧ ∃ (M0 : Addr → Prop) (F : Fp) (args : List OV), RS M0 F (args.map some) (vs.map some) H ∧ match run args with
 | .ok r outs => ∀ F' v H', RS M0 F' (outs ++ [some r]) (vs.map some ++ [some v]) H' → Stp F H F' H' → Q v H'
 | .exc x outs => ∀ C, mg x.cls = some (.ref C) → ∀ F' H', RS M0 F' (outs ++ [some (.d .none)]) (vs.map some ++ [some .non]) H' → Stp F H F' H' → E (.ref C) none H'
 | .xp c a o outs => ∀ C, mg c = some (.ref C) → ∀ F' v dx H', RS M0 F' (outs ++ [some o]) (vs.map some ++ [some v]) H' → Stp F H F' H' → H' dx = some (.xd [(a, v)]) → E (.ref C) (some dx) H'
 | .bad => False
noncomputable def Ran (n : Nat) (run : List OV → RF) : Prop := ∀ args, (run args ≠ .bad → args.length = n) ∧ ∀ x o, run args = .exc x o → x.pay = .none
noncomputable def PxOk (X : Cx) (XP : XPT) : Prop := ∀ (σ : St) (pins : List (Addr × Obj)) (H : Hp) (e : Value) (s : Shared) (x : Exc) (Γ : Gv) (F : Fp) (ν : Nu) (C : Addr), X.mg x.cls = some (.ref C) → x.pay = .none → XP x Γ F ν σ H → Up X pins σ H C none e s → X.xe e s
theorem px_none {X : Cx} : PxOk X XP0 := fun σ pins H e s x Γ F ν C h _ z => z.elim
theorem PxOk.call {X : Cx} {XP : XPT} (px : PxOk X XP) (σ : St) (pins : List (Addr × Obj)) (H : Hp) (s : Shared) (e : Value) (s' : Shared) (E : XK) (h : ∀ c dx H', E c dx H' → dx = none ∧ ∃ (x : Exc) (Γ : Gv) (F : Fp) (ν : Nu) (C : Addr), X.mg x.cls = some (.ref C) ∧ c = .ref C ∧ x.pay = .none ∧ XP x Γ F ν σ H')
  (I : Inv X pins σ H s) (hc : CX1 X.prog X.w X.stack H s E e s') : X.xe e s' := I.up hc fun c dx H' q u => by
 obtain ⟨rfl, x, Γ, F, ν, C, h1, rfl, hy, h2⟩ := h c dx H' q
 exact px σ pins H' e s' x Γ F ν C h1 hy h2 (u C rfl)
theorem px_comp {X : Cx} {XP : XPT} {σ : St} {N' : List Str} {scope : Scope} {cl : List (Str × Addr)} {C : Addr} {s2 : Shared} {H2 : Hp} {fp : List Addr} (px : PxOk X XP) (sk : Sk X) (cat : Cat X σ C s2 H2 fp) : PxOk (X.comp N' scope cl C s2 H2 fp) (XPc XP σ) :=
 fun σ' pins' H e s x _ _ _ C0 h hy ⟨Γ, F, ν, hx⟩ u => u.comp sk cat fun pins s' u' => px σ pins H e s' x Γ F ν C0 h hy hx u'
noncomputable abbrev EX (X : Cx) (XP : XPT) (σ : St) : XK := fun c dx H' => dx = none ∧ ∃ (x : Exc) (Γ : Gv) (F : Fp) (ν : Nu) (C : Addr), X.mg x.cls = some (.ref C) ∧ c = .ref C ∧ x.pay = .none ∧ XP x Γ F ν σ H'
noncomputable def toArg (Γ : Gv) : AV → Option OV
 | .v u => (derS Γ u).map .d
 | .io i => match Γ[i]? with
  | some (some o) => some o
  | _ => none
noncomputable def toArgs (Γ : Gv) : List AV → Option (List OV)
 | [] => some []
 | a :: as => match toArg Γ a, toArgs Γ as with
  | some o, some os => some (o :: os)
  | _, _ => none
noncomputable def ios : List AV → List Nat
 | [] => []
 | .v _ :: as => ios as
 | .io i :: as => i :: ios as
noncomputable def putBack : List AV → List (Option OV) → Gv → Option Gv
 | [], _, Γ => some Γ
 | .v _ :: as, _ :: os, Γ => putBack as os Γ
 | .io i :: as, some o :: os, Γ => if i < Γ.length then putBack as os (Γ.set i (some o)) else none
 | _, _, _ => none
theorem mem_ios {as : List AV} {i : Nat} : i ∈ ios as ↔ ∃ j : Nat, as[j]? = some (.io i) := by
 induction as with
 | nil => simp [ios]
 | cons a as ih =>
  cases a with
  | v u =>
   rw [ios, ih]
   constructor
   ·rintro ⟨j, h⟩; exact ⟨j + 1, by simpa using h⟩
   ·rintro ⟨j, h⟩
    cases j with
    | zero => simp at h
    | succ j => exact ⟨j, by simpa using h⟩
  | io k =>
   rw [ios, List.mem_cons, ih]
   constructor
   ·rintro (rfl | ⟨j, h⟩)
    ·exact ⟨0, rfl⟩
    ·exact ⟨j + 1, by simpa using h⟩
   ·rintro ⟨j, h⟩
    cases j with
    | zero => simp at h; exact .inl h.symm
    | succ j => exact .inr ⟨j, by simpa using h⟩
theorem ios_inj : ∀ {as : List AV} {i j k : Nat}, (ios as).Nodup → as[j]? = some (.io i) → as[k]? = some (.io i) → j = k
 | [], _, _, _, _, h, _ => by simp at h
 | .v u :: as, i, j, k, nd, h1, h2 => by
  cases j with
  | zero => simp at h1
  | succ j =>
   cases k with
   | zero => simp at h2
   | succ k => exact congrArg (· + 1) (ios_inj (as := as) (i := i) (by rw [ios] at nd; exact nd) (by simpa using h1) (by simpa using h2))
 | .io m :: as, i, j, k, nd, h1, h2 => by
  rw [ios, List.nodup_cons] at nd
  cases j with
  | zero =>
   cases k with
   | zero => rfl
   | succ k =>
    simp at h1; subst h1
    exact absurd (mem_ios.mpr ⟨k, by simpa using h2⟩) nd.1
  | succ j =>
   cases k with
   | zero =>
    simp at h2; subst h2
    exact absurd (mem_ios.mpr ⟨j, by simpa using h1⟩) nd.1
   | succ k => exact congrArg (· + 1) (ios_inj (as := as) (i := i) nd.2 (by simpa using h1) (by simpa using h2))
section
variable {M0 : Addr → Prop} {F : Fp} {Γ : Gv} {ν : Nu} {H : Hp}
theorem AOks.get : ∀ {vs : List V} {as : List AV} {args : List OV} {j : Nat} {o : OV}, AOks M0 F ν H vs as → toArgs Γ as = some args → args[j]? = some o →
  ∃ v, vs[j]? = some v ∧ ((∃ u x, as[j]? = some (.v u) ∧ derS Γ u = some x ∧ o = .d x ∧ FOk M0 F ν H v u) ∨ ∃ i, as[j]? = some (.io i) ∧ ν[i]? = some (some v) ∧ Γ[i]? = some (some o))
 | _, _, _, j, o, .nil, e, h => by cases e; simp at h
 | _, _, _, j, o, .v (u := u) (as := as) h1 t, e, h => by
  unfold toArgs at e
  split at e
  ·rename_i o' os e1 e2
   cases e
   cases j with
   | zero =>
    simp at h; subst h
    simp only [toArg, Option.map_eq_some_iff] at e1
    obtain ⟨x, ex, rfl⟩ := e1
    exact ⟨_, rfl, .inl ⟨u, x, rfl, ex, rfl, h1⟩⟩
   | succ j =>
    obtain ⟨v, ev, q⟩ := AOks.get (j := j) t e2 (by simpa using h)
    exact ⟨v, by simpa using ev, by simpa using q⟩
  ·cases e
 | _, _, _, j, o, .io (i := i) (as := as) h1 t, e, h => by
  unfold toArgs at e
  split at e
  ·rename_i o' os e1 e2
   cases e
   cases j with
   | zero =>
    simp at h; subst h
    simp only [toArg] at e1
    split at e1
    ·rename_i q
     cases e1
     exact ⟨_, rfl, .inr ⟨i, rfl, h1, q⟩⟩
    ·cases e1
   | succ j =>
    obtain ⟨v, ev, q⟩ := AOks.get (j := j) t e2 (by simpa using h)
    exact ⟨v, by simpa using ev, by simpa using q⟩
  ·cases e
theorem AOks.len : ∀ {vs : List V} {as : List AV}, AOks M0 F ν H vs as → vs.length = as.length
 | _, _, .nil => rfl
 | _, _, .v _ t => by rw [List.length_cons, List.length_cons, AOks.len t]
 | _, _, .io _ t => by rw [List.length_cons, List.length_cons, AOks.len t]
theorem toArgs_len : ∀ {as : List AV} {args : List OV}, toArgs Γ as = some args → args.length = as.length
 | [], _, e => by cases e; rfl
 | a :: as, _, e => by
  unfold toArgs at e
  split at e
  ·rename_i e1 e2
   cases e
   rw [List.length_cons, List.length_cons, toArgs_len e2]
  ·cases e
noncomputable def cM (M0 : Addr → Prop) (F : Fp) (as : List AV) : Addr → Prop := fun a => M0 a ∨ ∃ i, i ∉ ios as ∧ a ∈ F i
noncomputable def cF (F : Fp) (as : List AV) : Fp := fun j => match as[j]? with
 | some (.io i) => F i
 | _ => []
theorem cF_io {as : List AV} {j i : Nat} (h : as[j]? = some (.io i)) : cF F as j = F i := by unfold cF; rw [h]
theorem cF_mem {as : List AV} {j : Nat} {a : Addr} (h : a ∈ cF F as j) : ∃ i, as[j]? = some (.io i) ∧ a ∈ F i := by
 unfold cF at h
 split at h
 ·rename_i i e; exact ⟨i, e, h⟩
 ·cases h
theorem cMM {as : List AV} : MM (cM M0 F as) (cF F as) = MM M0 F := by
 funext a
 apply propext
 constructor
 ·rintro ((h | ⟨i, _, h⟩) | ⟨j, h⟩)
  ·exact .inl h
  ·exact .inr ⟨i, h⟩
  ·obtain ⟨i, _, h⟩ := cF_mem h; exact .inr ⟨i, h⟩
 ·rintro (h | ⟨i, h⟩)
  ·exact .inl (.inl h)
  ·by_cases hi : i ∈ ios as
   ·obtain ⟨j, hj⟩ := mem_ios.mp hi
    exact .inr ⟨j, by rw [cF_io hj]; exact h⟩
   ·exact .inl (.inr ⟨i, hi, h⟩)
theorem call_frame {vs : List V} {as : List AV} {args : List OV} (rs : RS M0 F Γ ν H) (oks : AOks M0 F ν H vs as) (e : toArgs Γ as = some args) (nd : (ios as).Nodup) : RS (cM M0 F as) (cF F as) (args.map some) (vs.map some) H where
 al0 a h := by
  rcases h with h | ⟨i, _, h⟩
  ·exact rs.al0 a h
  ·exact rs.al a (.inr ⟨i, h⟩)
 dis0 j a h := by
  obtain ⟨i, hi, ha⟩ := cF_mem h
  rintro (h0 | ⟨i', hi', ha'⟩)
  ·exact rs.dis0 i a ha h0
  ·have := rs.dis _ _ a ha ha'
   subst this
   exact hi' (mem_ios.mpr ⟨j, hi⟩)
 nd j := by
  unfold cF
  split
  ·exact rs.nd _
  ·exact .nil
 dis j k a h1 h2 := by
  obtain ⟨i, hi, ha⟩ := cF_mem h1
  obtain ⟨i', hi', ha'⟩ := cF_mem h2
  have := rs.dis _ _ a ha ha'
  subst this
  exact ios_inj nd hi hi'
 at' j o ej := by
  rw [List.getElem?_map] at ej
  cases q : args[j]? with
  | none => rw [q] at ej; cases ej
  | some o' =>
   rw [q] at ej
   have eo : o' = o := by simpa using ej
   subst eo
   obtain ⟨v, ev, h⟩ := oks.get e q
   refine ⟨v, by rw [List.getElem?_map, ev]; rfl, ?_⟩
   rw [cMM]
   rcases h with ⟨u, x, ea, ex, rfl, ok⟩ | ⟨i, ea, en, eg⟩
   ·have : cF F as j = [] := by unfold cF; rw [ea]
    rw [this]
    exact .d (ok.strong rs ex)
   ·rw [cF_io ea]
    obtain ⟨v', ev', r⟩ := rs.at' i o' eg
    rw [en] at ev'; cases ev'
    exact r
 emp j h := by
  unfold cF
  split
  ·rename_i i ea
   exfalso
   have hj : j < args.length := by rw [toArgs_len e]; exact (List.getElem?_eq_some_iff.mp ea).1
   exact h args[j] (by rw [List.getElem?_map, List.getElem?_eq_getElem hj]; rfl)
  ·rfl
 len := by rw [List.length_map, List.length_map, oks.len, toArgs_len e]
theorem putBack_get : ∀ {as : List AV} {outs : List (Option OV)} {Γ Γ2 : Gv}, putBack as outs Γ = some Γ2 → (ios as).Nodup → Γ2.length = Γ.length ∧ (∀ i : Nat, i ∉ ios as → Γ2[i]? = Γ[i]?) ∧ ∀ j i : Nat, as[j]? = some (.io i) → ∃ o, outs[j]? = some (some o) ∧ Γ2[i]? = some (some o) ∧ i < Γ.length
 | [], _, Γ, _, e, _ => by
  have : some Γ = some _ := e
  cases this
  exact ⟨rfl, fun _ _ => rfl, fun j i h => by simp at h⟩
 | .v u :: as, [], Γ, _, e, _ => by cases e
 | .v u :: as, x :: os, Γ, Γ2, e, nd => by
  obtain ⟨h0, h1, h2⟩ := putBack_get (as := as) (outs := os) (Γ := Γ) (Γ2 := Γ2) e (by rw [ios] at nd; exact nd)
  refine ⟨h0, fun i hi => h1 i (by rw [ios] at hi; exact hi), fun j i hj => ?_⟩
  cases j with
  | zero => simp at hj
  | succ j =>
   obtain ⟨o, a, b⟩ := h2 j i (by simpa using hj)
   exact ⟨o, by simpa using a, b⟩
 | .io k :: as, [], Γ, _, e, _ => by cases e
 | .io k :: as, none :: os, Γ, _, e, _ => by cases e
 | .io k :: as, some o :: os, Γ, Γ2, e, nd => by
  rw [putBack] at e
  split at e
  ·rename_i hk
   rw [ios, List.nodup_cons] at nd
   obtain ⟨h0, h1, h2⟩ := putBack_get (as := as) (outs := os) e nd.2
   rw [List.length_set] at h0
   refine ⟨h0, fun i hi => ?_, fun j i hj => ?_⟩
   ·rw [ios, List.mem_cons] at hi
    rw [h1 i (fun z => hi (.inr z)), List.getElem?_set_ne (fun z => hi (.inl z.symm))]
   ·cases j with
    | zero =>
     have : k = i := by simpa using hj
     subst this
     refine ⟨o, rfl, ?_, hk⟩
     rw [h1 k nd.1, List.getElem?_set_self hk]
    | succ j =>
     obtain ⟨o', a, b, c⟩ := h2 j i (by simpa using hj)
     exact ⟨o', by simpa using a, b, by simpa using c⟩
  ·cases e
open Classical in
theorem call_back {vs : List V} {as : List AV} {args : List OV} {outs : List (Option OV)} {r : OV} {v : V} {Γ2 : Gv} {ν0 : Nu} {Fc' : Fp} {H' : Hp} {n : Nat} (rs : RS M0 F Γ ν H) (oks : AOks M0 F ν H vs as) (e : toArgs Γ as = some args) (nd : (ios as).Nodup)
  (rc : RS (cM M0 F as) Fc' (outs ++ [some r]) (vs.map some ++ [some v]) H') (sc : Stp (cF F as) H Fc' H') (pb : putBack as outs Γ = some Γ2) (hν : ν0 <+: ν) (hn : ν0.length = n) :
  ∃ F', RS M0 F' (Γ2.take n ++ [some r]) (ν0 ++ [some v]) H' ∧ Stp F H F' H' := by
 obtain ⟨p0, p1, p2⟩ := putBack_get pb nd
 have hol : outs.length = as.length := by have := rc.len; simp [oks.len] at this; omega
 obtain ⟨tl, rfl⟩ := hν
 have hnl : n ≤ Γ.length := by have := rs.len; simp at this; omega
 have htl : (Γ2.take n).length = n := by rw [List.length_take]; omega
 let F' : Fp := fun i => if i < n then (if h : ∃ j : Nat, as[j]? = some (.io i) then Fc' (Classical.choose h) else F i) else if i = n then Fc' as.length else []
 have f1 : ∀ (i j : Nat), i < n → as[j]? = some (.io i) → F' i = Fc' j := fun i j hi hj => by
  show (if i < n then _ else _) = _
  rw [if_pos hi]
  have hex : ∃ j : Nat, as[j]? = some (.io i) := ⟨j, hj⟩
  rw [dif_pos hex, ios_inj nd (Classical.choose_spec hex) hj]
 have f2 : ∀ (i : Nat), i < n → i ∉ ios as → F' i = F i := fun i hi hj => by
  show (if i < n then _ else _) = _
  rw [if_pos hi, dif_neg]
  rintro hex
  exact hj (mem_ios.mpr hex)
 have f3 : F' n = Fc' as.length := by show (if n < n then _ else _) = _; rw [if_neg (Nat.lt_irrefl _), if_pos rfl]
 have f4 : ∀ i, n < i → F' i = [] := fun i hi => by show (if i < n then _ else _) = _; rw [if_neg (by omega), if_neg (by omega)]
 have cls : ∀ i a, a ∈ F' i → (∃ j, i < n ∧ as[j]? = some (.io i) ∧ a ∈ Fc' j) ∨ (i < n ∧ i ∉ ios as ∧ a ∈ F i) ∨ (i = n ∧ a ∈ Fc' as.length) := fun i a h => by
  by_cases hi : i < n
  ·by_cases hj : i ∈ ios as
   ·obtain ⟨j, hj⟩ := mem_ios.mp hj
    rw [f1 i j hi hj] at h
    exact .inl ⟨j, hi, hj, h⟩
   ·rw [f2 i hi hj] at h; exact .inr (.inl ⟨hi, hj, h⟩)
  ·by_cases hj : i = n
   ·subst hj; rw [f3] at h; exact .inr (.inr ⟨rfl, h⟩)
   ·rw [f4 i (by omega)] at h; cases h
 have keepF : ∀ i, i ∉ ios as → ∀ a ∈ F i, H' a = H a := fun i hi a ha => by
  obtain ⟨us, ea⟩ := rs.laidF ha
  rw [ea]
  refine (sc.keep a _ ea fun j hj => ?_).1
  obtain ⟨i', hi', ha'⟩ := cF_mem hj
  have := rs.dis _ _ a ha ha'
  subst this
  exact hi (mem_ios.mpr ⟨j, hi'⟩)
 have st : Stp F H F' H' := ⟨fun b o eb nb => by
  obtain ⟨e1, n1⟩ := sc.keep b o eb fun j hj => let ⟨i, _, ha⟩ := cF_mem hj; nb i ha
  refine ⟨e1, fun i hi => ?_⟩
  rcases cls i b hi with ⟨j, _, _, h⟩ | ⟨_, _, h⟩ | ⟨_, h⟩
  ·exact n1 j h
  ·exact nb i h
  ·exact n1 _ h, sc.tups, sc.stay⟩
 have sub : ∀ b, MM M0 F' b → MM (cM M0 F as) Fc' b := fun b hb => by
  rcases hb with hb | ⟨i, hb⟩
  ·exact .inl (.inl hb)
  ·rcases cls i b hb with ⟨j, _, _, h⟩ | ⟨_, hi, h⟩ | ⟨_, h⟩
   ·exact .inr ⟨j, h⟩
   ·exact .inl (.inr ⟨i, hi, h⟩)
   ·exact .inr ⟨_, h⟩
 have conv : ∀ {w : V} {o : OV} {A : List Addr}, OR (MM (cM M0 F as) Fc') H' w o A → OR (MM M0 F') H' w o A := fun {w o A} q => q.go (fun v d x => x.less fun b hb _ => sub b hb) (fun _ _ e => e) fun _ _ => rfl
 have out : ∀ (j : Nat) (a : Addr), a ∈ Fc' j → ¬ M0 a ∧ ∀ i, i ∉ ios as → a ∉ F i := fun j a ha => by
  have h := rc.dis0 j a ha
  exact ⟨fun z => h (.inl z), fun i hi z => h (.inr ⟨i, hi, z⟩)⟩
 refine ⟨F', ⟨fun a ha => sc.stay a (rs.al0 a ha), fun i a ha => ?_, fun i => ?_, fun i k a h1 h2 => ?_, fun i o ei => ?_, fun i hi => ?_, by simp [htl, hn]⟩, st⟩
 ·rcases cls i a ha with ⟨j, _, _, h⟩ | ⟨_, hi, h⟩ | ⟨_, h⟩
  ·exact (out j a h).1
  ·exact rs.dis0 i a h
  ·exact (out _ a h).1
 ·by_cases hi : i < n
  ·by_cases hj : i ∈ ios as
   ·obtain ⟨j, hj⟩ := mem_ios.mp hj
    rw [f1 i j hi hj]; exact rc.nd j
   ·rw [f2 i hi hj]; exact rs.nd i
  ·by_cases hj : i = n
   ·subst hj; rw [f3]; exact rc.nd _
   ·rw [f4 i (by omega)]; exact .nil
 ·rcases cls i a h1 with ⟨j, hi, ej, z1⟩ | ⟨hi, ni, z1⟩ | ⟨rfl, z1⟩
  ·rcases cls k a h2 with ⟨j', hk, ej', z2⟩ | ⟨hk, nk, z2⟩ | ⟨rfl, z2⟩
   ·have := rc.dis _ _ a z1 z2
    subst this
    rw [ej] at ej'; cases ej'; rfl
   ·exact absurd z2 ((out j a z1).2 k nk)
   ·have := rc.dis _ _ a z1 z2
    subst this
    rw [List.getElem?_eq_none (Nat.le_refl _)] at ej; cases ej
  ·rcases cls k a h2 with ⟨j', hk, ej', z2⟩ | ⟨hk, nk, z2⟩ | ⟨rfl, z2⟩
   ·exact absurd z1 ((out j' a z2).2 i ni)
   ·exact rs.dis _ _ a z1 z2
   ·exact absurd z1 ((out _ a z2).2 i ni)
  ·rcases cls k a h2 with ⟨j', hk, ej', z2⟩ | ⟨hk, nk, z2⟩ | ⟨rfl, z2⟩
   ·have := rc.dis _ _ a z1 z2
    subst this
    rw [List.getElem?_eq_none (Nat.le_refl _)] at ej'; cases ej'
   ·exact absurd z2 ((out _ a z1).2 k nk)
   ·rfl
 ·by_cases hi : i < n
  ·rw [List.getElem?_append_left (by omega), List.getElem?_take_of_lt hi] at ei
   rw [List.getElem?_append_left (by omega)]
   by_cases hj : i ∈ ios as
   ·obtain ⟨j, hj⟩ := mem_ios.mp hj
    obtain ⟨o', eo, eg, _⟩ := p2 j i hj
    rw [eg] at ei
    have eoo : o' = o := by simpa using ei
    subst eoo
    have hjl : j < as.length := (List.getElem?_eq_some_iff.mp hj).1
    obtain ⟨w, ew, q⟩ := rc.at' j o' (by rw [List.getElem?_append_left (by omega)]; exact eo)
    rw [List.getElem?_append_left (by rw [List.length_map, oks.len]; exact hjl), List.getElem?_map] at ew
    have hal : j < args.length := by rw [toArgs_len e]; exact hjl
    obtain ⟨v', ev', hh⟩ := oks.get e (List.getElem?_eq_getElem hal)
    rw [ev'] at ew
    have ew' : v' = w := by simpa using ew
    subst ew'
    rcases hh with ⟨u, x, ea, _⟩ | ⟨i', ea, en, _⟩
    ·rw [hj] at ea; cases ea
    ·rw [hj] at ea; cases ea
     rw [List.getElem?_append_left (by omega)] at en
     exact ⟨v', en, by rw [f1 i j hi hj]; exact conv q⟩
   ·rw [p1 i hj] at ei
    obtain ⟨w, ew, q⟩ := rs.at' i o ei
    rw [List.getElem?_append_left (by omega)] at ew
    refine ⟨w, ew, ?_⟩
    rw [f2 i hi hj]
    exact q.go (fun v d x => rep_stp st rs.al0 x) st.tups (keepF i hj)
  ·have hin : i = n := by
    have := (List.getElem?_eq_some_iff.mp ei).1
    simp [htl] at this; omega
   subst hin
   rw [List.getElem?_append_right (by omega), htl] at ei
   have : r = o := by simpa using ei
   subst this
   refine ⟨v, by rw [List.getElem?_append_right (by omega), hn]; simp, ?_⟩
   rw [f3]
   obtain ⟨w, ew, q⟩ := rc.at' as.length r (by rw [List.getElem?_append_right (by omega), hol]; simp)
   rw [List.getElem?_append_right (by rw [List.length_map, oks.len]; exact Nat.le_refl _), List.length_map, oks.len] at ew
   have : v = w := by simpa using ew
   subst this
   exact conv q
 ·by_cases hlt : i < n
  ·have nj : i ∉ ios as := fun hj => by
    obtain ⟨j, hj⟩ := mem_ios.mp hj
    obtain ⟨o', eo, eg, _⟩ := p2 j i hj
    exact hi o' (by rw [List.getElem?_append_left (by omega), List.getElem?_take_of_lt hlt]; exact eg)
   rw [f2 i hlt nj]
   refine rs.emp i fun o eo => hi o ?_
   rw [List.getElem?_append_left (by omega), List.getElem?_take_of_lt hlt, p1 i nj]; exact eo
  ·by_cases hin : i = n
   ·subst hin
    exact absurd (by rw [List.getElem?_append_right (by omega), htl]; simp) (hi r)
   ·exact f4 i (by omega)
end
noncomputable def fCall (run : List OV → RF) (fl : EM (List AV)) : EM OV := fun Γ => (fl Γ).bind fun (as, Γ1) => match toArgs Γ1 as with
 | none => .bad
 | some args => if (ios as).Nodup then match run args with
  | .ok r outs => match putBack as outs Γ1 with
   | some Γ2 => .ok (r, Γ2.take Γ.length)
   | none => .bad
  | .exc x outs => match putBack as outs Γ1 with
   | some Γ2 => .exc x (Γ2.take Γ.length)
   | none => .bad
  | _ => .bad
  else .bad
theorem call_post {M0 : Addr → Prop} {F : Fp} {Γ : Gv} {ν : Nu} {σ : St} {H : Hp} {run : List OV → RF} {n : Nat} {Q : VK} (rs : RS M0 F Γ ν H) (hrun : Ran n run)
  (hp : OPost M0 F ν σ H XP (fun F' Γ' H' o v => Q v H') (fCall run fl Γ)) : APost M0 F ν σ H XP (fun F1 Γ1 ν1 H1 as => ∀ vs, AOks M0 F1 ν1 H1 vs as → spX X.mg n run vs H1 Q (EX X XP σ)) (fl Γ) := by
 unfold fCall at hp
 generalize fl Γ = ra at hp
 cases ra with
 | bad => exact hp
 | exc x y => exact hp
 | ok z =>
  obtain ⟨as, Γ1⟩ := z
  intro F1 ν1 H1 rs1 hn s1 vs oks
  simp only [R.bind] at hp
  split at hp
  ·exact hp.elim
  ·rename_i args ea
   split at hp
   ·rename_i nd
    have hl : vs.length = n := by
     rw [oks.len, ← toArgs_len ea]
     refine (hrun args).1 fun z => ?_
     rw [z] at hp; exact hp.elim
    refine ⟨hl, cM M0 F1 as, cF F1 as, args, call_frame rs1 oks ea nd, ?_⟩
    split at hp
    ·rename_i r outs er
     rw [er]
     split at hp
     ·rename_i Γ2 eb
      intro F' v H' rc sc
      obtain ⟨F2, rs2, s2⟩ := call_back (n := Γ.length) rs1 oks ea nd rc sc eb hn rs.len
      exact hp F2 H' v rs2 (s1.trans s2)
     ·exact hp.elim
    ·rename_i x outs er
     rw [er]
     split at hp
     ·rename_i Γ2 eb
      intro C hC F' H' rc sc
      obtain ⟨F2, rs2, s2⟩ := call_back (n := Γ.length) rs1 oks ea nd rc sc eb hn rs.len
      obtain ⟨F3, rs3, s3, _⟩ := rs2.dropD
      exact ⟨rfl, x, _, F3, ν, C, hC, rfl, (hrun args).2 x outs er, hp F3 H' rs3 ((s1.trans s2).trans s3)⟩
     ·exact hp.elim
    ·exact hp.elim
   ·exact hp.elim
theorem so_call {x : Str} {k n : Nat} {run : List OV → RF} (px : PxOk X XP) (kn : Kn X.prog X.w X.K X.mg X.base (CX1 X.prog X.w) x k (spX X.mg n run)) (hr : Room k X.A) (hg : Gl X x) (hrun : Ran n run) (hl : SA X XP mp (a :: es) fl)
  (hdb : (x == ("__debug__" : Str)) = false) (he : starEach (a :: es) X.env = (false, eval a X.env) :: starEach es X.env) (hpl : (backTo pos (starEach es X.env)).any (·.1) = false) : SO X XP mp (.Call (.Name x p) (a :: es) [] pos) (fCall run fl) := fun M0 F Γ ν σ H Q rs hs hp =>
 wp_callX (E := EX X XP σ) kn hr hg (fun pins H1 s1 e s' I hx => px.call σ pins H1 s1 e s' _ (fun c dx H' q => q) I hx) (hl M0 F Γ ν σ H _ rs hs (call_post rs hrun hp)) hdb he hpl
theorem so_call0 {x : Str} {k n : Nat} {run : List OV → RF} (px : PxOk X XP) (kn : Kn X.prog X.w X.K X.mg X.base (CX1 X.prog X.w) x k (spX X.mg n run)) (hr : Room k X.A) (hg : Gl X x) (hrun : Ran n run)
  (hdb : (x == ("__debug__" : Str)) = false) : SO X XP mp (.Call (.Name x p) [] [] pos) (fCall run aNil) := fun M0 F Γ ν σ H Q rs hs hp => by
 have h := call_post (X := X) (n := n) rs hrun hp F ν H rs (List.prefix_refl _) (.refl _ _) [] .nil
 exact wp_callX0 kn hr hg (fun pins H1 s1 e s' I hx => px.call σ pins H1 s1 e s' _ (fun c dx H' q => q) I hx) h hdb
end
end L3
namespace L3
open PySem PySem.Spec PyProof.Rows L2
variable [Cs]
inductive FL where
 | next
 | ret (o : OV)
 | brk
 | cnt
noncomputable abbrev SM := Gv → R (FL × Gv)
noncomputable def SPost (M0 : Addr → Prop) (F : Fp) (ν : Nu) (H : Hp) (XP : XPT) (mp : List Nat) (N : Nat) (io : List Nat) (D : Ends) (r : R (FL × Gv)) : Prop := match r with
 | .ok (.next, Γ') => ∀ F' ν' σ' H', RS M0 F' Γ' ν' H' → Stp F H F' H' → Sees mp ν' σ' → σ'.length = N → (∀ i ∈ io, ν'[i]? = ν[i]?) → D.nx σ' H'
 | .ok (.brk, Γ') => ∀ F' ν' σ' H', RS M0 F' Γ' ν' H' → Stp F H F' H' → Sees mp ν' σ' → σ'.length = N → (∀ i ∈ io, ν'[i]? = ν[i]?) → D.bk σ' H'
 | .ok (.cnt, Γ') => ∀ F' ν' σ' H', RS M0 F' Γ' ν' H' → Stp F H F' H' → Sees mp ν' σ' → σ'.length = N → (∀ i ∈ io, ν'[i]? = ν[i]?) → D.ct σ' H'
 | .ok (.ret o, Γ') => ∀ F' ν' v H', RS M0 F' (Γ' ++ [some o]) (ν' ++ [some v]) H' → Stp F H F' H' → (∀ i ∈ io, ν'[i]? = ν[i]?) → D.rt v H'
 | .exc x Γ' => ∀ F' ν' σ' H', RS M0 F' Γ' ν' H' → Stp F H F' H' → Sees mp ν' σ' → σ'.length = N → (∀ i ∈ io, ν'[i]? = ν[i]?) → XP x Γ' F' ν' σ' H'
 | .bad => False
noncomputable def SS (X : Cx) (XP : XPT) (mp : List Nat) (io : List Nat) (st : Stmt) (f : SM) : Prop := ∀ (M0 : Addr → Prop) (F : Fp) (Γ : Gv) (ν : Nu) (σ : St) (H : Hp) (D : Ends), RS M0 F Γ ν H → Sees mp ν σ → σ.length = X.N.length →
 SPost M0 F ν H XP mp X.N.length io D (f Γ) → wpS X st D σ H
noncomputable def SB (X : Cx) (XP : XPT) (mp : List Nat) (io : List Nat) (sts : List Stmt) (f : SM) : Prop := ∀ (M0 : Addr → Prop) (F : Fp) (Γ : Gv) (ν : Nu) (σ : St) (H : Hp) (D : Ends), RS M0 F Γ ν H → Sees mp ν σ → σ.length = X.N.length →
 SPost M0 F ν H XP mp X.N.length io D (f Γ) → wpB X sts D σ H
section
variable {M0 : Addr → Prop} {F F1 : Fp} {Γ : Gv} {ν ν1 : Nu} {σ : St} {H H1 : Hp} {XP : XPT} {mp : List Nat} {N : Nat} {io : List Nat} {D D' : Ends} {r : R (FL × Gv)}
theorem SPost.step (h : SPost M0 F ν H XP mp N io D r) (s1 : Stp F H F1 H1) (hn : ∀ i ∈ io, ν1[i]? = ν[i]?) : SPost M0 F1 ν1 H1 XP mp N io D r := by
 cases r with
 | ok z =>
  obtain ⟨fl, Γ'⟩ := z
  cases fl with
  | next => exact fun F' ν' σ' H' a b c d e => h F' ν' σ' H' a (s1.trans b) c d fun i hi => (e i hi).trans (hn i hi)
  | brk => exact fun F' ν' σ' H' a b c d e => h F' ν' σ' H' a (s1.trans b) c d fun i hi => (e i hi).trans (hn i hi)
  | cnt => exact fun F' ν' σ' H' a b c d e => h F' ν' σ' H' a (s1.trans b) c d fun i hi => (e i hi).trans (hn i hi)
  | ret o => exact fun F' ν' v H' a b e => h F' ν' v H' a (s1.trans b) fun i hi => (e i hi).trans (hn i hi)
 | exc x Γ' => exact fun F' ν' σ' H' a b c d e => h F' ν' σ' H' a (s1.trans b) c d fun i hi => (e i hi).trans (hn i hi)
 | bad => exact h
theorem SPost.seq {α : Type} {r : R (α × Gv)} {k : α × Gv → R (FL × Gv)} (hs : Sees mp ν σ) (hl : σ.length = N) (h : SPost M0 F ν H XP mp N io D (r.bind k)) : EPost M0 F ν σ H XP (fun F1 Γ1 H1 a => SPost M0 F1 ν H1 XP mp N io D (k (a, Γ1))) r := by
 cases r with
 | ok z =>
  obtain ⟨a, Γ1⟩ := z
  intro F1 H1 rs1 s1
  have h' : SPost M0 F ν H XP mp N io D (k (a, Γ1)) := h
  exact h'.step s1 fun _ _ => rfl
 | exc x Γ' => exact fun F' H' rs s => h F' ν σ H' rs s hs hl fun _ _ => rfl
 | bad => exact h
theorem SPost.seqO {r : R (OV × Gv)} {k : OV × Gv → R (FL × Gv)} (hs : Sees mp ν σ) (hl : σ.length = N) (h : SPost M0 F ν H XP mp N io D (r.bind k)) : OPost M0 F ν σ H XP (fun F1 Γ1 H1 o v => SPost M0 F1 ν H1 XP mp N io D (k (o, Γ1))) r := by
 cases r with
 | ok z =>
  obtain ⟨a, Γ1⟩ := z
  intro F1 H1 v rs1 s1
  have h' : SPost M0 F ν H XP mp N io D (k (a, Γ1)) := h
  exact h'.step s1 fun _ _ => rfl
 | exc x Γ' => exact fun F' H' rs s => h F' ν σ H' rs s hs hl fun _ _ => rfl
 | bad => exact h
end
noncomputable def sNext : SM := fun Γ => .ok (.next, Γ)
noncomputable def sSeq (f g : SM) : SM := fun Γ => match f Γ with
 | .ok (.next, Γ1) => g Γ1
 | r => r
section
variable {X : Cx} {XP : XPT} {mp io : List Nat} {a b c e tg iter : Expr} {es : List Expr} {pos p p2 pos' : Pos} {fa fb fc : EM FV} {ta tb : EM Bool} {na nb : EM (List PyData)} {fo : EM OV} {st : Stmt} {sts body els : List Stmt} {f g : SM}
theorem sb_nil : SB X XP mp io [] sNext := fun M0 F Γ ν σ H D rs hs hl hp => pss_nil.wp (hp F ν σ H rs (.refl _ _) hs hl fun _ _ => rfl)
theorem seq_post {M0 : Addr → Prop} {F : Fp} {Γ : Gv} {ν : Nu} {H : Hp} {N : Nat} {D : Ends} {nx : St → Hp → Prop} (hp : SPost M0 F ν H XP mp N io D (sSeq f g Γ))
  (hn : ∀ F1 Γ1 ν1 σ1 H1, RS M0 F1 Γ1 ν1 H1 → Sees mp ν1 σ1 → σ1.length = N → SPost M0 F1 ν1 H1 XP mp N io D (g Γ1) → nx σ1 H1) : SPost M0 F ν H XP mp N io { D with nx := nx } (f Γ) := by
 unfold sSeq at hp
 generalize f Γ = r at hp
 cases r with
 | ok z =>
  obtain ⟨fl, Γ'⟩ := z
  cases fl with
  | next => exact fun F' ν' σ' H' a b c d e => hn F' Γ' ν' σ' H' a c d (hp.step b e)
  | brk => exact hp
  | cnt => exact hp
  | ret o => exact hp
 | exc x Γ' => exact hp
 | bad => exact hp
theorem sb_cons (h1 : SS X XP mp io st f) (h2 : SB X XP mp io sts g) : SB X XP mp io (st :: sts) (sSeq f g) := fun M0 F Γ ν σ H D rs hs hl hp =>
 (pss_cons ps_self pss_self).wp (h1 M0 F Γ ν σ H _ rs hs hl (seq_post hp fun F1 Γ1 ν1 σ1 H1 rs1 hs1 hl1 h => h2 M0 F1 Γ1 ν1 σ1 H1 D rs1 hs1 hl1 h))
theorem ss_pass : SS X XP mp io (.Pass pos) sNext := fun M0 F Γ ν σ H D rs hs hl hp => ps_pass.wp (hp F ν σ H rs (.refl _ _) hs hl fun _ _ => rfl)
noncomputable def sBad : SM := fun _ => .bad
theorem ss_bad : SS X XP mp io st sBad := fun M0 F Γ ν σ H D rs hs hl hp => hp.elim
noncomputable def fD (fa : EM FV) : EM OV := fun Γ => (fa Γ).bind fun (u, Γ1) => match derS Γ1 u with
 | some x => .ok (.d x, Γ1)
 | none => .bad
theorem RS.newD {M0 : Addr → Prop} {F : Fp} {Γ : Gv} {ν : Nu} {H : Hp} {v : V} {x : PyData} (r : RS M0 F Γ ν H) (q : Rep (MM M0 F) H v x) : RS M0 F (Γ ++ [some (.d x)]) (ν ++ [some v]) H := by
 have he : F Γ.length = [] := r.emp _ fun o e => by
  rw [List.getElem?_eq_none (Nat.le_refl _)] at e; cases e
 refine ⟨r.al0, r.dis0, r.nd, r.dis, fun j o e => ?_, fun j h => ?_, by simp [r.len]⟩
 ·by_cases hj : j < Γ.length
  ·rw [List.getElem?_append_left hj] at e
   obtain ⟨w, e1, z⟩ := r.at' j o e
   exact ⟨w, by rw [List.getElem?_append_left (by rw [r.len]; exact hj)]; exact e1, z⟩
  ·have hj' : j = Γ.length := by
    have := (List.getElem?_eq_some_iff.mp e).1
    simp at this; omega
   subst hj'
   rw [List.getElem?_append_right (Nat.le_refl _)] at e
   have : (OV.d x) = o := by simpa using e
   subst this
   refine ⟨v, by rw [List.getElem?_append_right (by rw [r.len]; exact Nat.le_refl _), r.len]; simp, ?_⟩
   rw [he]; exact .d q
 ·refine r.emp j fun o e => h o ?_
  rw [List.getElem?_append_left (List.getElem?_eq_some_iff.mp e).1]; exact e
theorem SE.so (h : SE X XP mp a fa) : SO X XP mp a (fD fa) := fun M0 F Γ ν σ H Q rs hs hp =>
 h M0 F Γ ν σ H Q rs hs (hp.seq.mono fun F1 Γ1 H1 u rs1 s1 h1 v hv => by
  dsimp only at h1
  split at h1
  ·rename_i x e
   exact h1 F1 H1 v (rs1.newD (hv.strong rs1 e)) (.refl _ _)
  ·exact h1.elim)
noncomputable def fMove (i : Nat) : EM OV := fun Γ => match Γ[i]? with
 | some (some o) => .ok (o, Γ.set i none)
 | _ => .bad
theorem RS.take {M0 : Addr → Prop} {F : Fp} {Γ : Gv} {ν : Nu} {H : Hp} {i : Nat} {o : OV} (r : RS M0 F Γ ν H) (e : Γ[i]? = some (some o)) : ∃ F' v, ν[i]? = some (some v) ∧ RS M0 F' (Γ.set i none ++ [some o]) (ν ++ [some v]) H ∧ Stp F H F' H := by
 obtain ⟨v, ev, q⟩ := r.at' i o e
 have hi := (List.getElem?_eq_some_iff.mp e).1
 let F' : Fp := fun j => if j = i then [] else if j = Γ.length then F i else F j
 have g1 : F' i = [] := by show (if i = i then _ else _) = _; rw [if_pos rfl]
 have g2 : F' Γ.length = F i := by show (if Γ.length = i then _ else _) = _; rw [if_neg (by omega), if_pos rfl]
 have g3 : ∀ j, j ≠ i → j ≠ Γ.length → F' j = F j := fun j h1 h2 => by show (if j = i then _ else _) = _; rw [if_neg h1, if_neg h2]
 have cls : ∀ j a, a ∈ F' j → (j = Γ.length ∧ a ∈ F i) ∨ (j ≠ i ∧ j ≠ Γ.length ∧ a ∈ F j) := fun j a h => by
  by_cases h1 : j = i
  ·subst h1; rw [g1] at h; cases h
  ·by_cases h2 : j = Γ.length
   ·subst h2; rw [g2] at h; exact .inl ⟨rfl, h⟩
   ·rw [g3 j h1 h2] at h; exact .inr ⟨h1, h2, h⟩
 have st : Stp F H F' H := stp_sub fun j a h => by
  rcases cls j a h with ⟨_, h⟩ | ⟨_, _, h⟩
  ·exact ⟨_, h⟩
  ·exact ⟨_, h⟩
 refine ⟨F', v, ev, ⟨r.al0, fun j a h => ?_, fun j => ?_, fun j k a h1 h2 => ?_, fun j p ej => ?_, fun j h => ?_, by simp [r.len]⟩, st⟩
 ·rcases cls j a h with ⟨_, h⟩ | ⟨_, _, h⟩
  ·exact r.dis0 _ a h
  ·exact r.dis0 _ a h
 ·by_cases h1 : j = i
  ·subst h1; rw [g1]; exact .nil
  ·by_cases h2 : j = Γ.length
   ·subst h2; rw [g2]; exact r.nd _
   ·rw [g3 j h1 h2]; exact r.nd _
 ·rcases cls j a h1 with ⟨e1, z1⟩ | ⟨n1, m1, z1⟩
  ·rcases cls k a h2 with ⟨e2, z2⟩ | ⟨n2, m2, z2⟩
   ·rw [e1, e2]
   ·exact absurd (r.dis _ _ a z2 z1) n2
  ·rcases cls k a h2 with ⟨e2, z2⟩ | ⟨n2, m2, z2⟩
   ·exact absurd (r.dis _ _ a z1 z2) n1
   ·exact r.dis _ _ a z1 z2
 ·have hsl : (Γ.set i none).length = Γ.length := by simp
  by_cases hj : j < Γ.length
  ·rw [List.getElem?_append_left (by omega)] at ej
   by_cases hji : j = i
   ·subst hji; rw [List.getElem?_set_self hi] at ej; cases ej
   ·rw [List.getElem?_set_ne (Ne.symm hji)] at ej
    obtain ⟨w, ew, z⟩ := r.at' j p ej
    refine ⟨w, by rw [List.getElem?_append_left (by rw [r.len]; exact hj)]; exact ew, ?_⟩
    rw [g3 j hji (by omega)]
    exact z.go (fun _ _ x => rep_stp st r.al0 x) st.tups fun _ _ => rfl
  ·have hj' : j = Γ.length := by
    have := (List.getElem?_eq_some_iff.mp ej).1
    simp at this; omega
   subst hj'
   rw [List.getElem?_append_right (by omega), hsl] at ej
   have : o = p := by simpa using ej
   subst this
   refine ⟨v, by rw [List.getElem?_append_right (by rw [r.len]; exact Nat.le_refl _), r.len]; simp, ?_⟩
   rw [g2]
   exact q.go (fun _ _ x => rep_stp st r.al0 x) st.tups fun _ _ => rfl
 ·by_cases h1 : j = i
  ·subst h1; exact g1
  ·by_cases h2 : j = Γ.length
   ·subst h2
    exact absurd (by rw [List.getElem?_append_right (by simp)]; simp) (h o)
   ·rw [g3 j h1 h2]
    refine r.emp j fun p ep => h p ?_
    rw [List.getElem?_append_left (by simpa using (List.getElem?_eq_some_iff.mp ep).1), List.getElem?_set_ne (Ne.symm h1)]; exact ep
theorem so_move {s i : Nat} {x : Str} (hN : X.N[s]? = some x) (hv : Vis X.env.scope x) (hm : mp[s]? = some i) (hd : (x == ("__debug__" : Str)) = false) (hcd : (x == ("__classdict__" : Str)) = false) :
  SO X XP mp (.Name x pos) (fMove i) := fun M0 F Γ ν σ H Q rs hs hp => by
 unfold fMove at hp
 split at hp
 ·rename_i o q
  obtain ⟨F', v, e1, rs1, s1⟩ := rs.take q
  exact (pe_var hN hv hd hcd).wp ⟨v, hs s i v hm e1, hp F' H v rs1 s1⟩
 ·exact hp.elim
noncomputable def sRet (fo : EM OV) : SM := fun Γ => (fo Γ).bind fun (o, Γ1) => .ok (.ret o, Γ1)
theorem ss_ret (h : SO X XP mp e fo) : SS X XP mp io (.Return (some e) pos) (sRet fo) := fun M0 F Γ ν σ H D rs hs hl hp =>
 (ps_ret pe_self).wp (h M0 F Γ ν σ H _ rs hs ((SPost.seqO hs hl hp).mono fun F1 Γ1 H1 o v rs1 s1 h1 => h1 F1 ν v H1 rs1 (.refl _ _) fun _ _ => rfl))
noncomputable def sRetN : SM := fun Γ => .ok (.ret (.d .none), Γ)
noncomputable def SOt (XP : XPT) (mp : List Nat) (t : TE) (f : EM OV) : Prop := ∀ (M0 : Addr → Prop) (F : Fp) (Γ : Gv) (ν : Nu) (σ : St) (H : Hp) (Q : VK), RS M0 F Γ ν H → Sees mp ν σ →
 OPost M0 F ν σ H XP (fun F' Γ' H' o v => Q v H') (f Γ) → t σ H Q
theorem SNt.so {t : TE} (h : SNt XP mp t na) : SOt XP mp t (fOwn na) := fun M0 F Γ ν σ H Q rs hs hp =>
 h M0 F Γ ν σ H Q rs hs (hp.seq.mono fun F1 Γ1 H1 ds rs1 s1 h1 vs p r n => by
  obtain ⟨r2, s2⟩ := rs1.newO n r
  exact h1 _ _ _ r2 s2)
theorem SNt.sd {t : TE} (h : SNt XP mp t na) : SOt XP mp t (fD (fNew na)) := fun M0 F Γ ν σ H Q rs hs hp =>
 h M0 F Γ ν σ H Q rs hs (by
  have hp' : OPost M0 F ν σ H XP (fun F' Γ' H' o v => Q v H') ((na Γ).bind fun (ds, Γ1) => .ok (.d (.list ds), Γ1)) := by
   have e : fD (fNew na) Γ = (na Γ).bind fun (ds, Γ1) => .ok (.d (.list ds), Γ1) := by
    unfold fD fNew
    cases na Γ <;> rfl
   rw [← e]; exact hp
  exact hp'.seq.mono fun F1 Γ1 H1 ds rs1 s1 h1 vs p r n => by
   have s2 : Same H1 (upd H1 p (.lst vs)) := upd_new n
   exact h1 F1 _ _ ((rs1.same s2).newD (Rep.list upd_same (fun z => rs1.al p z n) (r.grow s2.grow))) (.same s2))
noncomputable def sAsg (io : List Nat) (i : Nat) (fo : EM OV) : SM := fun Γ => (fo Γ).bind fun (o, Γ1) => if i < Γ1.length ∧ i ∉ io then .ok (.next, Γ1.set i (some o)) else .bad
theorem ss_asgT {s i : Nat} {t : TE} (hps : PS X st (tAsg t (gName s))) (hn : mp.Nodup) (hm : mp[s]? = some i) (hsl : s < X.N.length) (h : SOt XP mp t fo) : SS X XP mp io st (sAsg io i fo) := fun M0 F Γ ν σ H D rs hs hl hp =>
 hps.wp (h M0 F Γ ν σ H _ rs hs ((SPost.seqO hs hl hp).mono fun F1 Γ1 H1 o v rs1 s1 h1 => by
  dsimp only at h1
  split at h1
  ·rename_i hh
   obtain ⟨F2, rs2, s2⟩ := rs1.move hh.1
   exact h1 F2 _ _ H1 rs2 s2 (hs.set hn hm (by rw [hl]; exact hsl)) (by simpa using hl) fun j hj => by
    rw [List.getElem?_set_ne (fun z => hh.2 (by rw [z]; exact hj))]
  ·exact h1.elim))
theorem ss_asg {s i : Nat} {x : Str} (hN : X.N.Nodup) (hi : X.N[s]? = some x) (hx : Loc X.env.scope x) (hf : X.fn x = true ∨ X.env.scope.names.lookup x = some .local) (hn : mp.Nodup) (hm : mp[s]? = some i) (h : SO X XP mp e fo)
  (hsw : swapsWith e (some (.Name x pos')) pos.line X.env = pure false) : SS X XP mp io (.Assign [.Name x pos'] e pos) (sAsg io i fo) :=
 ss_asgT (ps_set hN hi hx pe_self hsw hf) hn hm (List.getElem?_eq_some_iff.mp hi).1 h
noncomputable def sAsgT (t : IT) (fa : EM FV) : SM := fun Γ => (fa Γ).bind fun (u, Γ1) => match derS Γ1 u with
 | some x => match tgF t x Γ1 with
  | some Γ2 => .ok (.next, Γ2)
  | none => .bad
 | none => .bad
noncomputable def sExpr (fa : EM FV) : SM := fun Γ => (fa Γ).bind fun (_, Γ1) => .ok (.next, Γ1)
noncomputable def sIf (t : EM Bool) (f g : SM) : SM := fun Γ => (t Γ).bind fun (b, Γ1) => if b then f Γ1 else g Γ1
theorem ss_if (hc : ST X XP mp c ta) (ha : SB X XP mp io body f) (hb : SB X XP mp io els g) : SS X XP mp io (.If c body els pos) (sIf ta f g) := fun M0 F Γ ν σ H D rs hs hl hp =>
 (ps_if pt_self pss_self pss_self).wp (hc M0 F Γ ν σ H _ rs hs ((SPost.seq hs hl hp).mono fun F1 Γ1 H1 b rs1 s1 h1 => by
  cases b with
  | true => exact iteT (ha M0 F1 Γ1 ν σ H1 D rs1 hs hl h1)
  | false => exact iteF (hb M0 F1 Γ1 ν σ H1 D rs1 hs hl h1)))
noncomputable def loopF (t : IT) (body : SM) : List PyData → Gv → R (FL × Gv)
 | [], Γ => .ok (.next, Γ)
 | d :: ds, Γ => match tgF t d Γ with
  | none => .bad
  | some Γ1 => match body Γ1 with
   | .ok (.next, Γ2) => loopF t body ds Γ2
   | .ok (.cnt, Γ2) => loopF t body ds Γ2
   | .ok (.brk, Γ2) => .ok (.next, Γ2)
   | r => r
noncomputable def sFor (t : IT) (src : EM (List PyData)) (body : SM) : SM := fun Γ => (src Γ).bind fun (ds, Γ1) => loopF t body ds Γ1
theorem ss_for {t : IT} {src : EM (List PyData)} (hpo : PassesOwn (model X.prog X.w) X.A X.env X.xe) (hc : X.calm = true) (hi : SI X XP mp tg iter src) (hg : SG X mp (· ∈ io) tg t) (hb : SB X XP mp io body f)
  (hf : ∀ x, foldedSetIterable iter X.env x = pure x) : SS X XP mp io (.For tg iter body [] pos) (sFor t src f) := fun M0 F Γ ν σ H D rs hs hl hp => by
 refine (ps_for hpo hc pi_self pg_self pss_self hf).wp (hi M0 F Γ ν σ H _ rs hs ((SPost.seq hs hl hp).mono fun F1 Γ1 H1 ds rs1 s1 h1 J hJ => ?_))
 dsimp only at h1
 refine ⟨fun i m σ' H' => m = ds.length - i ∧ i ≤ ds.length ∧ ∃ F' Γ' ν', RS M0 F' Γ' ν' H' ∧ Stp F1 H1 F' H' ∧ Sees mp ν' σ' ∧ σ'.length = X.N.length ∧ SPost M0 F' ν' H' XP mp X.N.length io D (loopF t f (ds.drop i) Γ'), ⟨ds.length, by simp, Nat.zero_le _, F1, Γ1, ν, rs1, .refl _ _, hs, hl, h1⟩, ?_⟩
 rintro i m σ' H' ⟨rfl, hil, F', Γ', ν', rs', st', hs', hl', hp'⟩
 obtain ⟨jgo, jst⟩ := hJ i F' H' st' rs1.al0
 by_cases hlt : i < ds.length
 ·obtain ⟨go, yl⟩ := jgo ds[i] (by simp [hlt])
  rw [List.drop_eq_getElem_cons hlt, loopF] at hp'
  refine .inr ⟨go, fun σ2 H2 => ∃ F2 Γ2 ν2, RS M0 F2 Γ2 ν2 H2 ∧ Stp F1 H1 F2 H2 ∧ Sees mp ν2 σ2 ∧ σ2.length = X.N.length ∧ SPost M0 F2 ν2 H2 XP mp X.N.length io D (loopF t f (ds.drop (i + 1)) Γ2), fun σ2 H2 h => ⟨ds.length - (i + 1), by omega, rfl, hlt, h⟩, fun x H2 hy => ?_⟩
  obtain ⟨s2, rx⟩ := yl x H2 hy
  cases et : tgF t ds[i] Γ' with
  | none => rw [et] at hp'; exact hp'.elim
  | some Γ2 =>
   rw [et] at hp'
   dsimp only at hp'
   refine hg M0 F' Γ' Γ2 ν' σ' H2 x ds[i] _ (rs'.same s2) hs' hl' rx et fun F3 ν3 σ3 rs3 s3 hs3 hl3 n3 m3 => ?_
   have sA : Stp F' H' F3 H2 := (Stp.same s2).trans s3
   refine hb M0 F3 Γ2 ν3 σ3 H2 _ rs3 hs3 hl3 ?_
   cases ef : f Γ2 with
   | bad => rw [ef] at hp'; exact hp'.elim
   | exc xx yy =>
    rw [ef] at hp'
    exact hp'.step sA n3
   | ok z =>
    obtain ⟨fl, Γ4⟩ := z
    rw [ef] at hp'
    cases fl with
    | next => exact fun F4 ν4 σ4 H4 a b c d e => ⟨F4, Γ4, ν4, a, (st'.trans sA).trans b, c, d, hp'.step (sA.trans b) fun i hi => (e i hi).trans (n3 i hi)⟩
    | cnt => exact fun F4 ν4 σ4 H4 a b c d e => ⟨F4, Γ4, ν4, a, (st'.trans sA).trans b, c, d, hp'.step (sA.trans b) fun i hi => (e i hi).trans (n3 i hi)⟩
    | brk => exact fun F4 ν4 σ4 H4 a b c d e => hp' F4 ν4 σ4 H4 a (sA.trans b) c d fun i hi => (e i hi).trans (n3 i hi)
    | ret o => exact fun F4 ν4 v4 H4 a b e => hp' F4 ν4 v4 H4 a (sA.trans b) fun i hi => (e i hi).trans (n3 i hi)
 ·have e : i = ds.length := by omega
  subst e
  rw [List.drop_length, loopF] at hp'
  exact .inl ⟨jst (Nat.le_refl _), hp' F' ν' σ' H' rs' (.refl _ _) hs' hl' fun _ _ => rfl⟩
theorem own_at {M0 : Addr → Prop} {F : Fp} {Γ : Gv} {ν : Nu} {H : Hp} {i : Nat} {xs : List OV} (rs : RS M0 F Γ ν H) (e : Γ[i]? = some (some (.l xs))) : ∃ a vs A, ν[i]? = some (some (.ref a)) ∧ H a = some (.lst vs) ∧ ORL (MM M0 F) H vs xs A ∧ F i = a :: A ∧ A.Nodup := by
 obtain ⟨v, ev, q⟩ := rs.at' i _ e
 have nd := rs.nd i
 generalize hA : F i = A at q
 rw [hA] at nd
 cases q with
 | l ea qa => exact ⟨_, _, _, ev, ea, qa, rfl, (List.nodup_cons.mp nd).2⟩
theorem mut_at {M0 : Addr → Prop} {F : Fp} {Γ : Gv} {ν : Nu} {H : Hp} {i : Nat} {xs xs' : List OV} {a : Addr} {vs vs' : List V} (rs : RS M0 F Γ ν H) (e : Γ[i]? = some (some (.l xs))) (en : ν[i]? = some (some (.ref a))) (eh : H a = some (.lst vs))
  (h : ∀ A, ORL (MM M0 F) H vs xs A → ORL (MM M0 F) H vs' xs' A) : ∃ F', RS M0 F' (Γ.set i (some (.l xs'))) ν (upd H a (.lst vs')) ∧ Stp F H F' (upd H a (.lst vs')) :=
 rs.mut (xs' := xs') (vs := vs') e en fun us A eu qa eF => by
  rw [eh] at eu; cases eu
  have nd := rs.nd i
  rw [eF] at nd
  exact ⟨A, fun _ h => h, (List.nodup_cons.mp nd).2, h A qa⟩
noncomputable def isOwn (Γ : Gv) (i : Nat) : Bool := match Γ[i]? with
 | some (some (.l _)) => true
 | _ => false
theorem isOwn_ex {Γ : Gv} {i : Nat} (h : isOwn Γ i = true) : ∃ xs, Γ[i]? = some (some (.l xs)) := by
 unfold isOwn at h
 split at h
 ·rename_i xs e; exact ⟨xs, e⟩
 ·cases h
structure NmK (X : Cx) (mp : List Nat) (s i : Nat) (x : Str) : Prop where
 hN : X.N[s]? = some x
 hv : Vis X.env.scope x
 hm : mp[s]? = some i
 hd : (x == ("__debug__" : Str)) = false
 hcd : (x == ("__classdict__" : Str)) = false
noncomputable def sApp (i : Nat) (fa : EM FV) : SM := fun Γ => if isOwn Γ i then (fa Γ).bind fun (u, Γ1) => match derS Γ1 u, Γ1[i]? with
 | some x, some (some (.l xs)) => if xs.length < 1000000 then .ok (.next, Γ1.set i (some (.l (xs ++ [.d x])))) else .bad
 | _, _ => .bad
 else .bad
theorem ss_app {s i : Nat} {x : Str} (n : NmK X mp s i x) (ha : SE X XP mp a fa) (hst : starEach [a] X.env = [(false, eval a X.env)]) (hline : (p2.endLine == pos.line) = true) :
  SS X XP mp io (.Expr (.Call (.Attribute (.Name x p) "append" p2) [a] [] pos) pos') (sApp i fa) := fun M0 F Γ ν σ H D rs hs hl hp => by
 unfold sApp at hp
 split at hp
 ·rename_i hw
  obtain ⟨xs0, e0⟩ := isOwn_ex hw
  obtain ⟨a0, vs0, A0, en0, eh0, q0, _, _⟩ := own_at rs e0
  refine (ps_expr (pe_bm PySem.F.plainAttrs_list PySem.F.slot_list_append PySem.F.type_list_append mt_append (pe_var n.hN n.hv n.hd n.hcd) (pa_cons pe_self pa_nil hst) rfl (by rw [hst]; rfl) hline hst rfl) rfl).wp ⟨.ref a0, hs s i _ n.hm en0, .inl ⟨rfl, _, SqL.of eh0⟩, ?_⟩
  refine ha M0 F Γ ν σ H _ rs hs ((SPost.seq hs hl hp).mono fun F1 Γ1 H1 u rs1 s1 h1 v hv => ?_)
  dsimp only at h1
  split at h1
  ·rename_i y xs ey ex
   split at h1
   ·rename_i hz
    obtain ⟨a1, vs1, A1, en1, eh1, q1, _, _⟩ := own_at rs1 ex
    rw [en0] at en1
    cases en1
    refine ⟨a0, vs1, v, rfl, rfl, eh1, by have := sizeLine_eq; rw [q1.length]; omega, ?_⟩
    obtain ⟨F2, rs2, s2⟩ := mut_at rs1 ex en0 eh1 fun A qa => qa.snoc (hv.strong rs1 ey)
    exact h1 F2 ν σ _ rs2 s2 hs hl fun _ _ => rfl
   ·exact h1.elim
  ·exact h1.elim
 ·exact hp.elim
noncomputable def sSet (i : Nat) (fi fv : EM FV) : SM := fun Γ => (fv Γ).bind fun (u, Γ1) => if isOwn Γ1 i then (fi Γ1).bind fun (w, Γ2) => match derS Γ2 u, derf Γ2 w, Γ2[i]? with
 | some x, some (.int k), some (some (.l xs)) => match ixN xs.length k with
  | some j => match xs[j]? with
   | some (.d _) => .ok (.next, Γ2.set i (some (.l (xs.set j (.d x)))))
   | _ => .bad
  | none => .bad
 | _, _, _ => .bad
 else .bad
theorem ss_set {s i : Nat} {x : Str} (n : NmK X mp s i x) (hi : SE X XP mp b fb) (hv : SE X XP mp a fa) (hsw : swapsWithSole [.Subscript (.Name x p) b p2] a pos.line X.env = pure false) (hw : swappedStores [.Subscript (.Name x p) b p2] a X.env = pure none)
  (hps : ∀ {te : TE} {g : TG}, PE X a te → PG X (.Subscript (.Name x p) b p2) g → PS X (.Assign [.Subscript (.Name x p) b p2] a pos) (tAsg te g)) (hpg : ∀ {to ti : TE} {t : TSet}, PE X (.Name x p) to → PE X b ti → PSet X t → PG X (.Subscript (.Name x p) b p2) (gSub to ti t)) :
  SS X XP mp io (.Assign [.Subscript (.Name x p) b p2] a pos) (sSet i fb fa) := fun M0 F Γ ν σ H D rs hs hl hp => by
 refine (hps pe_self (hpg (pe_var n.hN n.hv n.hd n.hcd) pe_self set_list)).wp (hv M0 F Γ ν σ H _ rs hs ((SPost.seq hs hl hp).mono fun F1 Γ1 H1 u rs1 s1 h1 v ov => ?_))
 dsimp only at h1
 split at h1
 ·rename_i hw
  obtain ⟨xs0, e0⟩ := isOwn_ex hw
  obtain ⟨a0, vs0, A0, en0, eh0, q0, _, _⟩ := own_at rs1 e0
  refine ⟨.ref a0, hs s i _ n.hm en0, ?_⟩
  refine hi M0 F1 Γ1 ν σ H1 _ rs1 hs ((SPost.seq hs hl h1).mono fun F2 Γ2 H2 w rs2 s2 h2 vi oi => ?_)
  dsimp only at h2
  split at h2
  ·rename_i y k xs ey ek ex
   split at h2
   ·rename_i j ej
    split at h2
    ·rename_i z ez
     obtain ⟨a1, vs1, A1, en1, eh1, q1, _, _⟩ := own_at rs2 ex
     rw [en0] at en1
     cases en1
     cases oi.weak rs2 ek
     refine ⟨a0, vs1, k, j, rfl, rfl, eh1, by rw [q1.length]; exact ej, ?_⟩
     obtain ⟨F3, rs3, s3⟩ := mut_at rs2 ex en0 eh1 fun A qa => qa.setD ((ov.stp s2 rs1.al0).strong rs2 ey) ez
     exact h2 F3 ν σ _ rs3 s3 hs hl fun _ _ => rfl
    ·exact h2.elim
   ·exact h2.elim
  ·exact h2.elim
 ·exact h1.elim
noncomputable def derfs (Γ : Gv) : List FV → Option (List PyData)
 | [] => some []
 | u :: us => match derf Γ u, derfs Γ us with
  | some x, some xs => some (x :: xs)
  | _, _ => none
theorem FOks.weak {M0 : Addr → Prop} {F : Fp} {Γ : Gv} {ν : Nu} {H : Hp} (rs : RS M0 F Γ ν H) : ∀ {vs : List V} {us : List FV} {ds : List PyData}, FOks M0 F ν H vs us → derfs Γ us = some ds → RepL Nothing H vs ds
 | _, _, _, .nil, e => by cases e; exact .nil
 | _, _, _, .cons h t, e => by
  unfold derfs at e
  split at e
  ·rename_i e1 e2
   cases e
   exact .cons (h.weak rs e1) (FOks.weak rs t e2)
  ·cases e
noncomputable def fCallW (run : List OV → RF) (fl : EM (List FV)) : EM FV := fun Γ => (fl Γ).bind fun (us, Γ1) => match derfs Γ1 us with
 | none => .bad
 | some ds => match run (ds.map .d) with
  | .ok (.d x) _ => if noL x then .ok (.dat x, Γ1) else .bad
  | _ => .bad
end
end L3
namespace L2
open PySem PySem.Spec PyProof.Rows
variable [Cs]
section
variable {X : Cx} {pins : List (Addr × Obj)} {σ : List (Option V)} {H : Hp} {s : Shared} {h' : Heap}
theorem Inv.turnedL {t' : Nat} {ch : List Addr} (I : Inv X pins σ H s) (k : ∀ b o, b ∉ ch → s.heap.get? b = some o → h'.get? b = some o) (there : ∀ b o, b ∈ ch → s.heap.get? b = some o → ∃ o', h'.get? b = some o') (hf : ∀ b ∈ ch, FpOk X pins H b) : Inv X pins σ H { s with heap := h', toks := t' } := by
 have nit : ∀ b u, H b = some u → b ∉ ch := fun b u e z => by rw [(hf b z).1] at e; cases e
 refine I.step (g' := s.gens) (d' := s.drawn) (ch := ch) (fun b hb => ?_) (fun b o _ _ hc e _ => k b o hc e) (fun b o _ _ hc e _ => ⟨o.slots, k b o hc e⟩) (fun _ _ _ _ n => n)
  (fun b o hc e => ⟨o, k b o hc e⟩) (fun _ _ e => e) (fun _ _ _ e => e) (fun b ps e => ⟨#[], by rw [e]; simp⟩) (fun m hm => ?_) (fun b u e => ?_) I.bare
 ·obtain ⟨f0, f1, f2, f3, f4, f5⟩ := hf b hb
  exact ⟨f3, f1, f4, f5⟩
 ·obtain ⟨o, es, ep, ho, r⟩ := hm
  exact ⟨o, es, ep, k _ o (fun z => (hf _ z).2.1 rfl) ho, r⟩
 ·refine (I.hok b u e).stay (fun c v hc q => k c v ?_ q) (fun _ q => q) fun _ _ q => q
  rcases hc with z | z
  ·rw [z]; exact nit b u e
  ·exact nit c _ z
end
noncomputable def Ite (K : PySem.W.Frag) (a : Addr) : It :=
 ⟨fun i H => ∃ xs x, SqL K H a xs ∧ xs[i]? = some x, fun i H x H' => ∃ p y, H p = none ∧ H' = upd H p (.tup [.int i, y]) ∧ x = .ref p ∧ ∀ xs, SqL K H a xs → xs[i]? = some y, fun i H => ∃ xs, SqL K H a xs ∧ xs.length ≤ i⟩
theorem turn_enum {P : Program} {w : World} {K : PySem.W.Frag} {elts : List Expr} {x1 : Nat} {pos : Pos} (a e it : Addr) (hei : e ≠ it) : Turn P w K (.Tuple elts x1 pos) (Ite K a) [e, it] e (fun i h => (∃ old, IsEnum h e it i old) ∧ h.IsListIter it a i) where
 mem := by simp
 obj := fun i h st b hb => by
  obtain ⟨⟨old, he⟩, hit⟩ := st
  rcases List.mem_cons.mp hb with rfl | hb
  ·exact ⟨_, he, fun v z => by cases z⟩
  ·have eb : b = it := by simpa using hb
   subst eb
   obtain ⟨o, e, c, d⟩ := hit
   exact ⟨o, e, fun v z => by rw [d] at z; cases z⟩
 keep := fun i h h' st k => by
  obtain ⟨⟨old, he⟩, hit⟩ := st
  exact ⟨⟨old, k e (by simp) _ he⟩, hit.at fun o q => k it (by simp) o q⟩
 item := by
  intro X hP hw hK hc i pins s σ H E I hf st hg
  subst hP hw hK
  obtain ⟨⟨old, he⟩, hit⟩ := st
  obtain ⟨xs, x, hq, hx⟩ := hg
  obtain ⟨its, rv, p, hz⟩ := I.list hq
  obtain ⟨u, hu, ru⟩ := rv.get hx
  have helt : e < s.heap.objs.size := Heap.lt_size he
  have hilt : it < s.heap.objs.size := by obtain ⟨_, q, _⟩ := hit; exact Heap.lt_size q
  refine wpAny_pyNext_enum_item he hit p.isList (x := u) (by simpa using hu) hei fun h1 ho hit1 hT hsz hk => ⟨.ref s.heap.objs.size, rfl, wpAny_letOwnedTupleGo_enum ho fun h2 he2 hs2 => ?_⟩
  have keep2 : ∀ b o, b ≠ e → b ≠ it → s.heap.get? b = some o → h2.get? b = some o := fun b o h1' h2' q => (hs2.2 b h1').trans (hk b o h1' h2' q)
  have hit2 : h2.IsListIter it a (i + 1) := hit1.at fun o q => (hs2.2 it (Ne.symm hei)).trans q
  have I1 : Inv X pins σ H { s with heap := h2, toks := s.toks + 1 } := I.turnedL (ch := [e, it]) (fun b o hb q => keep2 b o (fun z => hb (by simp [z])) (fun z => hb (by simp [z])) q) (fun b o hb q => by
   rcases List.mem_cons.mp hb with rfl | hb
   ·exact ⟨_, he2⟩
   ·have eb : b = it := by simpa using hb
    subst eb
    obtain ⟨o', q', _⟩ := hit2
    exact ⟨o', q'⟩) hf
  have hTn : H s.heap.objs.size = none := I.hok.fresh (Nat.le_refl _)
  have hT2 : h2.get? s.heap.objs.size = some { cls := .type "tuple", data := .seq #[.int i s.toks, u] } := (hs2.2 _ (Nat.ne_of_gt helt)).trans hT
  have I2 : Inv X pins σ (upd H s.heap.objs.size (.tup [.int i, x])) { s with heap := h2, toks := s.toks + 1 } := I1.track I.sz hTn (Ne.symm (Nat.ne_of_lt I.lt)) (fun y c q => by
    obtain ⟨v, ob, hob, _⟩ := I.cell y c q
    exact Nat.ne_of_lt (Heap.lt_size hob)) (fun q hq' => Nat.ne_of_lt (Heap.lt_size (I.pin q hq').1))
   ⟨by show 2 ≤ sizeLine; decide, [.int i s.toks, u], .cons ⟨_, rfl⟩ (.cons ru .nil), ⟨_, hT2, rfl, _, rfl⟩⟩
  refine ⟨.ref s.heap.objs.size, _, I2, rfl, ⟨_, x, hTn, rfl, rfl, fun ys hy => by rw [I.list_inj hy hq]; exact hx⟩, ⟨⟨u, by simpa using he2⟩, hit2⟩, fun b hb => ?_⟩
  rw [upd_ne]
  ·exact (hf b hb).1
  ·rcases List.mem_cons.mp hb with rfl | hb
   ·exact Nat.ne_of_lt helt
   ·have eb : b = it := by simpa using hb
    subst eb; exact Nat.ne_of_lt hilt
 done := by
  intro X hP hw hK hc i pins s σ H E I hf st hg
  subst hP hw hK
  obtain ⟨⟨old, he⟩, hit⟩ := st
  obtain ⟨xs, hq, hx⟩ := hg
  obtain ⟨its, rv, p, hz⟩ := I.list hq
  obtain ⟨f0, f1, f2, f3, f4, f5⟩ := hf it (by simp)
  have hl := rv.length
  exact wpAny_pyNext_enum_end (I.ok.hd hc) he hit p.isList (by simp; omega) fun h1 eb => ⟨rfl, I.turned (t' := s.toks) (fun b o hb q => eb b o hb q) f0 f1 f3 f4 f5⟩
 self := fun _ _ _ _ _ st h => by
  obtain ⟨⟨old, he⟩, _⟩ := st
  exact wpAny_pyIter_enum he h
theorem boot_enumW : bootBuiltins "enumerate" = some (.type "enumerate") := by decide +kernel
section
variable {X : Cx}
noncomputable def iEnum (K : PySem.W.Frag) (tl : TE) : TI := fun σ H R => tl σ H fun x H1 => ∃ a, x = .ref a ∧ (∃ xs, SqL K H1 a xs) ∧ R (Ite K a) H1
theorem pi_enum {elts : List Expr} {x1 : Nat} {pt : Pos} {l : Expr} {p pos : Pos} (hg : Gl X "enumerate") (hm : X.mg "enumerate" = none) (hst : starEach [l] X.env = [(false, eval l X.env)]) :
  PI X (.Tuple elts x1 pt) (.Call (.Name "enumerate" p) [l] [] pos) (iEnum X.K (wpE X l)) := by
 intro pins s σ H R I h
 have h' : tCons (wpE X l) tNil σ H (fun vs H1 => ∃ v, vs = [v] ∧ ∃ a, v = .ref a ∧ (∃ xs, SqL X.K H1 a xs) ∧ R (Ite X.K a) H1) := wpE.mono h fun v H1 q => ⟨v, rfl, q⟩
 refine Call_ (ld_blt I hg hm boot_enumW (PyProof.Rows.callWith_type1 (thn ((pa_cons pe_self pa_nil hst) pos pins s σ H _ I h') fun us s1 ⟨vs, H1, I1, r1, q1⟩ => ?_) hst rfl))
 obtain ⟨v, rfl, a, rfl, ⟨xs, hq⟩, q⟩ := q1
 obtain ⟨u, rfl, ru⟩ := vals1 r1
 cases ru
 obtain ⟨its, rv, pl, hz⟩ := I1.list hq
 refine call_enumerate_list pl.isList fun h1 he hit hsz hk => ?_
 refine wpAny_pyIter_enum he ?_
 have I2 : Inv X pins σ H1 { s1 with heap := h1 } := I1.kept (t' := s1.toks) hk
 refine ⟨s1.heap.objs.size + 1, [s1.heap.objs.size + 1, s1.heap.objs.size], _, _, H1, rfl, I2, turn_enum a _ _ (Nat.succ_ne_self _), ⟨⟨_, he⟩, hit⟩, fun b hb => ?_, q⟩
 rcases List.mem_cons.mp hb with rfl | hb
 ·exact I1.fpOk (Nat.le_succ _) (I1.hok.fresh (Nat.le_succ _))
 ·have eb : b = s1.heap.objs.size := by simpa using hb
  subst eb
  exact I1.fpOk (Nat.le_refl _) (I1.hok.fresh (Nat.le_refl _))
end
end L2
namespace L3
open PySem PySem.Spec PyProof.Rows L2
variable [Cs]
noncomputable def enumD (ds : List PyData) : List PyData := ds.zipIdx.map fun p => PyData.tuple [.int p.2, p.1]
theorem enumD_get {ds : List PyData} {i : Nat} {d : PyData} (h : (enumD ds)[i]? = some d) : ∃ x, ds[i]? = some x ∧ d = .tuple [.int i, x] := by
 unfold enumD at h
 rw [List.getElem?_map, List.getElem?_zipIdx] at h
 cases e : ds[i]? with
 | none => rw [e] at h; cases h
 | some x => rw [e] at h; simp at h; exact ⟨x, rfl, h.symm⟩
theorem enumD_len (ds : List PyData) : (enumD ds).length = ds.length := by simp [enumD]
noncomputable def fEnum (fa : EM FV) : EM (List PyData) := fun Γ => (fa Γ).bind fun (u, Γ1) => match derS Γ1 u with
 | some (.list ds) => .ok (enumD ds, Γ1)
 | _ => .bad
theorem ji_enum {M0 : Addr → Prop} {F : Fp} {K : PySem.W.Frag} {H1 : Hp} {l : Addr} {ds : List PyData} {vs : List V} (e : H1 l = some (.lst vs)) (n : ¬ MM M0 F l) (r : RepL (MM M0 F) H1 vs ds) : JI M0 F (Ite K l) (enumD ds) H1 := fun i F' H' s h0 => by
 have e' : H' l = some (.lst vs) := (s.keep l _ e fun j hj => n (.inr ⟨j, hj⟩)).1
 refine ⟨fun d hd => ?_, fun hl => ⟨vs, SqL.of e', by rw [enumD_len] at hl; rw [r.length]; exact hl⟩⟩
 obtain ⟨x, hx, rfl⟩ := enumD_get hd
 obtain ⟨v, hv, rv⟩ := r.get' hx
 refine ⟨⟨vs, v, SqL.of e', hv⟩, fun z H2 ⟨p, y, np, e2, ez, hy⟩ => ?_⟩
 subst e2 ez
 have := hy vs (SqL.of e')
 rw [hv] at this; cases this
 exact ⟨upd_new np, .tuple upd_same (.cons (.int _) (.cons ((rep_stp s h0 rv).grow (upd_new np).grow) .nil))⟩
section
variable {X : Cx} {XP : XPT} {mp : List Nat} {a : Expr} {p pos : Pos} {fa : EM FV}
theorem si_enum {x : Str} {elts : List Expr} {x1 : Nat} {pt : Pos} (B : BiK X x (.type "enumerate")) (ex : x = "enumerate") (ha : SE X XP mp a fa) (hst : starEach [a] X.env = [(false, eval a X.env)]) : SI X XP mp (.Tuple elts x1 pt) (.Call (.Name x p) [a] [] pos) (fEnum fa) := fun M0 F Γ ν σ H R rs hs hp => by
 subst ex
 exact (pi_enum B.gl B.mg hst).wp (ha.run rs hs hp fun F1 Γ1 H1 u v rs1 s1 o1 h1 => by
  dsimp only at h1
  split at h1
  ·rename_i ds eu
   obtain ⟨l, vs, rfl, e, n, r⟩ := (o1.strong rs1 eu).lst_inv
   exact ⟨l, rfl, ⟨vs, SqL.of e⟩, h1 F1 H1 rs1 (.refl _ _) _ (ji_enum e n r)⟩
  ·exact h1.elim)
end
end L3
namespace L2
open PySem PySem.Spec PyProof.Rows
variable [Cs]
structure BoxIs (M : Addr → Prop) (H : Hp) (b c : Addr) (cells : List Int) (i l t s : Int) : Prop where
 mb : M b
 hb : H b = some (.lst [.ref c, .int i, .int l, .int t, .int s])
 hc : Rep M H (.ref c) (.list (cells.map PyData.int))
 hi : 0 ≤ i
noncomputable def BoxAt (M : Addr → Prop) (H : Hp) (b : Addr) : Prop := ∃ c cells i l t s, BoxIs M H b c cells i l t s
theorem BoxAt.mem {M : Addr → Prop} {H : Hp} {b : Addr} (B : BoxAt M H b) : M b := let ⟨_, _, _, _, _, _, B⟩ := B; B.mb
theorem BoxAt.lst {M : Addr → Prop} {H : Hp} {b : Addr} (B : BoxAt M H b) : ∃ xs, H b = some (.lst xs) := let ⟨_, _, _, _, _, _, B⟩ := B; ⟨_, B.hb⟩
noncomputable def spBox (K : PySem.W.Frag) : Sp := fun vs H Q _ => ∃ (a : Addr) (ns : List Int), vs = [.ref a] ∧ SqL K H a (ns.map V.int) ∧ ns.length ≤ 63 ∧ ∀ b H', Same H H' → H b = none → H' b ≠ none → BoxAt (fun a => a = b) H' b → Q (.ref b) H'
section
variable {X : Cx} {M : Addr → Prop} {Γ : Ge} {σ : St} {H : Hp} {D : Ends} {sts : List Stmt} {e e1 : Expr} {p pos pos' : Pos} {x : Str} {k : Nat} {b : Addr} {n : Int} {Q : VK}
end
theorem blank_get {n i : Nat} {z : Ent} (e : (List.replicate n none : Ge)[i]? = some (some z)) : False := by
 rw [List.getElem?_replicate] at e
 split at e
 ·cases e
 ·cases e
theorem RS.blank {M : Addr → Prop} {σ : St} {H : Hp} (n : Nat) (al : Al M H) : RS M (List.replicate n none) σ H := ⟨al, fun i d e => (blank_get e).elim, fun i d e => (blank_get e).elim⟩
section
variable {X : Cx} {H : Hp} {D : Ends} {sts : List Stmt} {p pos pos' p2 : Pos} {x : Str} {k : Nat} {Q : VK}
theorem wb_box {a : Addr} {ns : List Int} {N : List Str} (hN : X.N.Nodup) (kb : Kn X.prog X.w X.K X.mg X.base CX0 "_law_box" k (spBox X.K)) (hr : Room k X.A) (hS : SqL X.K H a (ns.map V.int)) (hlen : ns.length ≤ 63)
  (kk : ∀ b σ' H', Same H H' → H b = none → BoxAt (fun a => a = b) H' b → RS (fun a => a = b) ((List.replicate X.N.length none).set 1 (some (.v (.ref b)))) σ' H' → σ'.length = X.N.length → wpB X sts D σ' H')
  (hNe : X.N = N) (h0 : N[0]? = some ("_law_script" : Str)) (hi : X.N[1]? = some x := by rfl) (hv0 : Vis X.env.scope "_law_script" := by first | exact Or.inl rfl | exact Or.inr (Or.inl rfl) | exact Or.inr (Or.inr rfl)) (hx : Loc X.env.scope x := by first | exact Or.inl rfl | exact Or.inr rfl)
  (hf : X.fn x = true ∨ X.env.scope.names.lookup x = some .local := by first | exact .inl rfl | exact .inr rfl | assumption) (hg : Gl X "_law_box" := by rfl)
  (hs : starEach [.Name "_law_script" p2] X.env = [(false, eval (.Name "_law_script" p2) X.env)] := by rfl) (hpl : (backTo p (starEach [] X.env)).any (·.1) = false := by rfl) {p3 : Pos} :
  wpB X (.Assign [.Name x pos'] (.Call (.Name "_law_box" p3) [.Name "_law_script" p2] [] p) pos :: sts) D (start N [.ref a]) H := by
 have hl : 1 < N.length := by rw [← hNe]; exact (List.getElem?_eq_some_iff.mp hi).1
 have hst : (start N [V.ref a]).length = N.length := start_length (by simp; omega)
 refine wb_wp 1 (Q := fun v H' => ∃ b, v = .ref b ∧ Same H H' ∧ H b = none ∧ BoxAt (fun a => a = b) H' b) hN (wp_call kb hr hg pass0 ((pa_cons (pe_var (by rw [hNe]; exact h0) hv0) pa_nil hs).wp ⟨.ref a, by simp [start], a, ns, rfl, hS, hlen, fun b H' s' nb _ hB => ⟨b, rfl, s', nb, hB⟩⟩) (by decide) hs hpl) (fun v H1 ⟨b, ev, s1, nb, hB⟩ => ?_) hi hx rfl hf
 subst ev
 refine kk b _ H1 s1 nb hB ((RS.blank X.N.length (fun c hc => ?_)).setV (by rw [hst]; exact hl)) (by rw [List.length_set, hst, hNe])
 subst hc
 obtain ⟨xs, hx⟩ := hB.lst
 rw [hx]
 exact fun z => nomatch z
end
end L2
set_option maxHeartbeats 4000000
namespace L2
open PySem PySem.Spec PyProof.Rows
variable [Cs]
theorem IntsAre.of : ∀ {ns : List Int} {us : List Value}, Vals (ns.map V.int) us → IntsAre us ns
 | [], _, .nil => .nil
 | n :: ns, _, .cons ⟨t, e⟩ r => by subst e; exact .cons n t (IntsAre.of r)
section
variable {X : Cx}
end
end L2
namespace L3
open PySem PySem.Spec PyProof.Rows L2
variable [Cs]
noncomputable def intsOf : List PyData → Option (List Int)
 | [] => some []
 | .int b :: r => (intsOf r).map (b :: ·)
 | _ => none
section
variable {X : Cx} {XP : XPT} {mp : List Nat} {a : Expr} {p pos : Pos} {fa : EM FV}
end
end L3
set_option maxHeartbeats 4000000
namespace L3
open PySem PySem.Spec PyProof.Rows L2
variable [Cs]
section
variable {X : Cx} {XP : XPT} {mp : List Nat} {a b : Expr} {p p2 pos : Pos} {fa fb : EM FV}
end
end L3
set_option maxHeartbeats 4000000
namespace Tab
open PySem PySem.SetTable
noncomputable def stp (m i : Nat) : Nat := (i * 5 + 1) % (m + 1)
noncomputable def it (m : Nat) : Nat → Nat → Nat
 | 0, i => i
 | n + 1, i => it m n (stp m i)
noncomputable def live (m : Nat) (owner : Array (Option Nat)) : List Nat := (List.range (m + 1)).filterMap fun j => owner.getD j none
end Tab
set_option maxHeartbeats 4000000
namespace Tab
open PySem PySem.SetTable
theorem erase_list {α : Type} (es : Array α) (i : Nat) : (eraseAt es i).toList = es.toList.eraseIdx i := by
 unfold eraseAt
 rw [List.eraseIdx_eq_take_drop_succ]
 simp [Array.toList_extract]
 exact List.take_of_length_le (by simp)
noncomputable def Rise (xs : Array Nat) : Prop := xs.toList.Pairwise (· < ·)
theorem Rise.lt {xs : Array Nat} (h : Rise xs) {i j : Nat} (hij : i < j) (hj : j < xs.size) : xs[i]'(by omega) < xs[j] := by
 have := List.pairwise_iff_getElem.mp h i j (by simp; omega) (by simpa using hj) hij
 simpa using this
theorem Rise.erase {xs : Array Nat} (h : Rise xs) (i : Nat) : Rise (eraseAt xs i) := by
 unfold Rise
 rw [erase_list]
 exact h.sublist (List.eraseIdx_sublist ..)
structure Neat (w : World) (t : SetTable) : Prop where
 led : w.params.followText "set-order" = true ∨ t.led = true
 plain : t.plain = true
 up : Rise t.place
theorem Neat.drop {w : World} {t : SetTable} (h : Neat w t) (i : Nat) : Neat w (t.drop i) := by
 unfold SetTable.drop; split
 ·exact ⟨h.led, h.plain, h.up.erase i⟩
 ·exact h
section
variable {t : SetTable} {ha : Nat → Int} {h : Int}
end
noncomputable def maskOf (n : Nat) : Nat := if n ≤ 4 then 7 else if n ≤ 18 then 31 else 127
structure Room (t : SetTable) (n : Nat) : Prop where
 dm : t.dummies = #[]
 sz : t.place.size = n
 msk : t.mask = maskOf n
end Tab
set_option maxHeartbeats 4000000
namespace Tab
open PySem PySem.SetTable
section
variable {prog : Program} {w : World} {A : Around} {E : Value → Shared → Prop} {s : Shared}
noncomputable def NSet (prog : Program) (w : World) (h : Heap) (a : Addr) (S : Int → Bool) (n : Nat) : Prop :=
 ∃ o es ep t, h.get? a = some o ∧ o.ExactSet ∧ o.data = .set es ep t ∧ ElemsOf (intKind prog w) es.toList ∧ (∀ k, S k = true ↔ ∃ e ∈ es.toList, (intKind prog w).is k e.2 = true) ∧ es.size < scanBound ∧ t.fits es.size = true ∧ es.size = n ∧ Neat w t
theorem NSet.same {h h' : Heap} {a : Addr} {S : Int → Bool} {n : Nat} (x : NSet prog w h a S n) (e : ∀ o, h.get? a = some o → h'.get? a = some o) : NSet prog w h' a S n := by
 obtain ⟨o, es, ep, t, h1, rest⟩ := x
 exact ⟨o, es, ep, t, e o h1, rest⟩
end
end Tab
set_option maxHeartbeats 4000000
namespace PyProof.Rows
open PySem
section
variable {prog : Program} {w : World} {A : Around} {R : Result → Shared → Prop} {I : Addr} {fp wr : List Addr} {G : Array GenState → Array GenState → Prop} {n : Nat} {P : Nat → Value → Prop} {St : Nat → Shared → Prop}
end
end PyProof.Rows
namespace PySem
section
variable {prog : Program} {w : World} {A : Around} {E : Value → Shared → Prop} {s : Shared}
end
end PySem
set_option maxHeartbeats 4000000
namespace Tab
open PySem PySem.SetTable
theorem erase_perm {α : Type} : ∀ {l : List α} {n : Nat} (h : n < l.length), (l[n] :: l.eraseIdx n).Perm l
 | x :: l, 0, _ => .refl _
 | x :: l, n + 1, h => ((List.Perm.swap x (l[n]'(by simpa using h)) _)).trans ((erase_perm (l := l) (n := n) (by simpa using h)).cons x)
theorem pick_go {α : Type} (next : Nat → Nat) : ∀ (fuel k : Nat) (left : List α) (out : Array α), left.length ≤ fuel → (pickOrder.go next fuel k left out).toList.Perm (out.toList ++ left)
 | 0, k, left, out, h => by
  have : left = [] := List.length_eq_zero_iff.mp (by omega)
  subst this
  rw [pickOrder.go, List.append_nil]
 | fuel + 1, k, left, out, h => by
  rw [pickOrder.go]
  cases left with
  | nil => simp
  | cons x l =>
   have hlt : next k % (x :: l).length < (x :: l).length := Nat.mod_lt _ (by simp)
   rw [List.getElem?_eq_getElem hlt]
   dsimp only
   refine (pick_go next fuel (k + 1) _ _ ?_).trans ?_
   ·rw [List.length_eraseIdx_of_lt hlt]; omega
   ·rw [Array.toList_push, List.append_assoc]
    exact List.Perm.append_left _ (erase_perm hlt)
theorem pick_perm {α : Type} (next : Nat → Nat) (xs : Array α) : (pickOrder next xs).toList.Perm xs.toList := by
 have := pick_go next xs.size 0 xs.toList #[] (by simp)
 simpa [pickOrder] using this
section
variable {prog : Program} {w : World} {A : Around} {E : Value → Shared → Prop} {s : Shared}
theorem noRef {es : Array (Int × Value)} (h : ElemsOf (intKind prog w) es.toList) : ∀ e ∈ es.toList, ∃ n t, e.2 = .int n t := fun e he => by
 obtain ⟨⟨k, hk, _⟩, _⟩ := h e he
 obtain ⟨t, ht⟩ := Value.isInt_shape hk
 exact ⟨k, t, ht⟩
theorem quiet_of {l : List Addr} {Q : Bool → Shared → Prop} (h : ∀ b ∈ l, ∃ S n, s.heap.SetOf (intKind prog w) b S n) (hQ : Q true s) : wpAny (model prog w) A (setsQuiet l) Q E s := by
 unfold setsQuiet
 refine wpAny_bind ?_
 refine wpAny_forIn_list _ (fun rest b s' => b = (none, ()) ∧ s' = s ∧ ∀ x ∈ rest, ∃ S n, s.heap.SetOf (intKind prog w) x S n) _ ?_ ?_ l _ ⟨rfl, rfl, h⟩
 ·rintro a rest b s' ⟨rfl, rfl, hh⟩
  obtain ⟨S, n, o, es, ep, t, ho, hex, hd, hel, hmem, hb, hf, hn⟩ := hh a List.mem_cons_self
  refine wpAny_bind (wpAny_setEntries_of ho hd hf ?_)
  refine wpAny_bind (wpAny_forIn_array' _ (fun (rest : List (Int × Value)) b s'' => b = (none, ()) ∧ s'' = s' ∧ ∀ e ∈ rest, ∃ n t, e.2 = .int n t) _ ?_ ?_ es _ ⟨rfl, rfl, noRef hel⟩)
  ·rintro ⟨hh2, x⟩ rest b s'' ⟨rfl, rfl, hi⟩
   obtain ⟨n, t, e⟩ := hi _ List.mem_cons_self
   dsimp only at e
   subst e
   exact wpAny_pure ⟨rfl, rfl, fun e he => hi e (List.mem_cons_of_mem _ he)⟩
  ·rintro b s'' ⟨rfl, rfl, _⟩
   exact wpAny_pure ⟨rfl, rfl, fun x hx => hh x (List.mem_cons_of_mem _ hx)⟩
 ·rintro b s' ⟨rfl, rfl, _⟩
  exact wpAny_pure hQ
theorem setWalk_of {a : Addr} {o : Obj} {es : Array (Int × Value)} {ep : Nat} {t : SetTable} {Q' : Array (Int × Value) → Shared → Prop} (ho : s.heap.get? a = some o) (hd : o.data = .set es ep t) (hf : t.fits es.size = true)
  (hc : (w.params.followText "set-order" || (t.led && t.plain) || decide (es.size ≤ 1)) = true) (hq : ∀ es', es'.toList.Perm es.toList → Q' es' s) : wpAny (model prog w) A (setWalk a) Q' E s := by
 unfold setWalk setsByText
 refine wpAny_bind (wpAny_setState_of ho hd hf ?_)
 refine wpAny_bind (wpAny_bind (wpAny_askSetting (wpAny_pure ?_)))
 show wpAny _ _ (if w.params.followText "set-order" = true then _ else _) _ _ _
 by_cases hT : w.params.followText "set-order" = true
 ·rw [if_pos hT]
  exact wpAny_bind (wpAny_askSetting (wpAny_pure (hq _ (pick_perm _ _))))
 ·rw [if_neg hT]
  have hT' : w.params.followText "set-order" = false := by simpa using hT
  rw [hT', Bool.false_or, Bool.or_eq_true, Bool.and_eq_true, decide_eq_true_eq] at hc
  split
  ·rename_i hdr
   exfalso
   change (!t.plain && decide (es.size > 1)) = true at hdr
   rw [Bool.and_eq_true, decide_eq_true_eq] at hdr
   rcases hc with ⟨_, hp⟩ | hz
   ·rw [hp] at hdr; exact absurd hdr.1 (by decide)
   ·omega
  ·show wpAny _ _ ((if (!t.led && decide (es.size > 1)) = true then unsupported "set:maker-not-led" else pure PUnit.unit) >>= fun _ => pure es) _ _ _
   rw [if_neg]
   ·exact wpAny_bind (wpAny_pure (wpAny_pure (hq es (.refl _))))
   ·intro z
    rw [Bool.and_eq_true, decide_eq_true_eq] at z
    rcases hc with ⟨hl, _⟩ | hz
    ·rw [hl] at z; exact absurd z.1 (by decide)
    ·omega
theorem walk_of {a : Addr} {o : Obj} {es : Array (Int × Value)} {ep : Nat} {t : SetTable} {others : List Addr} {Q : Array (Int × Value) → Shared → Prop} (ho : s.heap.get? a = some o) (hd : o.data = .set es ep t) (hf : t.fits es.size = true)
  (hl : ∀ b ∈ a :: others, ∃ S n, s.heap.SetOf (intKind prog w) b S n) (h : ∀ es', es'.toList.Perm es.toList → Q es' s) : wpAny (model prog w) A (setWalkUnseen a others none) Q E s := by
 unfold setWalkUnseen setsByText
 refine wpAny_bind (wpAny_setState_of ho hd hf ?_)
 dsimp only
 refine wpAny_bind (wpAny_bind (wpAny_askSetting (wpAny_pure ?_)))
 show wpAny _ _ (if (w.params.followText "set-order" || t.led && t.plain || decide (es.size ≤ 1)) = true then _ else _) _ _ _
 split
 ·rename_i hc
  exact setWalk_of ho hd hf hc h
 ·refine wpAny_bind (quiet_of hl ?_)
  simp only [Bool.not_true, Bool.false_eq_true, if_false]
  exact wpAny_bind (wpAny_rule (wpAny_pure (h es (.refl _))))
inductive Keys (prog : Program) (w : World) : List (Int × Value) → List Int → Prop
 | nil : Keys prog w [] []
 | cons {k : Int} {t : Tok} {es ks} : Keys prog w es ks → Keys prog w (((intKind prog w).hash k, .int k t) :: es) (k :: ks)
theorem Keys.mem {es : List (Int × Value)} {ks : List Int} (h : Keys prog w es ks) (k : Int) : (∃ e ∈ es, (intKind prog w).is k e.2 = true) ↔ k ∈ ks := by
 induction h with
 | nil => simp
 | @cons k' t es ks _ ih =>
  constructor
  ·rintro ⟨e, he, hk⟩
   rcases List.mem_cons.mp he with rfl | he
   ·have hk2 : Value.isInt k (.int k' t) = true := hk
    obtain ⟨t2, e2⟩ := Value.isInt_shape hk2
    injection e2 with e3
    rw [← e3]; exact List.mem_cons_self
   ·exact List.mem_cons_of_mem _ (ih.mp ⟨e, he, hk⟩)
  ·intro hk
   rcases List.mem_cons.mp hk with rfl | hk
   ·exact ⟨_, List.mem_cons_self, intKind_is _ _ _ _⟩
   ·obtain ⟨e, he, h2⟩ := ih.mpr hk
    exact ⟨e, List.mem_cons_of_mem _ he, h2⟩
theorem Keys.length {es : List (Int × Value)} {ks : List Int} (h : Keys prog w es ks) : es.length = ks.length := by
 induction h with
 | nil => rfl
 | cons _ ih => simp [ih]
end
end Tab
set_option maxHeartbeats 4000000
namespace Tab
open PySem PySem.SetTable
section
variable {prog : Program} {w : World} {A : Around} {E : Value → Shared → Prop} {s : Shared}
theorem Keys.eraseIdx : ∀ {es : List (Int × Value)} {ks : List Int} (i : Nat), Keys prog w es ks → Keys prog w (es.eraseIdx i) (ks.eraseIdx i)
 | _, _, i, .nil => by simp; exact .nil
 | _, _, 0, .cons h => h
 | _, _, i + 1, .cons h => .cons (h.eraseIdx i)
theorem Keys.find : ∀ {es : List (Int × Value)} {ks : List Int} {i : Nat} {k : Int}, Keys prog w es ks → es.findIdx? (fun e => (intKind prog w).is k e.2) = some i → ks[i]? = some k := by
 intro es ks i k h e
 obtain ⟨hi, hp, _⟩ := List.findIdx?_eq_some_iff_getElem.mp e
 have H : ∀ {es : List (Int × Value)} {ks : List Int} (i : Nat) (hi : i < es.length), Keys prog w es ks → (intKind prog w).is k es[i].2 = true → ks[i]? = some k := by
  intro es ks i hi h
  induction h generalizing i with
  | nil => simp at hi
  | @cons k' t es ks h ih =>
   intro hk
   cases i with
   | zero =>
    have hk2 : Value.isInt k (.int k' t) = true := hk
    obtain ⟨t2, e2⟩ := Value.isInt_shape hk2
    injection e2 with e3
    rw [e3]; rfl
   | succ i => exact ih i (by simpa using hi) hk
 exact H i hi h hp
end
end Tab
set_option maxHeartbeats 4000000
namespace Tab
open PySem PySem.SetTable
section
variable {prog : Program} {w : World} {A : Around} {E : Value → Shared → Prop} {s : Shared}
end
end Tab
set_option maxHeartbeats 4000000
namespace Tab
open PySem PySem.SetTable
section
variable {prog : Program} {w : World} {A : Around} {E : Value → Shared → Prop} {s : Shared}
end
end Tab
set_option maxHeartbeats 4000000
namespace L2
open PySem PySem.Spec PyProof.Rows
variable [Cs]
section
variable {X : Cx}
end
end L2
namespace L3
open PySem PySem.Spec PyProof.Rows L2
variable [Cs]
section
variable {X : Cx} {XP : XPT} {mp : List Nat} {a b : Expr} {fa fb : EM FV}
end
end L3
namespace L2
open PySem PySem.Spec PyProof.Rows
section
variable {X : Cx} {e : Expr} {te : TE} {st : Expr} {ts : TO} {pos p2 : Pos}
end
end L2
namespace L2
open PySem PySem.Spec PyProof.Rows
variable [Cs]
section
variable {X : Cx}
end
end L2
namespace L3
open PySem PySem.Spec PyProof.Rows L2
variable [Cs]
section
variable {X : Cx} {XP : XPT} {mp : List Nat} {a st : Expr} {p p2 pos : Pos} {fa fs : EM FV}
end
end L3
namespace L3
open PySem PySem.Spec PyProof.Rows L2
variable [Cs]
section
variable {M0 : Addr → Prop} {F F' : Fp} {Γ Γ' : Gv} {ν ν' : Nu} {H H' : Hp}
end
section
variable {X : Cx} {XP : XPT} {mp io : List Nat} {a b c e tg iter : Expr} {es : List Expr} {pos p p2 pos' : Pos} {fa fb fc : EM FV} {ta tb : EM Bool} {na nb : EM (List PyData)} {fo : EM OV} {st : Stmt} {sts body els : List Stmt} {f g : SM}
end
theorem ORL.snocO {M : Addr → Prop} {H : Hp} {v : V} {o : OV} {B : List Addr} (q : OR M H v o B) : ∀ {vs : List V} {os : List OV} {A : List Addr}, ORL M H vs os A → ORL M H (vs ++ [v]) (os ++ [o]) (A ++ B)
 | _, _, _, .nil => by simpa using ORL.cons q .nil
 | _, _, _, .cons r t => by rw [List.append_assoc]; exact .cons r (ORL.snocO q t)
section
variable {M0 : Addr → Prop} {F F' : Fp} {Γ Γ' : Gv} {ν ν' : Nu} {H H' : Hp}
theorem RS.join {i : Nat} {xs : List OV} {o : OV} {v : V} {a : Addr} {vs : List V} (r : RS M0 F (Γ ++ [some o]) (ν ++ [some v]) H) (e : Γ[i]? = some (some (.l xs))) (en : ν[i]? = some (some (.ref a))) (eh : H a = some (.lst vs)) :
  vs.length = xs.length ∧ ∃ F', RS M0 F' (Γ.set i (some (.l (xs ++ [o])))) ν (upd H a (.lst (vs ++ [v]))) ∧ Stp F H F' (upd H a (.lst (vs ++ [v]))) := by
 have hl : ν.length = Γ.length := by have := r.len; simp at this; exact this
 have hi := (List.getElem?_eq_some_iff.mp e).1
 obtain ⟨a1, vs1, A, en1, eh1, qa, eF, nd⟩ := own_at r (by rw [List.getElem?_append_left hi]; exact e)
 rw [List.getElem?_append_left (by omega), en] at en1
 cases en1
 rw [eh] at eh1
 cases eh1
 refine ⟨qa.length, ?_⟩
 obtain ⟨u, eu, qo⟩ := r.at' Γ.length o (by rw [List.getElem?_append_right (Nat.le_refl _)]; simp)
 have euv : u = v := by
  rw [List.getElem?_append_right (by omega), hl] at eu
  simpa using eu.symm
 subst euv
 have ha : a ∈ F i := by rw [eF]; exact List.mem_cons_self
 have hne : ∀ j, j ≠ i → ∀ b ∈ F j, b ≠ a := fun j hj b hb z => by subst z; exact hj (r.dis _ _ _ hb ha)
 have hnA : ∀ b ∈ A, b ≠ a := fun b hb z => by
  subst z
  have := r.nd i
  rw [eF] at this
  exact (List.nodup_cons.mp this).1 hb
 let F' : Fp := fun j => if j = i then F i ++ F Γ.length else if j < Γ.length then F j else []
 have hFi : F' i = F i ++ F Γ.length := by show (if i = i then _ else _) = _; rw [if_pos rfl]
 have hFj : ∀ j, j ≠ i → j < Γ.length → F' j = F j := fun j h1 h2 => by show (if j = i then _ else _) = _; rw [if_neg h1, if_pos h2]
 have hFo : ∀ j, j ≠ i → ¬ j < Γ.length → F' j = [] := fun j h1 h2 => by show (if j = i then _ else _) = _; rw [if_neg h1, if_neg h2]
 have sub : ∀ j b, b ∈ F' j → (j = i ∧ (b ∈ F i ∨ b ∈ F Γ.length)) ∨ (j ≠ i ∧ j < Γ.length ∧ b ∈ F j) := fun j b h => by
  by_cases h1 : j = i
  ·subst h1; rw [hFi] at h; exact .inl ⟨rfl, List.mem_append.mp h⟩
  ·by_cases h2 : j < Γ.length
   ·rw [hFj j h1 h2] at h; exact .inr ⟨h1, h2, h⟩
   ·rw [hFo j h1 h2] at h; cases h
 have s : Stp F H F' (upd H a (.lst (vs ++ [u]))) := ⟨fun b ob e nb => ⟨by
   rw [upd_ne (fun z => by subst z; exact nb i ha)]; exact e, fun j h => by
   rcases sub j b h with ⟨_, h | h⟩ | ⟨_, _, h⟩ <;> exact nb _ h⟩, fun b xs e => by
   rw [upd_ne (fun z => by subst z; rw [eh] at e; cases e)]; exact e, fun b h => by
   by_cases z : b = a
   ·subst z; rw [upd_same]; exact fun z => nomatch z
   ·rw [upd_ne z]; exact h⟩
 have hin : ∀ b, b ∈ F Γ.length → b ∉ F i := fun b h1 h2 => by have := r.dis _ _ b h1 h2; omega
 refine ⟨F', ⟨fun b h => s.stay b (r.al0 b h), fun j b h => ?_, fun j => ?_, fun j k b h1 h2 => ?_, fun j p ep => ?_, fun j h => ?_, by simp [hl]⟩, s⟩
 ·rcases sub j b h with ⟨_, h | h⟩ | ⟨_, _, h⟩ <;> exact r.dis0 _ b h
 ·by_cases h1 : j = i
  ·subst h1; rw [hFi]
   exact List.nodup_append.mpr ⟨r.nd _, r.nd _, fun x hx y hy z => by subst z; exact hin _ hy hx⟩
  ·by_cases h2 : j < Γ.length
   ·rw [hFj j h1 h2]; exact r.nd _
   ·rw [hFo j h1 h2]; exact .nil
 ·rcases sub j b h1 with ⟨e1, z1⟩ | ⟨n1, l1, z1⟩
  ·rcases sub k b h2 with ⟨e2, z2⟩ | ⟨n2, l2, z2⟩
   ·rw [e1, e2]
   ·rcases z1 with z1 | z1
    ·exact absurd (r.dis _ _ b z2 z1) n2
    ·have := r.dis _ _ b z2 z1; omega
  ·rcases sub k b h2 with ⟨e2, z2⟩ | ⟨n2, l2, z2⟩
   ·rcases z2 with z2 | z2
    ·exact absurd (r.dis _ _ b z1 z2) n1
    ·have := r.dis _ _ b z1 z2; omega
   ·exact r.dis _ _ b z1 z2
 ·by_cases hj : j = i
  ·subst hj
   rw [List.getElem?_set_self hi] at ep
   cases ep
   refine ⟨.ref a, en, ?_⟩
   rw [hFi, eF, List.cons_append]
   exact .l upd_same (ORL.snocO (qo.go (fun _ _ x => rep_stp s r.al0 x) s.tups fun b hb => upd_ne (hne _ (by omega) b hb)) (qa.go (fun _ _ x => rep_stp s r.al0 x) s.tups fun b hb => upd_ne (hnA b hb)))
  ·rw [List.getElem?_set_ne (Ne.symm hj)] at ep
   have hjl : j < Γ.length := (List.getElem?_eq_some_iff.mp ep).1
   obtain ⟨w, e1, q⟩ := r.at' j p (by rw [List.getElem?_append_left hjl]; exact ep)
   rw [List.getElem?_append_left (by omega)] at e1
   exact ⟨w, e1, by rw [hFj j hj hjl]; exact q.go (fun _ _ x => rep_stp s r.al0 x) s.tups fun b hb => upd_ne (hne j hj b hb)⟩
 ·by_cases hj : j = i
  ·subst hj; rw [List.getElem?_set_self hi] at h; exact absurd rfl (h _)
  ·by_cases h2 : j < Γ.length
   ·rw [hFj j hj h2]
    refine r.emp j fun p ep => h p ?_
    rw [List.getElem?_append_left h2] at ep
    rw [List.getElem?_set_ne (Ne.symm hj)]; exact ep
   ·exact hFo j hj h2
theorem RS.clear (r : RS M0 F Γ ν H) (j : Nat) (w : Option V) : ∃ F', RS M0 F' (Γ.set j none) (ν.set j w) H ∧ Stp F H F' H := by
 have sub : ∀ k b, b ∈ fset F j [] k → k ≠ j ∧ b ∈ F k := fun k b h => by
  by_cases hk : k = j
  ·subst hk; rw [fset_same] at h; cases h
  ·rw [fset_ne hk] at h; exact ⟨hk, h⟩
 have s : Stp F H (fset F j []) H := stp_sub fun k b h => ⟨k, (sub k b h).2⟩
 refine ⟨fset F j [], ⟨r.al0, fun k b h => r.dis0 k b (sub k b h).2, fun k => ?_, fun k l b h1 h2 => r.dis k l b (sub k b h1).2 (sub l b h2).2, fun k o e => ?_, fun k h => ?_, by simp [r.len]⟩, s⟩
 ·by_cases hk : k = j
  ·subst hk; rw [fset_same]; exact .nil
  ·rw [fset_ne hk]; exact r.nd k
 ·have hk : k ≠ j := fun z => by
   subst z
   have hl := (List.getElem?_eq_some_iff.mp e).1
   rw [List.getElem?_set_self (by simpa using hl)] at e; cases e
  rw [List.getElem?_set_ne (Ne.symm hk)] at e ⊢
  obtain ⟨v, e1, q⟩ := r.at' k o e
  exact ⟨v, e1, by rw [fset_ne hk]; exact q.go (fun _ _ x => rep_stp s r.al0 x) s.tups fun _ _ => rfl⟩
 ·by_cases hk : k = j
  ·subst hk; exact fset_same
  ·rw [fset_ne hk]
   refine r.emp k fun o e => h o ?_
   rw [List.getElem?_set_ne (Ne.symm hk)]; exact e
end
section
variable {M0 : Addr → Prop} {F F' : Fp} {Γ Γ' : Gv} {ν ν' : Nu} {H H' : Hp}
end
end L3
namespace L3
open PySem PySem.Spec PyProof.Rows L2
variable [Cs]
section
variable {X : Cx} {XP : XPT} {mp io : List Nat} {a b c e tg iter : Expr} {es : List Expr} {pos p p2 pos' p3 : Pos} {fa fb fc : EM FV} {ta tb : EM Bool} {na nb : EM (List PyData)} {fo : EM OV} {st : Stmt} {sts body els : List Stmt} {f g : SM}
end
section
variable {X : Cx} {XP : XPT} {mp io : List Nat} {a b c e tg iter : Expr} {es : List Expr} {pos p p2 pos' p3 py pc pf : Pos} {fa fb fc : EM FV} {ta tb : EM Bool} {na nb : EM (List PyData)} {fo : EM OV} {st : Stmt} {sts body els : List Stmt} {f g : SM}
end
end L3
namespace L3
open PySem PySem.Spec PyProof.Rows L2
variable [Cs]
noncomputable def RzOk (X : Cx) (XP : XPT) : Prop := ∀ (x : Exc) (Γ : Gv) (F : Fp) (ν : Nu) (σ : St) (H : Hp), x.pay = .none → XP x Γ F ν σ H → ∀ C, X.mg x.cls = some (.ref C) → ∀ pins s, Inv X pins σ H s → ∀ h' ea, MadeX s.heap h' ea (.ref C) none → X.xe (.ref ea) { s with heap := h' }
section
variable {X : Cx} {XP : XPT} {mp io : List Nat} {x : Str} {C : Addr} {np cpos pos cp : Pos} {z : Str} {cj : Nat}
end
theorem HC.rep {M : Addr → Prop} {H : Hp} (v : HC) : Rep M H v.V v.D := by
 cases v with
 | s z => exact .str z
 | b c => exact .bool c
noncomputable def pickN (c : Str) : List (Str × Nat × Nat × HC) → Option (Nat × Nat × HC)
 | [] => none
 | (x, t, j, v) :: r => if x = c then some (t, j, v) else pickN c r
structure HdN (X : Cx) (L : Str → Addr → Prop) (mp : List Nat) (hd : ExceptHandler) (x : Str) (C : Addr) (t j : Nat) (v : HC) : Prop where
 k : HdK X hd C t v
 e : ExcK X x C
 l : L x C
 m : mp[t]? = some j
inductive HdNs (X : Cx) (L : Str → Addr → Prop) (mp : List Nat) : List ExceptHandler → List (Str × Nat × Nat × HC) → List (Addr × Nat × HC) → Prop
 | nil : HdNs X L mp [] [] []
 | cons {hd : ExceptHandler} {hs : List ExceptHandler} {x : Str} {C : Addr} {t j : Nat} {v : HC} {ns : List (Str × Nat × Nat × HC)} {zs : List (Addr × Nat × HC)} : HdN X L mp hd x C t j v → HdNs X L mp hs ns zs → HdNs X L mp (hd :: hs) ((x, t, j, v) :: ns) ((C, t, v) :: zs)
theorem HdNs.ks {X : Cx} {L : Str → Addr → Prop} {mp : List Nat} : ∀ {hs : List ExceptHandler} {ns : List (Str × Nat × Nat × HC)} {zs : List (Addr × Nat × HC)}, HdNs X L mp hs ns zs → HdKs X hs zs
 | _, _, _, .nil => .nil
 | _, _, _, .cons h t => .cons h.k t.ks
theorem HdNs.lt {X : Cx} {L : Str → Addr → Prop} {mp : List Nat} {c : Str} {t j : Nat} {v : HC} : ∀ {hs : List ExceptHandler} {ns : List (Str × Nat × Nat × HC)} {zs : List (Addr × Nat × HC)}, HdNs X L mp hs ns zs → pickN c ns = some (t, j, v) → t < X.N.length
 | _, _, _, .nil, e => by cases e
 | _, _, _, .cons h r, e => by
  unfold pickN at e
  split at e
  ·cases e
   obtain ⟨_, _, _, _, _, _, _, _, _, _, q, _⟩ := h.k.ex
   exact (List.getElem?_eq_some_iff.mp q).1
  ·exact r.lt e
section
variable {X : Cx} {XP : XPT} {mp io : List Nat} {L : Str → Addr → Prop} {hs : List ExceptHandler} {ns : List (Str × Nat × Nat × HC)} {zs : List (Addr × Nat × HC)} {f : SM} {body : List Stmt} {hd : ExceptHandler} {pos : Pos}
end
end L3
namespace L3
open PySem PySem.Spec PyProof.Rows L2
variable [Cs]
section
variable {M0 : Addr → Prop} {F F' : Fp} {Γ Γ' : Gv} {ν ν' : Nu} {H H' : Hp}
end
section
variable {X : Cx} {XP : XPT} {mp io : List Nat} {a b c e : Expr} {es : List Expr} {pos p p2 pos' p3 : Pos} {fa fb fc : EM FV} {fo : EM OV} {kx : Nat}
end
end L3
namespace L2
open PySem PySem.Spec PyProof.Rows
section
variable {β : Type}
noncomputable def valG (ds : List (Str × β)) (x : Str) : Option β := (ds.find? fun p => decide (p.1 = x)).map (·.2)
noncomputable def putG (ds : List (Str × β)) (x : Str) (y : β) : List (Str × β) := if (ds.any fun p => decide (p.1 = x)) = true then ds.map (fun p => if p.1 = x then (p.1, y) else p) else ds ++ [(x, y)]
noncomputable def dropG (ds : List (Str × β)) (x : Str) : List (Str × β) := ds.filter fun p => decide (p.1 ≠ x)
end
variable [Cs]
inductive KR (M : Addr → Prop) (H : Hp) : List (Str × V) → List (Str × PyData) → Prop
 | nil : KR M H [] []
 | cons {x : Str} {v : V} {d : PyData} {ks : List (Str × V)} {ds : List (Str × PyData)} : Rep M H v d → KR M H ks ds → KR M H ((x, v) :: ks) ((x, d) :: ds)
section
variable {M M' : Addr → Prop} {H H' : Hp}
theorem KR.of : ∀ {ks : List (Str × V)} {ds : List (Str × PyData)}, ks.map (·.1) = ds.map (·.1) → RepL M H (ks.map (·.2)) (ds.map (·.2)) → KR M H ks ds
 | [], [], _, _ => .nil
 | [], _ :: _, h, _ => by simp at h
 | _ :: _, [], h, _ => by simp at h
 | (x, v) :: ks, (y, d) :: ds, h, r => by
  simp only [List.map_cons, List.cons.injEq] at h
  obtain ⟨rfl, h⟩ := h
  simp only [List.map_cons] at r
  cases r with
  | cons r t => exact .cons r (KR.of h t)
theorem KR.keys : ∀ {ks : List (Str × V)} {ds : List (Str × PyData)}, KR M H ks ds → ks.map (·.1) = ds.map (·.1)
 | _, _, .nil => rfl
 | _, _, .cons _ t => by rw [List.map_cons, List.map_cons, t.keys]
theorem KR.vals : ∀ {ks : List (Str × V)} {ds : List (Str × PyData)}, KR M H ks ds → RepL M H (ks.map (·.2)) (ds.map (·.2))
 | _, _, .nil => .nil
 | _, _, .cons r t => .cons r t.vals
theorem KR.length {ks : List (Str × V)} {ds : List (Str × PyData)} (h : KR M H ks ds) : ks.length = ds.length := by have := congrArg List.length h.keys; simpa using this
theorem KR.map (hr : ∀ v d, Rep M H v d → Rep M' H' v d) : ∀ {ks : List (Str × V)} {ds : List (Str × PyData)}, KR M H ks ds → KR M' H' ks ds
 | _, _, .nil => .nil
 | _, _, .cons r t => .cons (hr _ _ r) (t.map hr)
theorem KR.any (x : Str) : ∀ {ks : List (Str × V)} {ds : List (Str × PyData)}, KR M H ks ds → (ks.any fun p => decide (p.1 = x)) = ds.any fun p => decide (p.1 = x)
 | _, _, .nil => rfl
 | _, _, .cons _ t => by rw [List.any_cons, List.any_cons, t.any x]
theorem KR.repl {x : Str} {v : V} {d : PyData} (r : Rep M H v d) : ∀ {ks : List (Str × V)} {ds : List (Str × PyData)}, KR M H ks ds → KR M H (ks.map fun p => if p.1 = x then (p.1, v) else p) (ds.map fun p => if p.1 = x then (p.1, d) else p)
 | _, _, .nil => .nil
 | _, _, .cons (x := y) q t => by
  rw [List.map_cons, List.map_cons]
  by_cases h : y = x
  ·rw [if_pos h, if_pos h]; exact .cons r (t.repl r)
  ·rw [if_neg h, if_neg h]; exact .cons q (t.repl r)
theorem KR.append : ∀ {ks ks' : List (Str × V)} {ds ds' : List (Str × PyData)}, KR M H ks ds → KR M H ks' ds' → KR M H (ks ++ ks') (ds ++ ds')
 | _, _, _, _, .nil, s => s
 | _, _, _, _, .cons r t, s => .cons r (t.append s)
theorem KR.put {ks : List (Str × V)} {ds : List (Str × PyData)} (x : Str) {v : V} {d : PyData} (h : KR M H ks ds) (r : Rep M H v d) : KR M H (putG ks x v) (putG ds x d) := by
 unfold putG
 rw [h.any x]
 split
 ·exact h.repl r
 ·exact h.append (.cons r .nil)
theorem KR.drop (x : Str) : ∀ {ks : List (Str × V)} {ds : List (Str × PyData)}, KR M H ks ds → KR M H (dropG ks x) (dropG ds x)
 | _, _, .nil => .nil
 | _, _, .cons (x := y) q t => by
  unfold dropG
  rw [List.filter_cons, List.filter_cons]
  by_cases h : y = x
  ·rw [if_neg (by simp [h]), if_neg (by simp [h])]; exact t.drop x
  ·rw [if_pos (by simp [h]), if_pos (by simp [h])]; exact .cons q (t.drop x)
theorem KR.val (x : Str) : ∀ {ks : List (Str × V)} {ds : List (Str × PyData)}, KR M H ks ds → (valG ks x).isSome = (valG ds x).isSome ∧ ∀ d, valG ds x = some d → ∃ v, valG ks x = some v ∧ Rep M H v d
 | _, _, .nil => ⟨rfl, fun d e => by cases e⟩
 | _, _, .cons (x := y) (v := v) q t => by
  have ih := t.val x
  unfold valG at *
  rw [List.find?_cons, List.find?_cons]
  by_cases h : y = x
  ·rw [decide_eq_true (show (y, v).1 = x from h)]
   exact ⟨rfl, fun d e => by cases e; exact ⟨v, rfl, q⟩⟩
  ·rw [decide_eq_false (show ¬ (y, v).1 = x from h)]; exact ih
theorem KR.get : ∀ {ks : List (Str × V)} {ds : List (Str × PyData)} {i : Nat} {p : Str × PyData}, KR M H ks ds → ds[i]? = some p → ∃ v, ks[i]? = some (p.1, v) ∧ Rep M H v p.2
 | _, _, _, _, .nil, e => by simp at e
 | _, _, 0, _, .cons r _, e => by simp at e; subst e; exact ⟨_, rfl, r⟩
 | _, _, i + 1, p, .cons _ t, e => by
  obtain ⟨v, h1, h2⟩ := KR.get (i := i) (p := p) t (by simpa using e)
  exact ⟨v, by simpa using h1, h2⟩
theorem Rep.dict_inv {v : V} {kv : List (PyData × PyData)} (r : Rep M H v (.dict kv)) : ∃ a, v = .ref a ∧ ¬ M a ∧ ((∃ ks ds, Rd H a (.dK (ks.map kK)) ∧ kv = ds.map dK ∧ KR M H ks ds) ∨ (∃ dx c fs ds, H a = some (.ins (Cs.adr c) dx fs) ∧ kv = (.none, .str c) :: ds.map dK ∧ KR M H fs ds) ∨ ∃ dx c fs ds, H a = some (ExO (Cs.adr c) dx a) ∧ (dx = Option.none ∧ fs = [] ∨ ∃ d, dx = some d ∧ H d = some (.xd fs) ∧ ¬ M d) ∧ kv = (.bool true, .str c) :: ds.map dK ∧ KR M H fs ds) := by
 cases r with
 | dict e n k q => exact ⟨_, rfl, n, .inl ⟨_, _, e, rfl, .of k q⟩⟩
 | inst e n k q => exact ⟨_, rfl, n, .inr (.inl ⟨_, _, _, _, e, rfl, .of k q⟩)⟩
 | exo e n x k q => exact ⟨_, rfl, n, .inr (.inr ⟨_, _, _, _, e, x, rfl, .of k q⟩)⟩
end
noncomputable def unD : List (PyData × PyData) → Option (List (Str × PyData))
 | [] => some []
 | (.str x, d) :: r => (unD r).map ((x, d) :: ·)
 | _ => none
theorem unD_map (ds : List (Str × PyData)) : unD (ds.map dK) = some ds := by
 induction ds with
 | nil => rfl
 | cons p r ih => simp [unD, dK, ih]
section
variable {X : Cx} {pins : List (Addr × Obj)} {σ : St} {H : Hp} {s : Shared} {a b : Addr} {kvs more : List (Key × V)} {A : Around} {E : Value → Shared → Prop}
end
section
variable {X : Cx} {o e : Expr} {apos cpos : Pos} {td te : TE}
end
theorem StrsAre.of : ∀ {ss : List Str} {us : List Value}, Vals (ss.map V.str) us → StrsAre us ss
 | [], _, .nil => .nil
 | n :: ns, _, .cons ⟨t, e⟩ r => by subst e; exact .cons n t (StrsAre.of r)
section
variable {X : Cx}
end
section
variable {prog : Program} {w : World} {A : Around} {E : Value → Shared → Prop} {s : Shared}
end
section
variable {X : Cx}
end
end L2
namespace L2
open PySem PySem.Spec PyProof.Rows
variable [Cs]
section
variable {X : Cx} {pins : List (Addr × Obj)} {σ : St} {H : Hp} {s : Shared} {a : Addr} {kvs : List (Key × V)}
end
section
variable {X : Cx} {tg : Expr}
end
section
variable {X : Cx} {tg o : Expr} {apos cpos : Pos}
end
end L2
namespace L3
open PySem PySem.Spec PyProof.Rows L2
variable [Cs]
noncomputable def Eqv (H H' : Hp) : Prop := ∀ b o, H b = some o → H' b = some o ∨ ∃ kvs, (o = .dK kvs ∨ ∃ ob, o = .frz ob (.dK kvs)) ∧ Rd H' b (.dK kvs)
section
variable {M0 M : Addr → Prop} {F F' : Fp} {Γ Γ' : Gv} {ν : Nu} {H H' Hf : Hp} {X : Cx} {a : Addr} {o : Obj} {kvs : List (Key × V)}
theorem Eqv.refl (H : Hp) : Eqv H H := fun _ _ e => .inl e
theorem Eqv.rd (h : Eqv H H') {b : Addr} {kvs : List (Key × V)} (r : Rd H b (.dK kvs)) : Rd H' b (.dK kvs) := by
 rcases r with e | ⟨ob, e⟩
 ·rcases h b _ e with z | ⟨k, z | ⟨ob, z⟩, r⟩
  ·exact .inl z
  ·cases z; exact r
  ·cases z
 ·rcases h b _ e with z | ⟨k, z | ⟨ob', z⟩, r⟩
  ·exact .inr ⟨_, z⟩
  ·cases z
  ·cases z; exact r
theorem Eqv.of (h : Eqv H H') {b : Addr} {o : HO} (e : H b = some o) (h1 : ∀ kvs, o ≠ .dK kvs) (h2 : ∀ ob kvs, o ≠ .frz ob (.dK kvs)) : H' b = some o := by
 rcases h b _ e with z | ⟨k, z | ⟨ob, z⟩, r⟩
 ·exact z
 ·exact absurd z (h1 k)
 ·exact absurd z (h2 ob k)
theorem Eqv.stay (h : Eqv H H') {b : Addr} (n : H b ≠ none) : H' b ≠ none := by
 cases q : H b with
 | none => exact absurd q n
 | some o =>
  rcases h b _ q with z | ⟨k, _, z | ⟨ob, z⟩⟩ <;> rw [z] <;> exact fun w => nomatch w
mutual
theorem Rep.eqv (h : Eqv H H') : ∀ {v : V} {d : PyData}, Rep M H v d → Rep M H' v d
 | _, _, .none => .none
 | _, _, .bool b => .bool b
 | _, _, .int i => .int i
 | _, _, .str x => .str x
 | _, _, .list e n r => .list (h.of e (fun _ z => nomatch z) (fun _ _ z => nomatch z)) n (RepL.eqv h r)
 | _, _, .tuple e r => .tuple (h.of e (fun _ z => nomatch z) (fun _ _ z => nomatch z)) (RepL.eqv h r)
 | _, _, .dict e n k r => .dict (h.rd e) n k (RepL.eqv h r)
 | _, _, .inst e n k r => .inst (h.of e (fun _ z => nomatch z) (fun _ _ z => nomatch z)) n k (RepL.eqv h r)
 | _, _, .exo e n x k r => .exo (h.of e (fun _ z => nomatch z) (fun _ _ z => nomatch z)) n (x.imp id fun ⟨d, z, q, m⟩ => ⟨d, z, h.of q (fun _ z => nomatch z) (fun _ _ z => nomatch z), m⟩) k (RepL.eqv h r)
theorem RepL.eqv (h : Eqv H H') : ∀ {vs : List V} {ds : List PyData}, RepL M H vs ds → RepL M H' vs ds
 | _, _, .nil => .nil
 | _, _, .cons r t => .cons (Rep.eqv h r) (RepL.eqv h t)
end
theorem RS.eqv (r : RS M0 F Γ ν H) (h : Eqv H H') (hF : ∀ i, ∀ a ∈ F i, H' a = H a) : RS M0 F Γ ν H' :=
 ⟨fun a ha => h.stay (r.al0 a ha), r.dis0, r.nd, r.dis, fun i o e => let ⟨v, e1, q⟩ := r.at' i o e; ⟨v, e1, q.go (fun _ _ x => Rep.eqv h x) (fun b xs e => h.of e (fun _ z => nomatch z) (fun _ _ z => nomatch z)) (hF i)⟩, r.emp, r.len⟩
end
noncomputable def hideM (M0 : Addr → Prop) (F : Fp) (i : Nat) : Addr → Prop := fun a => M0 a ∨ a ∈ F i
section
variable {M0 : Addr → Prop} {F F' : Fp} {Γ Γ' : Gv} {ν : Nu} {H H' : Hp} {i : Nat}
theorem mm_hide {F3 : Fp} (h : F3 i = []) : MM (hideM M0 F i) F3 = MM M0 (fset F3 i (F i)) := by
 funext a
 apply propext
 constructor
 ·rintro ((h1 | h1) | ⟨j, h1⟩)
  ·exact .inl h1
  ·exact .inr ⟨i, by rw [fset_same]; exact h1⟩
  ·refine .inr ⟨j, ?_⟩
   rw [fset_ne (fun z => by subst z; rw [h] at h1; cases h1)]; exact h1
 ·rintro (h1 | ⟨j, h1⟩)
  ·exact .inl (.inl h1)
  ·by_cases z : j = i
   ·subst z; rw [fset_same] at h1; exact .inl (.inr h1)
   ·rw [fset_ne z] at h1; exact .inr ⟨j, h1⟩
theorem fset_id : fset (fset F i []) i (F i) = F := by
 funext j
 by_cases z : j = i
 ·subst z; rw [fset_same]
 ·rw [fset_ne z, fset_ne z]
end
section
variable {X : Cx} {XP : XPT} {mp : List Nat} {a b c e tg iter elt : Expr} {es ifs : List Expr} {pos p p2 : Pos} {fa fb fc : EM FV} {ta tb : EM Bool} {na nb : EM (List PyData)}
noncomputable def loopG {β γ : Type} (k : Nat) (t : IT) (cond : EM Bool) (it : EM β) (add : γ → β → γ) : List PyData → γ → Gv → R (γ × Gv)
 | [], ys, Γ => .ok (ys, Γ)
 | d :: ds, ys, Γ => match tgF t d (Γ ++ List.replicate k none) with
  | none => .bad
  | some Γ2 => match cond Γ2 with
   | .ok (true, Γ3) => match it Γ3 with
    | .ok (y, Γ4) => loopG k t cond it add ds (add ys y) (Γ4.take Γ.length)
    | .exc x Γ4 => .exc x (Γ4.take Γ.length)
    | .bad => .bad
   | .ok (false, Γ3) => loopG k t cond it add ds ys (Γ3.take Γ.length)
   | .exc x Γ3 => .exc x (Γ3.take Γ.length)
   | .bad => .bad
structure AccR {α β γ δ : Type} (ac : Acc α β) (ad : γ → δ → γ) (RA : (Addr → Prop) → Fp → Hp → α → γ → Prop) (RB : (Addr → Prop) → Fp → Hp → β → δ → Prop) (ln : γ → Nat) : Prop where
 stp : ∀ {M0 : Addr → Prop} {F F' : Fp} {H H' : Hp} {x : α} {y : γ}, RA M0 F H x y → Stp F H F' H' → (∀ a, M0 a → H a ≠ none) → RA M0 F' H' x y
 add : ∀ {M0 : Addr → Prop} {F : Fp} {H : Hp} {x : α} {y : γ} {u : β} {d : δ}, RA M0 F H x y → RB M0 F H u d → RA M0 F H (ac.add x u) (ad y d)
 bst : ∀ {M0 : Addr → Prop} {F F' : Fp} {H H' : Hp} {u : β} {d : δ}, RB M0 F H u d → Stp F H F' H' → (∀ a, M0 a → H a ≠ none) → RB M0 F' H' u d
 len : ∀ {M0 : Addr → Prop} {F : Fp} {H : Hp} {x : α} {y : γ}, RA M0 F H x y → ac.len x = ln y
 lin : ∀ (y : γ) (d : δ), ln (ad y d) ≤ ln y + 1
 eqv : ∀ {M0 : Addr → Prop} {F : Fp} {H H' : Hp} {x : α} {y : γ}, RA M0 F H x y → Eqv H H' → RA M0 F H' x y
 mm : ∀ {M0 M0' : Addr → Prop} {F F' : Fp} {H : Hp} {x : α} {y : γ}, MM M0 F = MM M0' F' → RA M0 F H x y → RA M0' F' H x y
theorem loopG_sound {XQ : XPT} {α β γ δ : Type} {ac : Acc α β} {add : γ → δ → γ} {RA : (Addr → Prop) → Fp → Hp → α → γ → Prop} {RB : (Addr → Prop) → Fp → Hp → β → δ → Prop} {len : γ → Nat} (AR : AccR ac add RA RB len) {N' : List Str} {scope : Scope} {n k : Nat} {ix : List Nat} {t : IT} {cond : EM Bool} {it : EM δ} {te : St → Hp → (β → Hp → Prop) → Prop} {M0 : Addr → Prop} {F1 : Fp} {ν : Nu} {σ : St} {H1 : Hp} {J : It} {ds : List PyData} {P : Fp → Gv → Hp → γ → Prop} {Γ1 : Gv} {Q : α → Hp → Prop} {c0 : γ}
  (hm : ∀ j i : Nat, ix[j]? = some i → ∃ m, mp[i]? = some m ∧ m < n) (hN' : N'.length = k + ix.length) (h0 : RA M0 F1 H1 ac.a0 c0) (hl0 : len c0 = 0)
  (hg : ∀ cl C s2 H2 fp, Cat X σ C s2 H2 fp → SG (X.comp N' scope cl C s2 H2 fp) (mpC mp n k ix) (· < n) tg t) (hc : ∀ cl C s2 H2 fp, Cat X σ C s2 H2 fp → SF (X.comp N' scope cl C s2 H2 fp) (XPc XP σ) (mpC mp n k ix) ifs cond)
  (he : ∀ (M0 : Addr → Prop) (F : Fp) (Γ : Gv) (ν : Nu) (σ1 : St) (H : Hp) (Q : β → Hp → Prop), RS M0 F Γ ν H → Sees (mpC mp n k ix) ν σ1 → EPost M0 F ν σ1 H (XPc XP σ) (fun F' Γ' H' d => ∀ y, RB M0 F' H' y d → Q y H') (it Γ) → te σ1 H Q)
  (hq : ∀ x Γ F ν H, XQ x Γ F ν σ H → XPc XP σ x Γ F ν σ H) (rs1 : RS M0 F1 Γ1 ν H1) (hs : Sees mp ν σ) (hJ : JI M0 F1 J ds H1) (hd : ds.length ≤ 1000000) (hn : Γ1.length = n) (hp : EPost M0 F1 ν σ H1 XQ P (loopG k t cond it add ds c0 Γ1))
  (fin : ∀ F' Γ' H' ys vs, RS M0 F' Γ' ν H' → RA M0 F' H' vs ys → P F' Γ' H' ys → Stp F1 H1 F' H' → Q vs H') :
  cRun ac k ix (gU X N' scope tg σ) (fU X N' scope ifs σ) te σ J H1 Q := by
 have hνn : ν.length = n := by rw [rs1.len, hn]
 refine ⟨fun i m vs H => m = ds.length - i ∧ i ≤ ds.length ∧ ∃ F' Γ' ys, RS M0 F' Γ' ν H ∧ Stp F1 H1 F' H ∧ RA M0 F' H vs ys ∧ Γ'.length = n ∧ len ys ≤ i ∧ EPost M0 F' ν σ H XQ P (loopG k t cond it add (ds.drop i) ys Γ'), ⟨ds.length, by simp, Nat.zero_le _, F1, Γ1, c0, rs1, .refl _ _, h0, hn, by rw [hl0]; exact Nat.le_refl _, hp⟩, ?_⟩
 rintro i m vs H ⟨rfl, hil, F', Γ', ys, rs, st, rv, hln, hyl, hp⟩
 have hsz := sizeLine_eq
 refine ⟨by rw [AR.len rv]; omega, ?_⟩
 by_cases hlt : i < ds.length
 ·rw [List.drop_eq_getElem_cons hlt, loopG] at hp
  obtain ⟨jgo, jst⟩ := hJ i F' H st rs1.al0
  obtain ⟨go, yl⟩ := jgo ds[i] (by simp [hlt])
  refine .inr ⟨go, fun vs' H' => ∃ F'' Γ'' ys', RS M0 F'' Γ'' ν H' ∧ Stp F1 H1 F'' H' ∧ RA M0 F'' H' vs' ys' ∧ Γ''.length = n ∧ len ys' ≤ i + 1 ∧ EPost M0 F'' ν σ H' XQ P (loopG k t cond it add (ds.drop (i + 1)) ys' Γ''), fun vs' H' h => ⟨ds.length - (i + 1), by omega, rfl, hlt, h⟩, fun x H2 hy => ?_⟩
  obtain ⟨s2, rx⟩ := yl x H2 hy
  have rs2 := (rs.same s2).ext k
  have hcl : (cS k ix σ).length = N'.length := by unfold cS; simp [hN']
  have hsee : Sees (mpC mp n k ix) (ν ++ List.replicate k none) (cS k ix σ) := fun s j v e1 e2 => by
   by_cases hsk : s < k
   ·rw [mpC_lo hsk] at e1
    cases e1
    rw [List.getElem?_append_right (by omega), List.getElem?_replicate] at e2
    split at e2 <;> cases e2
   ·obtain ⟨j', rfl⟩ : ∃ j', s = k + j' := ⟨s - k, by omega⟩
    rw [mpC_hi] at e1
    cases q : ix[j']? with
    | none => rw [q] at e1; cases e1
    | some i0 =>
     rw [q] at e1
     obtain ⟨m, hm1, hm2⟩ := hm j' i0 q
     have : mp.getD i0 0 = m := by rw [List.getD_eq_getElem?_getD, hm1]; rfl
     have ej : m = j := by
      have e3 : some (mp.getD i0 0) = some j := e1
      rw [this] at e3; exact Option.some.inj e3
     subst ej
     rw [List.getElem?_append_left (by omega)] at e2
     exact cS_get q (hs i0 m v hm1 e2)
  cases et : tgF t ds[i] (Γ' ++ List.replicate k none) with
  | none => rw [et] at hp; exact hp.elim
  | some Γ2 =>
   rw [et] at hp
   intro cl C s2' H2' fp cat
   refine hg cl C s2' H2' fp cat M0 F' _ Γ2 _ (cS k ix σ) H2 x ds[i] _ rs2 hsee hcl rx et fun F3 ν3 σ3 rs3 s3 hs3 hl3 n3 m3 => ⟨?_, fun cl C s2' H2' fp cat => ?_⟩
   ·apply List.ext_getElem?
    intro j
    rw [List.getElem?_drop, List.getElem?_drop]
    by_cases hj : j < ix.length
    ·obtain ⟨m, hm1, hm2⟩ := hm j ix[j] (by simp [hj])
     refine m3 (k + j) m ?_ hm2
     rw [mpC_hi, List.getElem?_eq_getElem hj]
     show some (mp.getD ix[j] 0) = some m
     rw [List.getD_eq_getElem?_getD, hm1]; rfl
    ·have hl3' : σ3.length = N'.length := hl3
     rw [List.getElem?_eq_none (by omega), List.getElem?_eq_none (by omega)]
   ·have stA : Stp F1 H1 F3 H2 := (st.trans (.same s2)).trans s3
    have back : ∀ {F4 : Fp} {Γ4 : Gv} {H4 : Hp}, RS M0 F4 Γ4 ν3 H4 → RS M0 (fcut F4 n) (Γ4.take n) ν H4 ∧ Stp F4 H4 (fcut F4 n) H4 := fun {F4 Γ4 H4} r4 => by
     obtain ⟨r5, s5⟩ := r4.cut n
     have : ν3.take n = ν := by
      apply List.ext_getElem?
      intro j
      by_cases hj : j < n
      ·rw [List.getElem?_take_of_lt hj, n3 j hj, List.getElem?_append_left (by omega)]
      ·rw [List.getElem?_eq_none (by rw [List.length_take]; omega), List.getElem?_eq_none (by omega)]
     rw [this] at r5
     exact ⟨r5, s5⟩
    have lenOf : ∀ {F4 : Fp} {Γ4 : Gv} {H4 : Hp}, RS M0 F4 Γ4 ν3 H4 → (Γ4.take n).length = n := fun {F4 Γ4 H4} r4 => by
     have h1 := r4.len
     have h2 := rs3.len
     have h3 : Γ2.length = n + k := by rw [tgF_length _ _ _ _ et, List.length_append, List.length_replicate, hln]
     rw [List.length_take]; omega
    refine hc cl C s2' H2' fp cat M0 F3 Γ2 ν3 σ3 H2 _ rs3 hs3 ?_
    dsimp only at hp
    cases ec : cond Γ2 with
    | bad => rw [ec] at hp; exact hp.elim
    | exc xx yy =>
     rw [ec] at hp
     intro F4 H4 rs4 s4
     obtain ⟨r5, s5⟩ := back rs4
     exact hq _ _ _ _ _ (hp _ H4 (by rw [hln]; exact r5) ((((Stp.same s2).trans s3).trans s4).trans s5))
    | ok z =>
     obtain ⟨bb, Γ3⟩ := z
     rw [ec] at hp
     intro F4 H4 rs4 s4
     have rvA : RA M0 F4 H4 vs ys := AR.stp (AR.stp (AR.stp rv (.same s2) rs.al0) s3 (rs.same s2).al0) s4 rs3.al0
     cases bb with
     | false =>
      refine iteF ?_
      obtain ⟨r5, s5⟩ := back rs4
      have stB := (stA.trans s4).trans s5
      rw [hln] at hp
      exact ⟨_, _, ys, r5, stB, AR.stp rvA s5 rs4.al0, lenOf rs4, by omega, hp.step ((((Stp.same s2).trans s3).trans s4).trans s5)⟩
     | true =>
      refine iteT (he M0 F4 Γ3 ν3 σ3 H4 _ rs4 hs3 ?_)
      dsimp only at hp
      cases ee : it Γ3 with
      | bad => rw [ee] at hp; exact hp.elim
      | exc xx yy =>
       rw [ee] at hp
       intro F5 H5 rs5 s5
       obtain ⟨r6, s6⟩ := back rs5
       exact hq _ _ _ _ _ (hp _ H5 (by rw [hln]; exact r6) (((((Stp.same s2).trans s3).trans s4).trans s5).trans s6))
      | ok z =>
       obtain ⟨u, Γ4⟩ := z
       rw [ee] at hp
       intro F5 H5 rs5 s5 v hv
       dsimp only at hp
       obtain ⟨r6, s6⟩ := back rs5
       have stB := ((stA.trans s4).trans s5).trans s6
       rw [hln] at hp
       exact ⟨_, _, add ys u, r6, stB, AR.add (AR.stp (AR.stp rvA s5 rs4.al0) s6 rs5.al0) (AR.bst hv s6 rs5.al0), lenOf rs5, by have := AR.lin ys u; omega, hp.step (((((Stp.same s2).trans s3).trans s4).trans s5).trans s6)⟩
 ·have e : i = ds.length := by omega
  subst e
  rw [List.drop_length, loopG] at hp
  obtain ⟨jgo, jst⟩ := hJ _ F' H st rs1.al0
  exact .inl ⟨jst (Nat.le_refl _), fin F' Γ' H ys vs rs rv (hp F' H rs (.refl _ _)) st⟩
noncomputable def itL (elt : EM FV) : EM PyData := fun Γ => (elt Γ).bind fun (u, Γ1) => match derS Γ1 u with
 | some y => .ok (y, Γ1)
 | none => .bad
theorem accR_list : AccR accL (fun (ys : List PyData) y => ys ++ [y]) (fun M0 F H vs ys => RepL (MM M0 F) H vs ys) (fun M0 F H v y => Rep (MM M0 F) H v y) List.length where
 stp r s h0 := repL_stp s h0 r
 add r q := RepL.append r (.cons q .nil)
 bst r s h0 := rep_stp s h0 r
 len r := r.length
 lin y d := by simp
 eqv r h := RepL.eqv h r
 mm e r := by rw [← e]; exact r
noncomputable def loopC (k : Nat) (t : IT) (cond : EM Bool) (elt : EM FV) : List PyData → List PyData → Gv → R (List PyData × Gv) := loopG k t cond (itL elt) fun ys y => ys ++ [y]
noncomputable def fComp (n k : Nat) (t : IT) (src : EM (List PyData)) (cond : EM Bool) (elt : EM FV) : EM (List PyData) := fun Γ => (src Γ).bind fun (ds, Γ1) => if ds.length ≤ 1000000 ∧ Γ1.length = n then loopC k t cond elt ds [] Γ1 else .bad
theorem itL_ok {mp' : List Nat} {Y : Cx} {el : EM FV} {XP : XPT} (he : SE Y XP mp' elt el) {M0 : Addr → Prop} {F : Fp} {Γ : Gv} {ν : Nu} {σ : St} {H : Hp} {Q : VK} (rs : RS M0 F Γ ν H) (hs : Sees mp' ν σ) (hp : EPost M0 F ν σ H XP (fun F' Γ' H' d => ∀ y, Rep (MM M0 F') H' y d → Q y H') (itL el Γ)) : wpE Y elt σ H Q :=
 he.run rs hs hp fun F1 Γ1 H1 u v rs1 s1 o1 h1 => by
  dsimp only at h1
  split at h1
  ·rename_i y ey
   exact h1 F1 H1 rs1 (.refl _ _) v (o1.strong rs1 ey)
  ·exact h1.elim
theorem snt_comp {N' : List Str} {scope : Scope} {n k : Nat} {ix : List Nat} {t : IT} {src : EM (List PyData)} {cond : EM Bool} {el : EM FV} (S : CSc X.env.scope X.N scope N' k ix) (hm : ∀ j i : Nat, ix[j]? = some i → ∃ m, mp[i]? = some m ∧ m < n)
  (hi : SI X XP mp tg iter src) (hg : ∀ σ cl C s2 H2 fp, Cat X σ C s2 H2 fp → SG (X.comp N' scope cl C s2 H2 fp) (mpC mp n k ix) (· < n) tg t) (hc : ∀ σ cl C s2 H2 fp, Cat X σ C s2 H2 fp → SF (X.comp N' scope cl C s2 H2 fp) (XPc XP σ) (mpC mp n k ix) ifs cond) (he : ∀ σ cl C s2 H2 fp, Cat X σ C s2 H2 fp → SE (X.comp N' scope cl C s2 H2 fp) (XPc XP σ) (mpC mp n k ix) elt el) :
  SNt XP mp (tComp k ix (wpI X tg iter) (gU X N' scope tg) (fU X N' scope ifs) (eU X N' scope elt)) (fComp n k t src cond el) := fun M0 F Γ ν σ H Q rs hs hp => by
 refine hi M0 F Γ ν σ H _ rs hs (hp.seq.mono fun F1 Γ1 H1 ds rs1 s1 h1 J hJ => ?_)
 dsimp only at h1
 split at h1
 ·rename_i hh
  exact loopG_sound accR_list hm S.len .nil rfl (hg σ) (hc σ) (fun M0 F Γ ν σ1 H Q rs hs hp cl C s2 H2 fp c => itL_ok (he σ cl C s2 H2 fp c) rs hs hp) (fun _ _ _ _ _ h => ⟨_, _, _, h⟩) rs1 hs hJ hh.1 hh.2 h1 fun F' Γ' H' ys vs rs' rv hP _ p hp' => hP vs p rv hp'
 ·exact h1.elim
theorem sn_comp {N' : List Str} {scope : Scope} {n k : Nat} {ix : List Nat} {t : IT} {src : EM (List PyData)} {cond : EM Bool} {el : EM FV} (hcalm : X.calm = true) (S : CSc X.env.scope X.N scope N' k ix) (hm : ∀ j i : Nat, ix[j]? = some i → ∃ m, mp[i]? = some m ∧ m < n)
  (hi : SI X XP mp tg iter src) (hg : ∀ σ cl C s2 H2 fp, Cat X σ C s2 H2 fp → SG (X.comp N' scope cl C s2 H2 fp) (mpC mp n k ix) (· < n) tg t) (hc : ∀ σ cl C s2 H2 fp, Cat X σ C s2 H2 fp → SF (X.comp N' scope cl C s2 H2 fp) (XPc XP σ) (mpC mp n k ix) ifs cond) (he : ∀ σ cl C s2 H2 fp, Cat X σ C s2 H2 fp → SE (X.comp N' scope cl C s2 H2 fp) (XPc XP σ) (mpC mp n k ix) elt el)
  (hf : ∀ x, foldedSetIterable iter X.env x = pure x) : SN X XP mp (.ListComp elt [⟨tg, iter, ifs, 0⟩] scope pos) (fComp n k t src cond el) := fun M0 F Γ ν σ H Q rs hs hp =>
 (pe_compU hcalm S hf).wp (snt_comp S hm hi hg hc he M0 F Γ ν σ H Q rs hs hp)
noncomputable def SD (X : Cx) (XP : XPT) (mp : List Nat) (e : Expr) (f : EM (List (Str × PyData))) : Prop := ∀ (M0 : Addr → Prop) (F : Fp) (Γ : Gv) (ν : Nu) (σ : St) (H : Hp) (Q : VK), RS M0 F Γ ν H → Sees mp ν σ →
 EPost M0 F ν σ H XP (fun F' Γ' H' ds => ∀ ks p, KR (MM M0 F') H' ks ds → H' p = none → Q (.ref p) (upd H' p (.dK (ks.map kK)))) (f Γ) → wpE X e σ H Q
noncomputable def SDt (XP : XPT) (mp : List Nat) (t : TE) (f : EM (List (Str × PyData))) : Prop := ∀ (M0 : Addr → Prop) (F : Fp) (Γ : Gv) (ν : Nu) (σ : St) (H : Hp) (Q : VK), RS M0 F Γ ν H → Sees mp ν σ →
 EPost M0 F ν σ H XP (fun F' Γ' H' ds => ∀ ks p, KR (MM M0 F') H' ks ds → H' p = none → Q (.ref p) (upd H' p (.dK (ks.map kK)))) (f Γ) → t σ H Q
theorem KR.stp {M0 : Addr → Prop} {F F' : Fp} {H H' : Hp} {ks : List (Str × V)} {ds : List (Str × PyData)} (h : KR (MM M0 F) H ks ds) (s : Stp F H F' H') (h0 : ∀ a, M0 a → H a ≠ none) : KR (MM M0 F') H' ks ds := h.map fun _ _ x => rep_stp s h0 x
end
end L3
namespace L2
open PySem PySem.Spec PyProof.Rows
variable [Cs]
end L2
namespace L3
open PySem PySem.Spec PyProof.Rows L2
noncomputable def ixF : List Str → Str → Option Nat
 | [], _ => none
 | n :: ns, f => if n = f then some 0 else (ixF ns f).map (· + 1)
variable [Cs]
theorem ORL.at' {M : Addr → Prop} {H : Hp} : ∀ {vs : List V} {xs : List OV} {A : List Addr} {j : Nat} {x : OV}, ORL M H vs xs A → xs[j]? = some x → ∃ v A1 B A2, vs[j]? = some v ∧ OR M H v x B ∧ A = A1 ++ (B ++ A2) ∧
  ∀ (M' : Addr → Prop) (H' : Hp) (v' : V) (x' : OV) (B' : List Addr), (∀ w d, Rep M H w d → Rep M' H' w d) → (∀ c xs, H c = some (.tup xs) → H' c = some (.tup xs)) → (∀ b ∈ A1 ++ A2, H' b = H b) → OR M' H' v' x' B' → ORL M' H' (vs.set j v') (xs.set j x') (A1 ++ (B' ++ A2))
 | _, _, _, _, _, .nil, e => by simp at e
 | _, _, _, 0, x, .cons (A := A) (B := B) r t, e => by
  simp at e
  subst e
  exact ⟨_, [], A, B, rfl, r, rfl, fun M' H' v' x' B' hr ht hk q => ORL.cons (A := B') (B := B) q (t.go hr ht fun b hb => hk b (by simpa using hb))⟩
 | _, _, _, j + 1, x, .cons (A := A) (B := B) r t, e => by
  obtain ⟨v, A1, C, A2, h1, h2, h3, h4⟩ := ORL.at' (j := j) t (by simpa using e)
  refine ⟨v, A ++ A1, C, A2, by simpa using h1, h2, by rw [h3]; simp, fun M' H' v' x' B' hr ht hk q => ?_⟩
  have := ORL.cons (r.go hr ht fun b hb => hk b (by simp [hb])) (h4 M' H' v' x' B' hr ht (fun b hb => hk b (by simp at hb ⊢; rcases hb with h | h <;> simp [h])) q)
  simpa using this
section
variable {M0 : Addr → Prop} {F F' : Fp} {Γ Γ' : Gv} {ν ν' : Nu} {H H' : Hp} {c : Str} {ns : List Str} {xs : List OV}
theorem nu_set {i : Nat} {v : V} (h : ν[i]? = some (some v)) : ν.set i (some v) = ν := by
 apply List.ext_getElem?
 intro k
 by_cases hk : i = k
 ·subst hk; rw [List.getElem?_set_self (List.getElem?_eq_some_iff.mp h).1, h]
 ·rw [List.getElem?_set_ne hk]
theorem RS.wrO {i : Nat} {b : Addr} {u : HO} {o : OV} {v : V} {A : List Addr} (r : RS M0 F Γ ν H) (hi : i < Γ.length) (hv : ν[i]? = some (some v)) (hb : b ∈ F i) (hu : ∀ xs, H b ≠ some (.tup xs)) (hsub : ∀ a ∈ A, a ∈ F i) (hnd : A.Nodup)
  (q : (∀ w d, Rep (MM M0 F) H w d → Rep (MM M0 (fset F i A)) (upd H b u) w d) → (∀ c xs, H c = some (.tup xs) → upd H b u c = some (.tup xs)) → OR (MM M0 (fset F i A)) (upd H b u) v o A) :
  ∃ F', RS M0 F' (Γ.set i (some o)) ν (upd H b u) ∧ Stp F H F' (upd H b u) := by
 have ht : ∀ c xs, H c = some (.tup xs) → upd H b u c = some (.tup xs) := fun c xs e => by
  rw [upd_ne (fun z => by subst z; exact hu xs e)]; exact e
 have s : Stp F H (fset F i A) (upd H b u) := ⟨fun c o ec nc => ⟨by
   rw [upd_ne (fun z => by subst z; exact nc i hb)]; exact ec, fun k h => by
   by_cases hk : k = i
   ·subst hk; rw [fset_same] at h; exact nc _ (hsub _ h)
   ·rw [fset_ne hk] at h; exact nc _ h⟩, ht, fun c h => by
   by_cases z : c = b
   ·subst z; rw [upd_same]; exact fun z => nomatch z
   ·rw [upd_ne z]; exact h⟩
 have r1 := r.put (i := i) (o := o) (v := v) (A := A) (H' := upd H b u) s (fun k hk c hc => upd_ne fun z => by subst z; exact hk (r.dis _ _ _ hc hb))
  (fun c h => s.stay c (r.al0 c h)) (fun a ha => r.dis0 i a (hsub a ha)) hnd (fun k hk c hc h => hk (r.dis _ _ c h (hsub c hc))) hi (q (fun w d x => rep_stp s r.al0 x) ht)
 rw [nu_set hv] at r1
 exact ⟨_, r1, s⟩
end
structure FldK (X : Cx) (c f : Str) : Prop where
 cl : Cls X.K (Cs.adr c)
 no : NoAttr X.K (Cs.adr c) f
section
variable {X : Cx} {XP : XPT} {mp io : List Nat} {a b e : Expr} {es : List Expr} {pos p p2 pos' p3 : Pos} {fa fb fc : EM FV} {fo : EM OV} {kx : Nat} {c f x : Str} {s i : Nat} {M0 : Addr → Prop} {F : Fp} {Γ : Gv} {ν : Nu} {σ : St} {H : Hp}
structure FldAt (M0 : Addr → Prop) (F : Fp) (Γ : Gv) (ν : Nu) (H : Hp) (i : Nat) (c f : Str) (o : OV) (v : V) : Prop where
 ex : ∃ a dx fs ns xs j A1 B A2, Γ[i]? = some (some (.o c ns xs)) ∧ ν[i]? = some (some (.ref a)) ∧ H a = some (.ins (Cs.adr c) dx fs) ∧ fs.map (·.1) = ns ∧ ixF ns f = some j ∧ xs[j]? = some o ∧ fs[j]? = some (f, v) ∧ OR (MM M0 F) H v o B ∧ F i = a :: (A1 ++ (B ++ A2)) ∧
  ∀ (M' : Addr → Prop) (H' : Hp) (v' : V) (x' : OV) (B' : List Addr), (∀ w d, Rep (MM M0 F) H w d → Rep M' H' w d) → (∀ c xs, H c = some (.tup xs) → H' c = some (.tup xs)) → (∀ b ∈ A1 ++ A2, H' b = H b) → OR M' H' v' x' B' → ORL M' H' ((fs.set j (f, v')).map (·.2)) (xs.set j x') (A1 ++ (B' ++ A2))
noncomputable def setO (c : Str) (ns : List Str) (xs : List OV) (f : Str) (o : OV) : OV := match ixF ns f with
 | some j => .o c ns (xs.set j o)
 | none => .o c (ns ++ [f]) (xs ++ [o])
end
end L3
namespace L3
open PySem PySem.Spec PyProof.Rows L2
noncomputable def updF (Γ : Gv) (i : Nat) (f : Str) (o : OV) : Gv := match Γ[i]? with
 | some (some (.o c ns xs)) => Γ.set i (some (setO c ns xs f o))
 | _ => Γ
variable [Cs]
section
variable {X : Cx} {XP : XPT} {mp io : List Nat} {a b e : Expr} {es : List Expr} {pos p p2 pos' p3 : Pos} {fa fb fc : EM FV} {fo : EM OV} {kx : Nat} {c f x : Str} {s i : Nat} {M0 : Addr → Prop} {F : Fp} {Γ : Gv} {ν : Nu} {σ : St} {H H' : Hp}
theorem FldAt.same {o o' : OV} {v v' : V} (h : FldAt M0 F Γ ν H i c f o v) (h' : FldAt M0 F Γ ν H' i c f o' v') (s : Same H H') : v = v' := by
 obtain ⟨a, dx, fs, ns, xs, j, _, _, _, e1, e2, e3, _, e5, _, e7, _⟩ := h.ex
 obtain ⟨a', dx', fs', ns', xs', j', _, _, _, e1', e2', e3', _, e5', _, e7', _⟩ := h'.ex
 rw [e1] at e1'; cases e1'
 rw [e2] at e2'; cases e2'
 rw [s _ _ e3] at e3'; cases e3'
 rw [e5] at e5'; cases e5'
 rw [e7] at e7'; cases e7'
 rfl
theorem FldAt.mut {o o' : OV} {b : Addr} {u : HO} {Bs : List Addr} (h : FldAt M0 F Γ ν H i c f o (.ref b)) (rs : RS M0 F Γ ν H) (hB : ∀ B, OR (MM M0 F) H (.ref b) o B → B = b :: Bs) (hu : ∀ xs, H b ≠ some (.tup xs)) (hui : ∀ C dx fs, H b ≠ some (.ins C dx fs))
  (q : ∀ (M' : Addr → Prop) (H' : Hp), H' b = some u → (∀ w d, Rep (MM M0 F) H w d → Rep M' H' w d) → (∀ b' ∈ Bs, b' ≠ b → H' b' = H b') → (∀ c xs, H c = some (.tup xs) → H' c = some (.tup xs)) → OR M' H' (.ref b) o' (b :: Bs)) :
  ∃ F', RS M0 F' (updF Γ i f o') ν (upd H b u) ∧ Stp F H F' (upd H b u) := by
 obtain ⟨a, dx, fs, ns, xs, j, A1, B, A2, e1, e2, e3, e4, e5, e6, e7, e8, e9, e10⟩ := h.ex
 have eB := hB B e8
 subst eB
 have hi : i < Γ.length := (List.getElem?_eq_some_iff.mp e1).1
 have hba : b ≠ a := fun z => by subst z; exact hui _ _ _ e3
 have hbF : b ∈ F i := by rw [e9]; simp
 have hnd := rs.nd i
 have hset : updF Γ i f o' = Γ.set i (some (.o c ns (xs.set j o'))) := by
  unfold updF
  rw [e1]
  show Γ.set i (some (setO c ns xs f o')) = _
  unfold setO
  rw [e5]
 rw [hset]
 have hfs : fs.set j (f, .ref b) = fs := by
  apply List.ext_getElem?
  intro k
  by_cases hk : j = k
  ·subst hk; rw [List.getElem?_set_self (List.getElem?_eq_some_iff.mp e7).1, e7]
  ·rw [List.getElem?_set_ne hk]
 refine rs.wrO (A := F i) hi e2 hbF hu (fun _ h => h) hnd fun hr ht => ?_
 rw [e9] at hnd
 have hndc := List.nodup_cons.mp hnd
 have n1 := List.nodup_append.mp hndc.2
 have n2 := List.nodup_append.mp n1.2.1
 have hnot : ∀ b', b' ∈ A1 ++ A2 → b' ≠ b := fun b' hb' z => by
  subst z
  rcases List.mem_append.mp hb' with h | h
  ·exact n1.2.2 _ h _ (by simp) rfl
  ·exact n2.2.2 _ List.mem_cons_self _ h rfl
 have := e10 (MM M0 (fset F i (F i))) (upd H b u) (.ref b) o' (b :: Bs) hr ht (fun b' hb' => upd_ne (hnot b' hb')) (q _ _ upd_same hr (fun b' _ hne => upd_ne hne) ht)
 rw [hfs] at this
 have e9' := e9
 generalize MM M0 (fset F i (F i)) = MX at this ⊢
 rw [e9]
 exact .o (by rw [upd_ne (Ne.symm hba)]; exact e3) e4 this
theorem FldAt.lst {ys : List OV} {ds : List PyData} {v : V} (h : FldAt M0 F Γ ν H i c f (.l ys) v) (rs : RS M0 F Γ ν H) (hl : leaves ys = some ds) : ∃ b us, v = .ref b ∧ H b = some (.lst us) ∧ RepL (MM M0 F) H us ds ∧
  ∀ us' ds', RepL (MM M0 F) H us' ds' → ∃ F', RS M0 F' (updF Γ i f (.l (ds'.map .d))) ν (upd H b (.lst us')) ∧ Stp F H F' (upd H b (.lst us')) := by
 obtain ⟨a, dx, fs, ns, xs, j, A1, B, A2, e1, e2, e3, e4, e5, e6, e7, e8, e9, e10⟩ := id h.ex
 cases e8 with
 | @l b us _ A' eb qb =>
  obtain ⟨q1, q2⟩ := qb.leaf hl
  subst q2
  refine ⟨b, us, rfl, eb, q1, fun us' ds' r' => h.mut (Bs := []) rs (fun B q => ?_) (fun xs z => by rw [eb] at z; cases z) (fun C dx fs z => by rw [eb] at z; cases z) fun M' H' hb hr _ _ => .l hb (ORL.data (repL_map hr r'))⟩
  cases q with
  | @l _ us2 _ A2 eb2 qb2 =>
   rw [(qb2.leaf hl).2]
end
end L3
namespace Tab
open PySem PySem.Spec PyProof.Rows
noncomputable abbrev setO (led : Bool) : Obj := { cls := .type "set", dict := none, data := .set #[] 0 (.fresh 0 0 led) }
section
variable {prog : Program} {w : World} {A : Around} {E : Value → Shared → Prop} {s : Shared}
end
end Tab
namespace L2
open PySem PySem.Spec PyProof.Rows
variable [Cs]
section
variable {X : Cx}
end
end L2
namespace L3
open PySem PySem.Spec PyProof.Rows L2
variable [Cs]
section
variable {X : Cx} {XP : XPT} {mp : List Nat} {a b : Expr} {p1 p2 q1 q2 : Pos} {fa fb : EM FV}
theorem vals_ints {M : Addr → Prop} {H : Hp} : ∀ {vs : List V} {ds : List PyData} {ns : List Int}, RepL M H vs ds → intsOf ds = some ns → vs = ns.map V.int
 | _, _, _, .nil, e => by cases e; rfl
 | _, _, _, .cons (ds := ds) (d := d) r t, e => by
  cases d with
  | int i =>
   unfold intsOf at e
   cases q : intsOf ds with
   | none => rw [q] at e; cases e
   | some ms =>
    rw [q] at e
    cases e
    cases r
    rw [List.map_cons, vals_ints t q]
  | _ => cases e
end
end L3
namespace L2
open PySem PySem.Spec PyProof.Rows
variable [Cs]
section
variable {X : Cx}
end
end L2
namespace L3
open PySem PySem.Spec PyProof.Rows L2
variable [Cs]
section
variable {X : Cx} {XP : XPT} {mp io : List Nat} {a e : Expr} {p p1 p2 q1 q2 pos px py ps : Pos} {fa : EM FV}
theorem Sees.again {ν : Nu} {σ : St} {s i : Nat} {v : V} (h : Sees mp ν σ) (hm : mp[s]? = some i) (hv : ν[i]? = some (some v)) (hs : s < σ.length) : Sees mp ν (σ.set s (some v)) := fun s' j w e1 e2 => by
 by_cases hj : s = s'
 ·subst hj
  rw [hm] at e1
  cases e1
  rw [hv] at e2
  cases e2
  rw [List.getElem?_set_self hs]
 ·rw [List.getElem?_set_ne hj]; exact h s' j w e1 e2
end
end L3
namespace L2
open PySem PySem.Spec PyProof.Rows
variable [Cs]
section
variable {X : Cx}
end
end L2
namespace L3
open PySem PySem.Spec PyProof.Rows L2
variable [Cs]
section
variable {X : Cx} {XP : XPT} {mp : List Nat} {a b c e : Expr} {es : List Expr} {pos p p2 : Pos} {fa fb fc : EM FV}
noncomputable def catS : List Str → Str
 | [] => Str.empty
 | x :: r => x ++ catS r
theorem sapp_empty (x : Str) : x ++ Str.empty = x := by
 show Str.append x Str.empty = x
 cases x; simp [Str.append, Str.empty]
noncomputable def fPart0 : EM (List Str) := fun Γ => .ok ([], Γ)
noncomputable def SJ (X : Cx) (XP : XPT) (mp : List Nat) (es : List Expr) (f : EM (List Str)) : Prop := ∀ (M0 : Addr → Prop) (F : Fp) (Γ : Gv) (ν : Nu) (σ : St) (H : Hp) (acc : Str) (Q : Str → Hp → Prop), RS M0 F Γ ν H → Sees mp ν σ → acc.length + 10000 * es.length ≤ 10000000 →
 EPost M0 F ν σ H XP (fun F' Γ' H' ys => Q (acc ++ catS ys) H') (f Γ) → ∀ pins s, Inv X pins σ H s → Joins (model X.prog X.w) X.A X.xe (evalEach es X.env) acc (fun out s1 => out.length ≤ sizeLine ∧ ∃ H', Inv X pins σ H' s1 ∧ Q out H') s
theorem sj_nil : SJ X XP mp [] fPart0 := fun M0 F Γ ν σ H acc Q rs hs hz hp pins s I => by
 have := hp F H rs (.refl _ _)
 unfold catS at this
 rw [sapp_empty] at this
 exact ⟨by have := sizeLine_eq; omega, H, I, this⟩
end
end L3
namespace L3
open PySem PySem.Spec PyProof.Rows L2
noncomputable def derD (Γ : Gv) : FV → Option (List (Str × PyData))
 | .dat (.dict kv) => unD kv
 | .own i => match Γ[i]? with
  | some (some (.m ds)) => some ds
  | some (some (.d (.dict kv))) => unD kv
  | _ => none
 | _ => none
variable [Cs]
theorem Rep.tab {M : Addr → Prop} {H : Hp} {v : V} {kv : List (PyData × PyData)} {ds : List (Str × PyData)} (r : Rep M H v (.dict kv)) (e : unD kv = some ds) : ∃ a ks, v = .ref a ∧ ¬ M a ∧ Rd H a (.dK (ks.map kK)) ∧ KR M H ks ds := by
 obtain ⟨a, rfl, n, h | h | h⟩ := r.dict_inv
 ·obtain ⟨ks, ds', h1, rfl, h2⟩ := h
  rw [unD_map] at e; cases e
  exact ⟨a, ks, rfl, n, h1, h2⟩
 ·obtain ⟨_, _, _, _, _, rfl, _⟩ := h
  cases e
 ·obtain ⟨_, _, _, _, _, _, rfl, _⟩ := h
  cases e
theorem RepL.strs {M : Addr → Prop} {H : Hp} : ∀ (ss : List Str), RepL M H (ss.map V.str) (ss.map .str)
 | [] => .nil
 | x :: r => .cons (.str x) (RepL.strs r)
section
variable {X : Cx} {XP : XPT} {mp io : List Nat} {a b c e tg iter elt : Expr} {es ifs : List Expr} {pos p p2 pos' p3 : Pos} {fa fb fc : EM FV} {fo : EM OV} {na : EM (List PyData)} {ma : EM (List (Str × PyData))} {kx : Nat} {cl f x : Str} {s i : Nat} {M0 : Addr → Prop} {F : Fp} {Γ : Gv} {ν : Nu} {σ : St} {H H' : Hp} {u : FV} {v : V}
theorem FOk.dict {ds : List (Str × PyData)} (h : FOk M0 F ν H v u) (rs : RS M0 F Γ ν H) (e : derD Γ u = some ds) : ∃ a ks, v = .ref a ∧ Rd H a (.dK (ks.map kK)) ∧ KR (MM M0 F) H ks ds := by
 cases u with
 | dat y =>
  cases y <;> try (cases e; done)
  rename_i kv
  obtain ⟨a, ks, h1, _, h2, h3⟩ := Rep.tab (show Rep (MM M0 F) H v _ from h) e
  exact ⟨a, ks, h1, h2, h3⟩
 | own i =>
  have hv : ν[i]? = some (some v) := h
  dsimp only [derD] at e
  split at e
  ·rename_i ds' q
   cases e
   obtain ⟨w, e1, r⟩ := rs.at' i _ q
   rw [hv] at e1; cases e1
   generalize F i = A at r
   cases r with
   | m ea k r => exact ⟨_, _, rfl, .inl ea, .of k r⟩
  ·rename_i kv q
   obtain ⟨w, e1, r⟩ := rs.at' i _ q
   rw [hv] at e1; cases e1
   generalize F i = A at r
   cases r with
   | d r =>
    obtain ⟨a, ks, h1, _, h2, h3⟩ := Rep.tab r e
    exact ⟨a, ks, h1, h2, h3⟩
  ·cases e
theorem RS.newM {p : Addr} {ks : List (Str × V)} {ds : List (Str × PyData)} (r : RS M0 F Γ ν H) (n : H p = none) (q : KR (MM M0 F) H ks ds) :
  RS M0 (fset F Γ.length [p]) (Γ ++ [some (.m ds)]) (ν ++ [some (.ref p)]) (upd H p (.dK (ks.map kK))) ∧ Stp F H (fset F Γ.length [p]) (upd H p (.dK (ks.map kK))) := by
 have hp : ∀ i, p ∉ F i := fun i h => by
  obtain ⟨vs, e⟩ := r.laidF h
  rw [n] at e; cases e
 have s : Stp F H (fset F Γ.length [p]) (upd H p (.dK (ks.map kK))) := ⟨fun b o e nb => ⟨upd_new n b o e, fun j h => by
  by_cases hj : j = Γ.length
  ·subst hj; rw [fset_same] at h
   have e' : b = p := by simpa using h
   subst e'; rw [n] at e; cases e
  ·rw [fset_ne hj] at h; exact nb j h⟩, fun b xs e => upd_new n b _ e, fun b h => by
   by_cases e : b = p
   ·subst e; exact absurd n h
   ·rw [upd_ne e]; exact h⟩
 have q' := KR.stp q s r.al0
 have r1 := (r.ext 1).put (i := Γ.length) (o := .m ds) (v := .ref p) (A := [p]) (H' := upd H p (.dK (ks.map kK))) s (fun j _ a ha => upd_ne (fun e => hp j (by rw [← e]; exact ha)))
  (fun a h => s.stay a (r.al0 a h)) (fun a ha h => by
   have e : a = p := by simpa using ha
   subst e; exact r.al0 a h n) (List.nodup_cons.mpr ⟨(fun z => nomatch z), .nil⟩) (fun j _ a ha => by
   have e : a = p := by simpa using ha
   subst e; exact hp j) (by simp) (.m upd_same q'.keys q'.vals)
 rw [set_last] at r1
 have e2 : (ν ++ List.replicate 1 none).set Γ.length (some (V.ref p)) = ν ++ [some (V.ref p)] := by rw [← r.len, set_last]
 rw [e2] at r1
 exact ⟨r1, s⟩
noncomputable def fOwnD (n : EM (List (Str × PyData))) : EM OV := fun Γ => (n Γ).bind fun (ds, Γ1) => .ok (.m ds, Γ1)
theorem SD.so (h : SD X XP mp a ma) : SO X XP mp a (fOwnD ma) := fun M0 F Γ ν σ H Q rs hs hp =>
 h M0 F Γ ν σ H Q rs hs (hp.seq.mono fun F1 Γ1 H1 ds rs1 s1 h1 ks p r n => by
  obtain ⟨r2, s2⟩ := rs1.newM n r
  exact h1 _ _ _ r2 s2)
noncomputable def fNewD (n : EM (List (Str × PyData))) : EM FV := fOD (fOwnD n)
theorem SD.se (h : SD X XP mp a ma) : SE X XP mp a (fNewD ma) := h.so.se
theorem SDt.so {t : TE} (h : SDt XP mp t ma) : SOt XP mp t (fOwnD ma) := fun M0 F Γ ν σ H Q rs hs hp =>
 h M0 F Γ ν σ H Q rs hs (hp.seq.mono fun F1 Γ1 H1 ds rs1 s1 h1 ks p r n => by
  obtain ⟨r2, s2⟩ := rs1.newM n r
  exact h1 _ _ _ r2 s2)
theorem SDt.sd {t : TE} (h : SDt XP mp t ma) : SOt XP mp t (fD (fNewD ma)) := fun M0 F Γ ν σ H Q rs hs hp =>
 h M0 F Γ ν σ H Q rs hs (by
  have hp' : OPost M0 F ν σ H XP (fun F' Γ' H' o v => Q v H') ((ma Γ).bind fun (ds, Γ1) => .ok (.d (.dict (ds.map dK)), Γ1)) := by
   have e : fD (fNewD ma) Γ = (ma Γ).bind fun (ds, Γ1) => .ok (.d (.dict (ds.map dK)), Γ1) := by
    unfold fD fNewD fOD fOwnD
    cases ma Γ <;> rfl
   rw [← e]; exact hp
  exact hp'.seq.mono fun F1 Γ1 H1 ds rs1 s1 h1 ks p r n => by
   obtain ⟨r2, s2⟩ := rs1.newM n r
   obtain ⟨F3, r3, s3, q3⟩ := r2.dropD
   exact h1 F3 _ _ (r3.newD q3) (s2.trans s3))
end
end L3
namespace L3
open PySem PySem.Spec PyProof.Rows L2
variable [Cs]
section
variable {X : Cx} {XP : XPT} {mp io : List Nat} {a b e tg iter elt : Expr} {es ifs : List Expr} {pos p p2 pos' p3 apos cpos : Pos} {fa fb fc : EM FV} {fo : EM OV} {na : EM (List PyData)} {ma : EM (List (Str × PyData))} {kx : Nat} {c f x : Str} {s i : Nat} {M0 : Addr → Prop} {F : Fp} {Γ : Gv} {ν : Nu} {σ : St} {H H' : Hp} {u : FV} {v : V}
theorem FldAt.own {ys : List OV} {ds : List PyData} {v : V} (h : FldAt M0 F Γ ν H i c f (.l ys) v) (rs : RS M0 F Γ ν H) (hl : leaves ys = some ds) : ∃ b us, v = .ref b ∧ H b = some (.lst us) ∧ RepL (MM (hideM M0 F i) (fset F i [])) H us ds ∧ ∀ j, b ∉ fset F i [] j := by
 obtain ⟨a, dx, fs, ns, xs, j, A1, B, A2, e1, e2, e3, e4, e5, e6, e7, e8, e9, e10⟩ := id h.ex
 cases e8 with
 | @l b us _ A' eb qb =>
  obtain ⟨q1, q2⟩ := qb.leaf hl
  refine ⟨b, us, rfl, eb, by rw [mm_hide fset_same, fset_id]; exact q1, fun j hj => ?_⟩
  have hb : b ∈ F i := by rw [e9]; simp
  by_cases z : j = i
  ·subst z; rw [fset_same] at hj; cases hj
  ·rw [fset_ne z] at hj; exact z (rs.dis _ _ b hj hb)
end
end L3
namespace L2
open PySem PySem.Spec PyProof.Rows
variable [Cs]
section
variable {X : Cx} {σ : St} {H : Hp} {CX : CXT} {E : XK} {sp : Sp} {Q : VK} {C f : Addr} {fd : FuncData} {ps : List Str} {k : Nat} {m x : Str} {o e : Expr} {es : List Expr} {p pos apos : Pos}
theorem meth_call {A : Around} {env : Env} {args : List Expr} {Q : Value → Shared → Prop} {E : Value → Shared → Prop} {s : Shared} (hbase : attributeBase o m env (eval o env) = eval o env) (hform : methodCallForm (args.length + 0) (backTo pos (starEach args env)) (backToKw pos (keywordEach [] env)) = true) (hline : (apos.endLine == pos.line) = true)
  (h : wpAny (model X.prog X.w) A (eval o env) (fun ov s₁ => wpAny (model X.prog X.w) A (getMethod ov m (do return (← importBound o env).getD true)) (fun fx s₂ => wpAny (model X.prog X.w) A (callWith pos fx.1 fx.2 (backTo pos (starEach args env)) (backToKw pos (keywordEach [] env))) Q E s₂) E s₁) E s) :
  wpAny (model X.prog X.w) A (eval (.Call (.Attribute o m apos) args [] pos) env) Q E s := by
 rw [arm_eval_Call, hbase]
 refine wpAny_bind (wpAny_mono h (fun ov s₁ h₁ => ?_) fun _ _ e => e)
 refine wpAny_bind (wpAny_standAt ?_)
 have hform' : methodCallForm (args.length + ([] : List Keyword).length) (backTo pos (starEach args env)) (backToKw pos (keywordEach [] env)) = true := hform
 have hpos : methodCallPos true o env apos pos = pure pos := by unfold methodCallPos; simp [hline]
 unfold methodCall
 rw [hform']
 exact wpAny_bind (wpAny_holding (wpAny_mono h₁ (fun fx s₂ h₂ => wpAny_bind (wpAny_of_eq hpos h₂)) fun _ _ x => x))
end
structure KnM (P : Program) (w : World) (K : PySem.W.Frag) (mg : Str → Option Value) (base : Heap) (CX : CXT) (C : Addr) (m : Str) (k : Nat) (sp : Sp) : Prop where
 ex : ∃ (f : Addr) (fd : FuncData) (ps : List Str), FnOk P w K mg base CX k f fd ps sp ∧ Cls K C ∧ Meth K C m f ∧ Binds K fd ps []
structure KnI (P : Program) (w : World) (K : PySem.W.Frag) (mg : Str → Option Value) (base : Heap) (CX : CXT) (C : Addr) (k : Nat) (sp : Sp) : Prop where
 ex : ∃ (f : Addr) (fd : FuncData) (ps : List Str), FnOk P w K mg base CX k f fd ps sp ∧ Mk K C f ∧ Binds K fd ps []
end L2
namespace L3
open PySem PySem.Spec PyProof.Rows L2
variable [Cs]
section
variable {X : Cx} {XP : XPT} {mp io : List Nat} {a b e : Expr} {es : List Expr} {pos p p2 pos' p3 apos : Pos} {fa fb fc : EM FV} {fl : EM (List AV)} {kx : Nat} {c f m x : Str} {s i k n : Nat} {M0 : Addr → Prop} {F F' : Fp} {Γ : Gv} {ν : Nu} {σ : St} {H H' : Hp} {u : FV} {v : V} {run : List OV → RF}
theorem AOks.stp {F1 : Fp} {H1 : Hp} {ν1 : Nu} (s1 : Stp F H F1 H1) (h0 : ∀ a, M0 a → H a ≠ none) (hn : ν <+: ν1) : ∀ {vs : List V} {as : List AV}, AOks M0 F ν H vs as → AOks M0 F1 ν1 H1 vs as
 | _, _, .nil => .nil
 | _, _, .v h t => .v ((h.stp s1 h0).ext hn) (AOks.stp s1 h0 hn t)
 | _, _, .io h t => .io (by
   obtain ⟨t', rfl⟩ := hn
   rw [List.getElem?_append_left (List.getElem?_eq_some_iff.mp h).1]; exact h) (AOks.stp s1 h0 hn t)
end
end L3
namespace L2
open PySem PySem.Spec PyProof.Rows
theorem type_call_initT {prog : Program} {w : World} {A : Around} {E : Value → Shared → Prop} {h : Heap} {g : Array GenState} {d : Drawn} {t : Nat} {os : OsState} {nm q : Str} {C N : Addr} {bs bm bmB : List Value}
  {hdct : Bool} {sn : List Str} {sub : List Value} {ab : Bool} {col : Option Bool} {dd : Option Addr} {k0 k1 k2 k3 k5 : Option Value} {B newId initId : String} (F : ExcBaseFacts B newId initId bmB) (T : OwnTail h bmB bm) {mN : Str → Option Value} {rest : List Value} {fI : Addr} {oI : Obj} {Q : PySem.Fin → Shared → Prop}
  (hC : h.get? C = some (excClassObj nm q C N bs bm hdct sn sub ab col dd k0 k1 k2 k3 k5 newId)) (hN : h.Ns N mN) (hi : mN "__init__" = some (.ref fI)) (hf : h.get? fI = some oI) (hfc : oI.cls = .type "function")
  (k : ∀ h' e, Heap.MadeExcOf h h' e (.ref C) rest → h.objs.size ≤ e → wpAny (model prog w) A (call (.ref fI) (.ref e :: rest)) (fun r s' => r = .none ∧ Q (.done (.ret (.ref e))) s') E ⟨h', g, d, t, os⟩) (hlen : rest.length ≤ sizeLine) :
  wpAny (model prog w) A (Builtin.«type.__call__» { pos := .ref C :: rest }) Q E ⟨h, g, d, t, os⟩ := by
 unfold Builtin.«type.__call__»
 dsimp only
 repeat (first | with_reducible refine wpAny_mroOf_exc hC ?_ | with_reducible refine wpAny_madeBy_exc hC ?_ | wp_step)
 refine codeAny_call_builtin_code (Code.quiet_builtin _ F.quiet) (wpAny_check_new_subT F T hC ?_)
 refine codeAny_exc_new_subT F T hC ?_ hlen
 have hm : Heap.MadeExcOf h ((h.push { cls := .type "tuple", data := .seq rest.toArray }).push { cls := .ref C, data := .fields #[.ref h.objs.size, .none, .none, .none, .bool false, .none] }) (h.objs.size + 1) (.ref C) rest := by
  refine ⟨fun b o e => Heap.get?_push_of_some _ (Heap.get?_push_of_some _ e), Heap.get?_none_of_le (Nat.le_succ _), h.objs.size, ?_, Heap.get?_none_of_le (Nat.le_refl _), Heap.get?_push_of_some _ (Heap.get?_push_size _ rfl)⟩
  have := Heap.get?_push_size (h.push { cls := .type "tuple", data := .seq rest.toArray }) (o := { cls := .ref C, data := .fields #[.ref h.objs.size, .none, .none, .none, .bool false, .none] }) rfl
  rw [show (h.push { cls := .type "tuple", data := .seq rest.toArray }).objs.size = h.objs.size + 1 from by simp [Heap.push]] at this
  exact this
 have hk : wpAny (model prog w) A (call (.ref fI) ([.ref (h.objs.size + 1)] ++ rest)) _ E _ := k _ _ hm (Nat.le_succ _)
 have hC' := hm.keeps _ _ hC
 have hN' := hN.keeps hm.keeps
 have T' := T.keeps hm.keeps
 have hf' := hm.keeps _ _ hf
 obtain ⟨tt, he, _⟩ := hm.there
 have hy := F.init.1
 generalize (h.push { cls := .type "tuple", data := .seq rest.toArray }).push { cls := .ref C, data := .fields #[.ref h.objs.size, .none, .none, .none, .bool false, .none] } = h' at *
 generalize h.objs.size + 1 = ea at *
 have hself : (Value.ref C :: bm).contains (.ref C) = true := by simp
 unfold callSpecial? specialOf
 repeat (first | (with_reducible refine wpAny_loadPart_at he ?_) | (with_reducible refine wpAny_isSubtype_exc hC' ?_; rw [hself]) | (with_reducible refine wpAny_typeLookup_tail hC' hN' T' F.mroIs hy ?_; rw [hi]) | (with_reducible refine wpAny_bindSpecial_def hf' hfc ?_) | (with_reducible refine wpAny_mono hk (fun r s' ⟨er, hq⟩ => ?_) (fun _ _ e => e); subst er) | wp_step)
 exact hq
theorem call_initT {prog : Program} {w : World} {A : Around} {E : Value → Shared → Prop} {h : Heap} {g : Array GenState} {d : Drawn} {t : Nat} {os : OsState} {nm q : Str} {C N : Addr} {bs bm bmB : List Value}
  {hdct : Bool} {sn : List Str} {sub : List Value} {ab : Bool} {col : Option Bool} {dd : Option Addr} {k0 k1 k2 k3 k5 : Option Value} {B newId initId : String} (F : ExcBaseFacts B newId initId bmB) (T : OwnTail h bmB bm) {mN : Str → Option Value} {rest : List Value} {fI : Addr} {oI : Obj} {Q : Value → Shared → Prop}
  (hC : h.get? C = some (excClassObj nm q C N bs bm hdct sn sub ab col dd k0 k1 k2 k3 k5 newId)) (hN : h.Ns N mN) (hi : mN "__init__" = some (.ref fI)) (hf : h.get? fI = some oI) (hfc : oI.cls = .type "function")
  (k : ∀ h' e, Heap.MadeExcOf h h' e (.ref C) rest → h.objs.size ≤ e → wpAny (model prog w) (A.under (.builtin "type.__call__" ⟨.ref C :: rest, []⟩)) (call (.ref fI) (.ref e :: rest)) (fun r s' => r = .none ∧ Q (.ref e) s') E ⟨h', g, d, t, os⟩) (hlen : rest.length ≤ sizeLine) :
  wpAny (model prog w) A (call (.ref C) rest) Q E ⟨h, g, d, t, os⟩ := by
 refine wpAny_call (codeAny_of_tree ?_)
 show wpAny (model prog w) _ (callAny (.ref C) ⟨rest, []⟩) _ _ _
 unfold callAny callAny.viaDunder specialOf
 repeat (first | (with_reducible refine wpAny_loadPart_at hC ?_) | (with_reducible refine wpAny_of_eq tc_lookup ?_) | (with_reducible refine wpAny_of_eq (tc_bind _) ?_) | wp_step)
 refine ⟨rfl, codeAny_call_builtin_at (Code.quiet_builtin _ (by decide +kernel)) entry_typeCall (wpAny_check_type_call_sub hC ?_)⟩
 exact type_call_initT F T hC hN hi hf hfc (fun h' e hm hz => wpAny_mono (k h' e hm hz) (fun r s' q => q) fun _ _ q => q) hlen
theorem tl_ga : typeLookup (.type "type") "__getattribute__" = pure (some (.builtin "type.__getattribute__")) := by rfl
theorem tl_init : typeLookup (.type "type") "__init__" = pure (some (.builtin "type.__init__")) := by rfl
theorem tl_get : typeLookup (.type "wrapper_descriptor") "__get__" = pure (some (.builtin "wrapper_descriptor.__get__")) := by rfl
theorem tl_set : typeLookup (.type "wrapper_descriptor") "__set__" = pure none := by rfl
theorem tl_del : typeLookup (.type "wrapper_descriptor") "__delete__" = pure none := by rfl
theorem to_tinit : typeOf (.builtin "type.__init__") = pure (.type "wrapper_descriptor") := by rfl
theorem to_vinit : typeOf (.builtin "ValueError.__init__") = pure (.type "wrapper_descriptor") := by rfl
theorem slot_tga : Slot "type" "__getattribute__" "type.__getattribute__" := Slot.of (owner := "type") (n := "__getattribute__") (by rfl) (by decide +kernel) (by decide +kernel) (by decide +kernel) (.inl (by decide +kernel)) (by rfl)
theorem args_tga (a b : Value) : argsOk "type.__getattribute__" { pos := [a, b] } := by
 unfold argsOk
 rfl
theorem entry_tga : entryFor table "type.__getattribute__" = some Builtin.«type.__getattribute__» := entryFor_of_tree (by kernel_rfl)
section
variable {prog : Program} {w : World} {A : Around} {E : Value → Shared → Prop} {s : Shared} {K : PySem.W.Frag} {W : Addr} {o : Obj}
theorem cls_ga (KI : K.In s.heap) (hW : s.heap.get? W = some o) (hc : o.cls = .type "type") (hi : PySem.W.findIn K (.ref W) "__init__" = some (some (.builtin "ValueError.__init__"))) {tk : Nat} {Q : PySem.Fin → Shared → Prop}
   (hop : PySem.W.Looks (model prog w) s.heap (opaqueClassAbove (.ref W)) none)
   (h : Q (.done (.ret (.builtin "ValueError.__init__"))) s) : wpAny (model prog w) A (Builtin.«type.__getattribute__» ⟨[.ref W, .str "__init__" tk], []⟩) Q E s := by
  obtain ⟨hh, g, d, t, os⟩ := s
  have hl := PySem.W.looks_findIn (M := model prog w) KI hi
  unfold PySem.W.Looks at hl hop
  dsimp only at hl hop hW
  unfold Builtin.«type.__getattribute__» specialOf
  dsimp only
  repeat (first | (with_reducible refine wpAny_loadPart_at hW ?_; rw [hc]) | (with_reducible refine wpAny_of_eq tl_init ?_) | (with_reducible refine wpAny_of_eq tl_get ?_) | (with_reducible refine wpAny_of_eq tl_set ?_) | (with_reducible refine wpAny_of_eq tl_del ?_) | (with_reducible refine wpAny_of_eq to_tinit ?_) | (with_reducible refine wpAny_of_eq to_vinit ?_) | (with_reducible refine hl _ _ _ _ (fun _ _ e => e) ?_) | (with_reducible refine hop _ _ _ _ (fun _ _ e => e) ?_) | wp_step)
  exact h
theorem cls_getattr (KI : K.In s.heap) (hW : s.heap.get? W = some o) (hc : o.cls = .type "type") (hi : PySem.W.findIn K (.ref W) "__init__" = some (some (.builtin "ValueError.__init__"))) {Q : Value → Shared → Prop}
   (hop : PySem.W.Looks (model prog w) s.heap (opaqueClassAbove (.ref W)) none)
   (h : ∀ tk, Q (.builtin "ValueError.__init__") { s with toks := tk }) : wpAny (model prog w) A (getAttr (.ref W) "__init__") Q E s := by
  unfold getAttr getAttrBy getAttrByItsOwn hookBefore callGetattribute boundAndCalled
  repeat (first | (with_reducible refine wpAny_loadPart_at hW ?_; rw [hc]) | (with_reducible refine wpAny_of_eq tl_ga ?_) | wp_step)
  refine wpAny_of_eq (slot_tga.bind _) ?_
  refine wpAny_call (codeAny_call_builtin slot_tga.plain entry_tga (slot_tga.check _ _ _ _ _ _ _ _ ⟨o, hW, hc⟩ (args_tga _ _) ?_))
  refine cls_ga (s := { s with toks := s.toks + 1 }) KI hW hc hi hop ?_
  exact wpAny_of_eq (show handedOut (.builtin "ValueError.__init__") = pure (.builtin "ValueError.__init__") from by rfl) (h _)
theorem cls_getmeth (KI : K.In s.heap) (hW : s.heap.get? W = some o) (hc : o.cls = .type "type") (hi : PySem.W.findIn K (.ref W) "__init__" = some (some (.builtin "ValueError.__init__"))) {Q : Value × List Value → Shared → Prop} {pl : Sem Bool}
   (hop : PySem.W.Looks (model prog w) s.heap (opaqueClassAbove (.ref W)) none)
   (h : ∀ tk, Q (.builtin "ValueError.__init__", []) { s with toks := tk }) : wpAny (model prog w) A (getMethod (.ref W) "__init__" pl) Q E s := by
  unfold getMethod specialOf
  repeat (first | (with_reducible refine wpAny_loadPart_at hW ?_; rw [hc]) | (with_reducible refine wpAny_of_eq tl_ga ?_) | (with_reducible refine cls_getattr KI hW hc hi hop fun tk => ?_) | wp_step)
  exact h _
end
theorem refuse_v (self : Value) : refuseLoop self "__setattr__" bmV = pure () := by rfl
theorem refuse_tail {self : Value} {h : Heap} {bm : List Value} (T : OwnTail h bmV bm) : refuseLoop self "__setattr__" bm = pure () := by
 induction T with
 | base => exact refuse_v self
 | own h1 h2 h3 _ ih =>
  unfold refuseLoop at ih ⊢
  rw [List.forIn_cons]
  exact ih
theorem sa_kind : builtinKind "object.__setattr__" = some Manifest.AttrKind.slot := by decide +kernel
theorem sa_split : splitId "object.__setattr__" = some ("object", "__setattr__") := by decide +kernel
theorem sa_plain : plainId "object.__setattr__" = true := by decide +kernel
section
variable {prog : Program} {w : World} {A : Around} {E : Value → Shared → Prop} {K : PySem.W.Frag} {h : Heap} {g : Array GenState} {d : Drawn} {t : Nat} {os : OsState} {nm q : Str} {C N : Addr} {bs bm : List Value}
  {hdct : Bool} {sn : List Str} {sub : List Value} {ab : Bool} {col : Option Bool} {dd : Option Addr} {k0 k1 k2 k3 k5 : Option Value} {newId : String} {ea : Addr} {fs : Array Value} {name : Str} {v : Value}
theorem inst_exc {o : Obj} (hC : h.get? C = some (excClassObj nm q C N bs bm hdct sn sub ab col dd k0 k1 k2 k3 k5 newId)) (he : h.get? ea = some o) (hc : o.cls = .ref C) {b : Value} (hb : (Value.ref C :: bm).contains b = true) : PySem.W.Looks (model prog w) h (isInstance (.ref ea) b) true := by
 intro A Q E s hk q
 obtain ⟨h1, g, d, t, os⟩ := s
 have he' : h1.get? ea = some o := hk _ _ he
 have hC' : h1.get? C = _ := hk _ _ hC
 repeat (first | (with_reducible refine wpAny_loadPart_at he' ?_; rw [hc]) | (with_reducible refine wpAny_isSubtype_exc hC' ?_; rw [hb]) | wp_step)
 exact q
theorem set_exc {Q : Unit → Shared → Prop} (KI : K.In h) (T : OwnTail h bmV bm) (hC : h.get? C = some (excClassObj nm q C N bs bm true sn sub ab col dd k0 k1 k2 k3 k5 newId)) (he : h.get? ea = some { cls := .ref C, data := .fields fs })
  (hs : PySem.W.findIn K (.ref C) "__setattr__" = some (some (.builtin "object.__setattr__"))) (hn : PySem.W.findIn K (.ref C) name = some none)
  (k : ∀ h' tk, (∀ b o, b ≠ ea → h.get? b = some o → h'.get? b = some o) → h'.get? ea = some { cls := .ref C, dict := some h.objs.size, data := .fields fs } → h'.Ns1 h.objs.size (fun y => if y = name then some v else none) → Q () ⟨h', g, d, tk, os⟩) :
  wpAny (model prog w) A (setAttr (.ref ea) name v) Q E ⟨h, g, d, t, os⟩ := by
 have J : PySem.W.InstAt h ea { cls := .ref C, data := .fields fs } C none := ⟨he, rfl, rfl, trivial⟩
 refine PySem.W.set_plain (s := ⟨h, g, d, t, os⟩) KI J hs ?_
 have hb : (Value.ref C :: bm).contains (.type "object") = true := by
  have := T.hasType (X := "object") (b := true) (by decide +kernel)
  rw [List.contains_cons, this, Bool.or_true]
 have hin := inst_exc (prog := prog) (w := w) (h := h) hC he rfl hb
 refine @codeAny_call_builtin prog w A _ _ "object.__setattr__" _ Builtin.«object.__setattr__» sa_plain PySem.F.entry_object_setattr ?_
 have h1 := @PySem.W.check_slot (model prog w) A.in1
 refine @h1 _ ⟨h, g, d, t + 1, os⟩ "object.__setattr__" "object" "__setattr__" (.ref ea) [.str name t, v] [] _ sa_kind sa_split hin (PySem.F.args_object_setattr_3 _ _ _) ?_
 clear h1
 rw [PySem.W.osa_eq, refuse_eq]
 have hl := PySem.W.looks_findIn (M := model prog w) KI hn
 unfold PySem.W.Looks at hl
 have hr : refuseLoop (.ref ea) "__setattr__" (.ref C :: bm) = pure () := by
  have ih := refuse_tail (self := .ref ea) T
  unfold refuseLoop at ih ⊢
  rw [List.forIn_cons]
  exact ih
 have hlt : ea < h.objs.size := Heap.lt_size he
 generalize hh2 : ((h.push { cls := .type "dict", data := .dict #[] }).update ea fun o => { o with dict := some h.objs.size }) = h2
 have hpo : ∀ b o, h.get? b = some o → (h.push { cls := .type "dict", data := .dict #[] }).get? b = some o := fun b o e => Heap.get?_push_of_some _ e
 have e1 : (h.push { cls := .type "dict", data := .dict #[] }).get? h.objs.size = some { cls := .type "dict", data := .dict #[] } := Heap.get?_push_size h rfl
 have hk2 : ∀ b o, b ≠ ea → (h.push { cls := .type "dict", data := .dict #[] }).get? b = some o → h2.get? b = some o := fun b o n e => by
  rw [← hh2]; exact (Heap.get?_update_other _ _ (Ne.symm n)).trans e
 have he2 : h2.get? ea = some { cls := .ref C, dict := some h.objs.size, data := .fields fs } := by
  rw [← hh2]; exact Heap.get?_update_self _ (hpo _ _ he) rfl
 have e2 := hk2 _ _ (Nat.ne_of_gt hlt) e1
 have e3 : h2.Ns h.objs.size (fun _ => none) := ⟨_, #[], _, e2, rfl, (fun e he => absurd he (by simp)), fun _ => rfl⟩
 have e4 := Heap.Ns1.of_empty e3
 unfold Builtin.ObjectAttr.storeTaker? Builtin.ObjectAttr.storeInOwnDict Builtin.ObjectAttr.storeInDict
 repeat (first | (with_reducible refine wpAny_loadPart_at he ?_) | (with_reducible refine wpAny_mroOf_exc hC ?_) | (with_reducible refine wpAny_of_eq hr ?_) | (with_reducible refine hl _ _ _ _ (fun _ _ e => e) ?_) | (with_reducible refine wpAny_loadPart_at hC ?_) | (rw [hh2]; with_reducible refine wpAny_nsSet1 (s := ⟨h2, g, d, t + 1, os⟩) e4 fun h' hn2 hs2 => ?_) | wp_step)
 obtain ⟨oD, esD, epD, hoD, hdD, hcD⟩ := hn2.count (PySem.Within.cons name v (show PySem.Within (fun _ => none) [] from fun y hy => absurd rfl hy))
 dsimp only
 refine wpAny_loadPart_at hoD ?_
 rw [show oD.data.pastItsLine = none from by rw [hdD]; exact pastItsLine_dict (Nat.le_trans hcD (by have := sizeLine_eq; simp))]
 refine wpAny_pure (wpAny_pure (k h' _ (fun b o n e => ?_) ((hs2.2 _ (Nat.ne_of_lt hlt)).trans he2) hn2))
 exact (hs2.2 b (Nat.ne_of_lt (Heap.lt_size e))).trans (hk2 b o n (hpo b o e))
theorem init_exc {Q : Value → Shared → Prop} {t0 : Addr} {z : Value} {dx : Option Addr} (T : OwnTail h bmV bm) (hC : h.get? C = some (excClassObj nm q C N bs bm hdct sn sub ab col dd k0 k1 k2 k3 k5 "ValueError.__new__")) (he : h.get? ea = some { cls := .ref C, dict := dx, data := .fields #[.ref t0, .none, .none, .none, .bool false, .none] })
  (k : ∀ h' t1, (∀ b o, b ≠ ea → h.get? b = some o → h'.get? b = some o) → h'.get? ea = some { cls := .ref C, dict := dx, data := .fields #[.ref t1, .none, .none, .none, .bool false, .none] } → Q .none ⟨h', g, d, t, os⟩) :
  wpAny (model prog w) A (call (.builtin "ValueError.__init__") [.ref ea, z]) Q E ⟨h, g, d, t, os⟩ := by
 have F := PySem.F.excBase_ValueError
 refine wpAny_call ?_
 refine @codeAny_call_builtin prog w A _ _ "ValueError.__init__" _ Builtin.«BaseException.__init__» F.init.plain F.initEntry (wpAny_check_init_subT F T hC he rfl ?_)
 unfold Builtin.«BaseException.__init__»
 have hlt : ea < h.objs.size := Heap.lt_size he
 have hpo : ∀ b o, h.get? b = some o → (h.push { cls := .type "tuple", data := .seq [z].toArray }).get? b = some o := fun b o e => Heap.get?_push_of_some _ e
 have he2 := hpo _ _ he
 dsimp only
 repeat (first | (with_reducible refine wpAny_field he2 rfl rfl ?_) | (with_reducible refine wpAny_setField he2 rfl (by simp) ?_) | wp_step)
 refine k _ h.objs.size (fun b o n e => (Heap.get?_update_other _ _ (Ne.symm n)).trans (hpo b o e)) (Heap.get?_update_self _ he2 rfl)
theorem ga_kind : builtinKind "BaseException.__getattribute__" = some Manifest.AttrKind.slot := by decide +kernel
theorem ga_split : splitId "BaseException.__getattribute__" = some ("BaseException", "__getattribute__") := by decide +kernel
theorem ga_plain : plainId "BaseException.__getattribute__" = true := by decide +kernel
theorem ga_bind (x : Value) : bindSpecial (.builtin "BaseException.__getattribute__") x = pure (.builtin "BaseException.__getattribute__", [x]) := by rfl
theorem get_exc {Q : Value → Shared → Prop} {a dx : Addr} {oe od : Obj} {ex : Bool} (KI : K.In h) (T : OwnTail h bmV bm) (hC : h.get? C = some (excClassObj nm q C N bs bm hdct sn sub ab col dd k0 k1 k2 k3 k5 newId)) (he : h.get? ea = some oe) (hc : oe.cls = .ref C) (hdx : oe.dict = some dx) (hfd : oe.data = .fields fs)
  (hd : h.get? dx = some od) (hl0 : PySem.W.lookIn name od = some (some (.ref a))) (hg : PySem.W.findIn K (.ref C) "__getattribute__" = some (some (.builtin "BaseException.__getattribute__"))) (hga : PySem.W.findIn K (.ref C) "__getattr__" = some none) (hn : PySem.W.findIn K (.ref C) name = some none) (hh : PySem.W.hasDictIn K C = true)
  (k : ∀ tk, Q (.ref a) ⟨h, g, d, tk, os⟩) :
  wpAny (model prog w) A (getAttr (.ref ea) name ex) Q E ⟨h, g, d, t, os⟩ := by
 have J : PySem.W.InstAt h ea oe C (some od) := ⟨he, hc, by unfold PySem.W.notCls; rw [hfd], by rw [hdx]; exact hd⟩
 have hb : (Value.ref C :: bm).contains (.type "BaseException") = true := by
  have := T.hasType (X := "BaseException") (b := true) (by decide +kernel)
  rw [List.contains_cons, this, Bool.or_true]
 have hin := inst_exc (prog := prog) (w := w) (h := h) hC he hc hb
 have l1 := PySem.W.looks_findIn (M := model prog w) KI hg
 have l2 := PySem.W.looks_findIn (M := model prog w) KI hga
 have l3 := PySem.W.looks_find (M := model prog w) KI J (PySem.W.findObj_own hh hn rfl hl0)
 unfold PySem.W.Looks at l1 l2 l3
 have body : ∀ (A : Around) tk (Q : PySem.Fin → Shared → Prop) (E : Value → Shared → Prop), Q (.done (.ret (.ref a))) ⟨h, g, d, t + 1, os⟩ → wpAny (model prog w) A (Builtin.«object.__getattribute__» ⟨[.ref ea, .str name tk], []⟩) Q E ⟨h, g, d, t + 1, os⟩ := fun A tk Q E hq => by
  unfold Builtin.«object.__getattribute__»
  repeat (first | (with_reducible refine wpAny_loadPart_at he ?_; rw [hc]) | (with_reducible refine l3 _ _ _ _ (fun _ _ e => e) ?_) | wp_step)
  exact hq
 unfold getAttr getAttrBy getAttrByItsOwn hookBefore callGetattribute boundAndCalled
 repeat (first | (with_reducible refine wpAny_loadPart_at he ?_; rw [hc]) | (with_reducible refine l1 _ _ _ _ (fun _ _ e => e) ?_) | (with_reducible refine l2 _ _ _ _ (fun _ _ e => e) ?_) | (with_reducible refine wpAny_of_eq (ga_bind _) ?_) | wp_step)
 rw [show (ex && onTheHeap (.builtin "BaseException.__getattribute__")) = false from by cases ex <;> rfl, if_neg (by decide)]
 refine wpAny_bind (wpAny_of_eq (ga_bind _) ?_)
 refine wpAny_call ?_
 refine @codeAny_call_builtin prog w A _ _ "BaseException.__getattribute__" _ Builtin.«object.__getattribute__» ga_plain PySem.F.entry_bexc_ga ?_
 have h1 := @PySem.W.check_slot (model prog w) A.in1
 refine @h1 _ ⟨h, g, d, t + 1, os⟩ "BaseException.__getattribute__" "BaseException" "__getattribute__" (.ref ea) [.str name t] [] _ ga_kind ga_split hin (PySem.F.args_bexc_ga _ _) ?_
 refine body _ _ _ _ ?_
 exact wpAny_pure (k _)
end
end L2
namespace L2
open PySem PySem.Spec PyProof.Rows
variable [Cs]
theorem exo_ok {P : Program} {w : World} {H : Hp} {h : Heap} {C a t : Addr} {dx : Option Addr} (e : h.get? a = some { cls := .ref C, dict := dx, data := .fields #[.ref t, .none, .none, .none, .bool false, .none] }) : ObjOk P w H h a (ExO C dx a) :=
 ⟨⟨t, e⟩, ⟨_, e⟩, fun _ _ ⟨t1, e1⟩ k => ⟨t1, k _ e1⟩⟩
noncomputable def barC (K : PySem.W.Frag) (C f : Addr) : Bool := match K.lookup C with
 | some ⟨.type "type", _, .cls cd, sl⟩ => match cd.mro, sl.toList with
  | .ref C' :: bm, [_, _, _, _, some (.builtin n), _] => C' == C && n == "ValueError.__new__" && !cd.hasDel && cd.hasDict && PySem.W.tailIn K bmV bm && PySem.W.nsOkIn K cd.ns && PySem.W.nsIn K cd.ns "__init__" == some (some (.ref f))
  | _, _ => false
 | _ => false
theorem ns_some {K : PySem.W.Frag} {h : Heap} {N : Addr} {m : Str → Option Value} {x : Str} {v : Value} (X : K.In h) (n : h.Ns N m) (q : PySem.W.nsIn K N x = some (some v)) : m x = some v := by
 obtain ⟨o, es, ep, ho, hd, hk, hm⟩ := n
 have e := hm x
 unfold nsFind findBy at e
 rw [← Array.find?_toList] at e
 unfold PySem.W.nsIn at q
 split at q
 ·rename_i c d1 es1 ep1 sl el
  have := X _ _ el
  rw [ho] at this
  cases this
  cases hd
  split at q
  ·rename_i y z
   rw [z] at e
   cases q
   exact e.symm
  ·split at q <;> cases q
 ·cases q
theorem bar_obj {K : PySem.W.Frag} {h : Heap} {C f : Addr} (X : K.In h) (q : barC K C f = true) :
  ∃ bm N nm qn bs sn sub ab col dd k0 k1 k2 k3 k5 mN, h.get? C = some (excClassObj nm qn C N bs bm true sn sub ab col dd k0 k1 k2 k3 k5 "ValueError.__new__") ∧ h.Ns N mN ∧ mN "__init__" = some (.ref f) ∧ OwnTail h bmV bm := by
 unfold barC at q
 split at q
 ·rename_i d0 c0 s0 e0
  split at q
  ·rename_i C1 bm z0 z1 z2 z3 n1 z5 e1 e2
   simp only [Bool.and_eq_true] at q
   obtain ⟨⟨⟨⟨⟨⟨q1, q2⟩, q3⟩, q7⟩, q4⟩, q5⟩, q6⟩ := q
   have r1 : C1 = C := eq_of_beq q1
   have r2 : n1 = "ValueError.__new__" := eq_of_beq q2
   have r3 : c0.hasDel = false := by simpa using q3
   have r6 : PySem.W.nsIn K c0.ns "__init__" = some (some (.ref f)) := eq_of_beq q6
   subst r1 r2
   have r5 : s0 = #[z0, z1, z2, z3, some (.builtin "ValueError.__new__"), z5] := by
    cases s0 with
    | mk l => exact congrArg Array.mk e2
   cases c0 with
   | mk a1 a2 a3 a4 a5 a6 a7 a8 a9 a10 a11 =>
    dsimp only at e1 r3 q5 r6 q7
    subst e1 r3 r5 q7
    have n := Heap.Ns.of_isNs (PySem.W.isNs_of_in X q5)
    exact ⟨_, _, _, _, _, _, _, _, _, _, _, _, _, _, _, _, X _ _ e0, n, ns_some X n r6, PySem.W.tail_of_in X q4⟩
  ·cases q
 ·cases q
noncomputable def barIn (K : PySem.W.Frag) (C f W : Addr) (a : Str) : Bool := barC K C f && PySem.W.keepIn K (.ref C) && PySem.W.isFn K (.ref f) && (PySem.W.findIn K (.ref C) "__setattr__" == some (some (.builtin "object.__setattr__"))) && (PySem.W.findIn K (.ref C) a == some none)
 && (PySem.W.findIn K (.ref C) "__getattribute__" == some (some (.builtin "BaseException.__getattribute__"))) && (PySem.W.findIn K (.ref C) "__getattr__" == some none) && PySem.W.hasDictIn K C
 && (PySem.W.typeIn K (.ref W) == some (.type "type")) && (PySem.W.findIn K (.ref W) "__init__" == some (some (.builtin "ValueError.__init__"))) && (PySem.W.nsIn K cStatics "thirdparty.any" == some none)
structure BarK (K : PySem.W.Frag) (C f W : Addr) (a : Str) : Prop where
 cls : barC K C f = true
 kp : PySem.W.keepIn K (.ref C) = true
 fn : PySem.W.isFn K (.ref f) = true
 sa : PySem.W.findIn K (.ref C) "__setattr__" = some (some (.builtin "object.__setattr__"))
 at' : PySem.W.findIn K (.ref C) a = some none
 ga : PySem.W.findIn K (.ref C) "__getattribute__" = some (some (.builtin "BaseException.__getattribute__"))
 gh : PySem.W.findIn K (.ref C) "__getattr__" = some none
 hd : PySem.W.hasDictIn K C = true
 wt : PySem.W.typeIn K (.ref W) = some (.type "type")
 wi : PySem.W.findIn K (.ref W) "__init__" = some (some (.builtin "ValueError.__init__"))
 no : PySem.W.nsIn K cStatics "thirdparty.any" = some none
theorem BarK.of {K : PySem.W.Frag} {C f W : Addr} {a : Str} (h : barIn K C f W a = true) : BarK K C f W a := by
 unfold barIn at h
 simp only [Bool.and_eq_true, beq_iff_eq] at h
 obtain ⟨⟨⟨⟨⟨⟨⟨⟨⟨⟨h1, h2⟩, h3⟩, h4⟩, h5⟩, h6⟩, h7⟩, h8⟩, h9⟩, h10⟩, h11⟩ := h
 exact ⟨h1, h2, h3, h4, h5, h6, h7, h8, h9, h10, h11⟩
section
variable {X : Cx} {pins : List (Addr × Obj)} {σ : St} {H : Hp} {s : Shared} {C f W ea : Addr} {a : Str} {Q : VK}
theorem wp_sup {wn : Str} {p1 ap cp : Pos} {e : Expr} {es : List Expr} (B : BarK X.K C f W a) (hg : Gl X wn) (hm : X.mg wn = some (.ref W)) (hdb : (wn == ("__debug__" : Str)) = false) (h : wpA X (e :: es) σ H fun vs H1 => ∃ ea z, vs = [.ref ea, .str z] ∧ H1 ea = some (ExO C none ea) ∧ Q .non H1)
  (hbase : attributeBase (.Name wn p1) "__init__" X.env (eval (.Name wn p1) X.env) = eval (.Name wn p1) X.env) (hform : methodCallForm ((e :: es).length + 0) (backTo cp (starEach (e :: es) X.env)) (backToKw cp (keywordEach [] X.env)) = true) (hline : (ap.endLine == cp.line) = true)
  (he : starEach (e :: es) X.env = (false, eval e X.env) :: starEach es X.env) (hpl : (backTo cp (starEach es X.env)).any (·.1) = false) : wpE X (.Call (.Attribute (.Name wn p1) "__init__" ap) (e :: es) [] cp) σ H Q := fun pins s I => by
 refine meth_call hbase hform hline (ld_glob I hg hm ?_ hdb)
 obtain ⟨oW, eW, cW⟩ : ∃ o, X.K.lookup W = some o ∧ o.cls = .type "type" := by
  have := B.wt
  unfold PySem.W.typeIn at this
  simpa using this
 refine cls_getmeth (K := X.K) I.kIn (I.kIn _ _ eW) cW B.wi (PySem.W.looks_opaque I.kIn B.no) fun tk => ?_
 refine PyProof.Rows.callWith_builtin1 (thn (h cp pins _ (I.tok tk)) fun us s1 ⟨vs, H1, I1, r, ea, z, ev, hea, q⟩ => ?_) he hpl
 subst ev
 obtain ⟨u1, u2, rfl, r1, r2⟩ : ∃ u1 u2, us = [u1, u2] ∧ RelV (.ref ea) u1 ∧ RelV (.str z) u2 := by
  cases r with
  | cons r1 t => cases t with
   | cons r2 t2 => cases t2; exact ⟨_, _, rfl, r1, r2⟩
 obtain rfl : u1 = Value.ref ea := r1
 obtain ⟨⟨t0, e0⟩, _, _⟩ := (show ObjOk X.prog X.w H1 s1.heap ea (ExO C none ea) from I1.hok ea _ hea)
 obtain ⟨bm, N, nm, qn, bs, sn, sub, ab, col, dd, k0, k1, k2, k3, k5, mN, hC, hN, hi, T⟩ := bar_obj I1.kIn B.cls
 refine init_exc (h := s1.heap) T hC e0 fun h' t1 kk e1 => ?_
 refine ⟨.non, H1, ?_, rfl, q⟩
 have I2 := I1.write (x := ea) (e := ea) (o := ExO C none ea) (h' := h') (t' := s1.toks) (by rw [hea]; trivial) (.inl rfl) kk ⟨_, e1⟩ (exo_ok e1)
 have eH : upd H1 ea (ExO C none ea) = H1 := by
  funext b
  by_cases hb : b = ea
  ·subst hb; rw [upd_same, hea]
  ·rw [upd_ne hb]
 rw [eH] at I2
 exact I2
theorem setx_ok {A : Around} {E : Value → Shared → Prop} {u : Value} {y : V} {Q : Unit → Shared → Prop} (I : Inv X pins σ H s) (B : BarK X.K C f W a) (hea : H ea = some (ExO C none ea)) (ry : RelV y u)
  (h : ∀ dx s', H dx = none → dx ≠ ea → Inv X pins σ (upd (upd H dx (.xd [(a, y)])) ea (ExO C (some dx) ea)) s' → Q () s') : wpAny (model X.prog X.w) A (setAttr (.ref ea) a u) Q E s := by
 obtain ⟨⟨t0, e0⟩, _, _⟩ := (show ObjOk X.prog X.w H s.heap ea (ExO C none ea) from I.hok ea _ hea)
 obtain ⟨bm, N, nm, qn, bs, sn, sub, ab, col, dd, k0, k1, k2, k3, k5, mN, hC, hN, hi, T⟩ := bar_obj I.kIn B.cls
 refine set_exc (h := s.heap) I.kIn T hC e0 B.sa B.at' fun h' tk kk e1 hn => ?_
 have hlt := Heap.lt_size e0
 have nd : s.heap.objs.size ≠ ea := Nat.ne_of_gt hlt
 obtain ⟨h1, g1, g2⟩ := put_at h' s.heap ea _ e0
 have hx : ∀ (H' : Hp) (hh : Heap), (∀ o, h'.get? s.heap.objs.size = some o → hh.get? s.heap.objs.size = some o) → ObjOk X.prog X.w H' hh s.heap.objs.size (.xd [(a, y)]) := fun H' hh q => by
  refine ⟨_, hn.at fun o e => q o e, fun g => ?_⟩
  by_cases hg : g = a
  ·subst hg
   rw [if_pos rfl, List.lookup_cons, beq_self_eq_true]
   exact ry
  ·rw [if_neg hg, List.lookup_cons, beq_eq_false_iff_ne.mpr hg]
   trivial
 have I1 := I.laid (a := s.heap.objs.size) (o := .xd [(a, y)]) (h' := h1) (t' := tk) (fun b o e => by
  by_cases hb : b = ea
  ·subst hb; rw [e] at e0; cases e0; exact g1
  ·exact (g2 b hb).trans (kk b o hb e)) (Nat.le_refl _) (hx _ _ fun o e => (g2 _ nd).trans e)
 have I2 := I1.write (x := ea) (e := ea) (o := ExO C (some s.heap.objs.size) ea) (h' := h') (t' := tk) (by rw [upd_ne (Ne.symm nd), hea]; trivial) (.inl rfl) (fun b o hb e => (g2 b hb).symm.trans e) ⟨_, e1⟩ (exo_ok e1)
 exact h _ _ (I.hok.fresh (Nat.le_refl _)) nd I2
end
end L2
namespace L2
open PySem PySem.Spec PyProof.Rows
variable [Cs]
noncomputable def spB (C : Addr) (a : Str) : Sp := fun vs H Q _ => ∃ ea l xs, vs = [.ref ea, .ref l] ∧ H ea = some (ExO C none ea) ∧ H l = some (.lst xs) ∧ ∀ p dx, H p = none → H dx = none → dx ≠ p → p ≠ ea → dx ≠ ea → Q .non (upd (upd (upd H p (.lst xs)) dx (.xd [(a, .ref p)])) ea (ExO C (some dx) ea))
structure BarT (sc : Scope) (N : List Str) (wn a : Str) (body : List Stmt) : Prop where
 ex : ∃ sf x z j p1 p2 p3 p4 p5 p6 p7 p8 p9 p10 p11 p12, body = [.Expr (.Call (.Attribute (.Name wn p1) "__init__" p2) [.Name sf p3, .Constant (.str z) j p4] [] p5) p6, .Assign [.Attribute (.Name sf p7) a p8] (.Call (.Name "list" p9) [.Name x p10] [] p11) p12] ∧
  (p2.endLine == p5.line) = true ∧ N[0]? = some sf ∧ N[1]? = some x ∧ Vis sc sf ∧ Vis sc x ∧ (sf == ("__debug__" : Str)) = false ∧ (sf == ("__classdict__" : Str)) = false ∧ (x == ("__debug__" : Str)) = false ∧ (x == ("__classdict__" : Str)) = false
 g1 : sc.names.lookup wn = some .globalImplicit
 g2 : sc.names.lookup ("list" : Str) = some .globalImplicit
 nd : (wn == ("__debug__" : Str)) = false
section
variable {P : Program} {w : World} {K : PySem.W.Frag} {mg : Str → Option Value} {base : Heap} {k : Nat} {C f W : Addr} {fd : FuncData} {x qual wn a : Str} {st : Stmt} {N ps : List Str}
theorem bar_fn (F : Fun K x qual st f fd) (S : FnScope N ps (defScope st)) (hps : ps.length = 2) (B : BarK K C f W a) (T : BarT (defScope st) N wn a (defBody st)) (hw : mg wn = some (.ref W)) (hl : mg "list" = none) : FnOk P w K mg base (CX1 P w) (k + 1) f fd ps (spB C a) := by
 obtain ⟨oc, od, kV, doc, pm, an, cdv, ct, osl, rfl, lk, hcd⟩ := F.ex
 refine fn_of lk hcd S (fun vs H Q E ⟨ea, l, xs, e, _⟩ => by rw [e, hps]; rfl) fun A outer s H vs Q E hr hsp => ⟨_, pss_self, ?_⟩
 obtain ⟨ea, l, xs, rfl, hea, hl1, hq⟩ := hsp
 obtain ⟨sf, x, z, j, p1, p2, p3, p4, p5, p6, p7, p8, p9, p10, p11, p12, eb, hline, n0, n1, v0, v1, d0, c0, d1, c1⟩ := T.ex
 rw [eb]
 generalize hX : cxOf (CX1 P w) P w K mg base N qual (defScope st) f cdv A outer s H E = X
 have xK : X.K = K := by rw [← hX]; rfl
 have xN : X.N = N := by rw [← hX]; rfl
 have xm : X.mg = mg := by rw [← hX]; rfl
 have xsc : X.env.scope = defScope st := by rw [← hX]; rfl
 have gw : Gl X wn := by unfold Gl Env.kindOf; rw [xsc]; exact T.g1
 have gl : Gl X "list" := by unfold Gl Env.kindOf; rw [xsc]; exact T.g2
 have B' : BarK X.K C f W a := by rw [xK]; exact B
 have s0 : (start N [V.ref ea, V.ref l])[0]? = some (some (.ref ea)) := rfl
 have s1 : (start N [V.ref ea, V.ref l])[1]? = some (some (.ref l)) := rfl
 have e0 : PE X (.Name sf p3) (tVar 0) := pe_var (by rw [xN]; exact n0) (by rw [xsc]; exact v0) d0 c0
 have e0' : PE X (.Name sf p7) (tVar 0) := pe_var (by rw [xN]; exact n0) (by rw [xsc]; exact v0) d0 c0
 have e1 : PE X (.Name x p10) (tVar 1) := pe_var (by rw [xN]; exact n1) (by rw [xsc]; exact v1) d1 c1
 refine (pss_cons (ps_expr pe_self rfl) (pss_one ps_self)).wp ?_
 refine wp_sup B' gw (by rw [xm]; exact hw) T.nd ?_ rfl rfl hline rfl rfl
 refine (pa_cons e0 (pa_cons (pe_self (e := .Constant (.str z) j p4)) pa_nil)).wp ⟨_, s0, ?_⟩
 have hz : wpE X (.Constant (.str z) j p4) (start N [V.ref ea, V.ref l]) H fun v H' => v = .str z ∧ H' = H := pe_str.wp ⟨rfl, rfl⟩
 refine hz.mono fun v H' ⟨ev, eH⟩ => ?_
 subst ev eH
 refine ⟨ea, z, rfl, hea, ?_⟩
 intro pins s2 I2
 refine plainObj_wpAny_Assign_Attribute (thn ((pe_callTy call_list_of gl (by rw [xm]; exact hl) boot_listW (pa_cons e1 pa_nil)).wp (Q := fun v H1 => ∃ p, v = .ref p ∧ H' p = none ∧ H1 = upd H' p (.lst xs)) ⟨_, s1, l, xs, rfl, .inl (SqL.of hl1), fun p np => ⟨p, rfl, np, rfl⟩⟩ pins s2 I2) fun u s3 ⟨y, H1, I3, ry, p, ey, np, eH⟩ => thn (e0' pins s3 _ H1 (fun v H2 => v = .ref ea ∧ H2 = H1) I3 ⟨_, s0, rfl, rfl⟩) fun ov s4 ⟨v, H2, I4, rv, ev, eH2⟩ => ?_) rfl
 subst ey eH ev eH2
 obtain rfl : ov = Value.ref ea := rv
 have npe : p ≠ ea := fun z => by rw [z, hea] at np; cases np
 refine setx_ok I4 B' (by rw [upd_ne (Ne.symm npe)]; exact hea) ry fun dx s5 hdx hne I5 => ?_
 have hdp : dx ≠ p := fun z => by rw [z, upd_same] at hdx; cases hdx
 rw [upd_ne hdp] at hdx
 exact ⟨_, _, I5, hq p dx np hdx hdp npe hne⟩
end
end L2
namespace L2
open PySem PySem.Spec PyProof.Rows
end L2
namespace L2
open PySem PySem.Spec PyProof.Rows
variable [Cs]
section
variable {X : Cx} {pins : List (Addr × Obj)} {σ : St} {H : Hp} {s : Shared} {C f W ea : Addr} {a c : Str} {dx : Option Addr}
end
end L2
namespace L2
open PySem PySem.Spec PyProof.Rows
variable [Cs]
section
variable {X : Cx} {pins : List (Addr × Obj)} {σ σ' : St} {H : Hp} {s s' : Shared} {n : Str} {ea : Addr} {oe : Obj}
theorem ObjOk.here {P : Program} {w : World} {H : Hp} {h : Heap} {a : Addr} {o : HO} (x : ObjOk P w H h a o) : ∃ u, h.get? a = some u := by
 cases o with
 | lst xs => obtain ⟨_, _, _, _, e⟩ := x; exact ⟨_, e⟩
 | tup xs => obtain ⟨_, _, _, _, e, _⟩ := x; exact ⟨_, e⟩
 | dK kvs => obtain ⟨_, _, _, _, o, _, _, e, _⟩ := x; exact ⟨_, e⟩
 | dT kvs => obtain ⟨_, _, _, _, o, _, _, e, _⟩ := x; exact ⟨_, e⟩
 | set S n => obtain ⟨o, _, _, _, e, _⟩ := x; exact ⟨_, e⟩
 | ins C dx fs => obtain ⟨_, _, _, e, _⟩ := x; exact ⟨_, e⟩
 | own y => exact x
 | xd fs => obtain ⟨_, ⟨_, _, _, e, _⟩, _⟩ := x; exact ⟨_, e⟩
 | rng lo hi => obtain ⟨_, _, _, e⟩ := x; exact ⟨_, e⟩
 | frz ob u => obtain ⟨e, _⟩ := x; exact ⟨_, e⟩
 | tbl ps => exact ⟨_, (show h.get? a = some _ from x)⟩
 | met f y => exact ⟨_, (show h.get? a = some _ from x)⟩
 | ext φ => obtain ⟨_, e, _⟩ := x; exact e
end
end L2
namespace L3
open PySem PySem.Spec PyProof.Rows L2
variable [Cs]
structure KnB (P : Program) (w : World) (K : PySem.W.Frag) (mg : Str → Option Value) (base : Heap) (c a : Str) (k : Nat) (C f W : Addr) : Prop where
 adr : mg c = some (.ref C)
 bar : BarK K C f W a
 fn : ∃ (j : Nat) (fd : FuncData) (ps : List Str), j + 1 ≤ k ∧ ps.length = 2 ∧ FnOk P w K mg base (CX1 P w) j f fd ps (spB C a) ∧ Binds K fd ps []
theorem KnB.mono {P : Program} {w : World} {K : PySem.W.Frag} {mg : Str → Option Value} {base : Heap} {c a : Str} {k k' : Nat} {C f W : Addr} (B : KnB P w K mg base c a k C f W) (h : k ≤ k') : KnB P w K mg base c a k' C f W := ⟨B.adr, B.bar, let ⟨j, fd, ps, hj, q⟩ := B.fn; ⟨j, fd, ps, Nat.le_trans hj h, q⟩⟩
noncomputable def RzB (X : Cx) (XP : XPT) : Prop := ∀ (c a : Str) (Γ : Gv) (F : Fp) (ν : Nu) (σ : St) (H : Hp) (d : Addr) (v : V), XP ⟨c, .str a⟩ Γ F (ν ++ [some v]) σ H → H d = some (.xd [(a, v)]) → ∀ C, X.mg c = some (.ref C) → ∀ pins s, Inv X pins σ H s → ∀ h' ea, MadeX s.heap h' ea (.ref C) (some d) → X.xe (.ref ea) { s with heap := h' }
section
variable {X : Cx} {XP : XPT} {mp io : List Nat} {c a x : Str} {C f W : Addr} {k m n : Nat} {e : Expr} {es : List Expr} {fe : EM FV} {np cpos pos p epos : Pos}
end
end L3
namespace L2
open PySem PySem.Spec PyProof.Rows PySem.Builtin PySem.Builtin.Str
variable [Cs]
section
variable {X : Cx}
end
section
variable {X : Cx}
end
end L2
namespace L2
open PySem PySem.Spec PyProof.Rows
variable [Cs]
noncomputable def ItK : Bool → Heap → Addr → Addr → Nat → Prop
 | true, h, i, l, k => h.IsTupleIter i l k
 | false, h, i, l, k => h.IsListIter i l k
noncomputable def SqK : Bool → Heap → Addr → Array Value → Prop
 | true, h, l, xs => h.IsTuple l xs
 | false, h, l, xs => h.IsList l xs
noncomputable def itN : Bool → String
 | true => "tuple_iterator"
 | false => "list_iterator"
theorem ItK.obj {tp : Bool} {h : Heap} {i l : Addr} {k : Nat} (x : ItK tp h i l k) : ∃ o, h.get? i = some o ∧ o.cls = .type (itN tp) ∧ o.data = .fields #[.ref l, .int k 0] := by
 cases tp <;> exact x
theorem ItK.of {tp : Bool} {h : Heap} {i l : Addr} {k : Nat} (x : ∃ o, h.get? i = some o ∧ o.cls = .type (itN tp) ∧ o.data = .fields #[.ref l, .int k 0]) : ItK tp h i l k := by
 cases tp <;> exact x
theorem ItK.at {tp : Bool} {h h' : Heap} {i l : Addr} {k : Nat} (x : ItK tp h i l k) (e : ∀ o, h.get? i = some o → h'.get? i = some o) : ItK tp h' i l k := by
 obtain ⟨o, a, b, c⟩ := x.obj
 exact .of ⟨o, e o a, b, c⟩
theorem SqK.at {tp : Bool} {h h' : Heap} {l : Addr} {xs : Array Value} (x : SqK tp h l xs) (e : ∀ o, h.get? l = some o → h'.get? l = some o) : SqK tp h' l xs := by
 cases tp
 ·obtain ⟨o, a, b⟩ := id x; exact ⟨o, e o a, b⟩
 ·obtain ⟨o, a, b⟩ := id x; exact ⟨o, e o a, b⟩
section
variable {prog : Program} {w : World} {A : Around} {E : Value → Shared → Prop} {s : Shared}
end
noncomputable def SqV (tp : Bool) (H : Hp) (a : Addr) (xs : List V) : Prop := match tp with
 | true => H a = some (.tup xs)
 | false => H a = some (.lst xs)
theorem SqV.inj {H : Hp} {tp : Bool} {a : Addr} {xs ys : List V} (h : SqV tp H a xs) (h' : SqV tp H a ys) : xs = ys := by
 cases tp with
 | false => have := Eq.trans (Eq.symm h) h'; cases this; rfl
 | true => have := Eq.trans (Eq.symm h) h'; cases this; rfl
theorem SqV.ne {H : Hp} {tp : Bool} {a c : Addr} {xs : List V} (h : SqV tp H a xs) (e : H c = none) : a ≠ c := fun z => by
 subst z
 cases tp with
 | false => have h : H a = some (.lst xs) := h; rw [e] at h; cases h
 | true => have h : H a = some (.tup xs) := h; rw [e] at h; cases h
section
variable {X : Cx}
end
end L2
namespace L2
open PySem PySem.Spec PyProof.Rows
variable [Cs]
noncomputable def dictObj (w : World) (l : List (Str × Nat × Addr)) (ep : Nat) : Obj := { cls := .type "dict", data := .dict (l.map fun p => (⟨PySem.PyData.keyHash w.params p.1, .str p.1 p.2.1, .ref p.2.2⟩ : DictEntry)).toArray ep }
inductive GRows (mg : Str → Option Value) : List (Str × Nat × Addr) → List (Str × Str) → Prop
 | nil : GRows mg [] []
 | cons {k f : Str} {t : Nat} {a : Addr} {l kf} : mg f = some (.ref a) → GRows mg l kf → GRows mg ((k, t, a) :: l) ((k, f) :: kf)
structure GD (w : World) (K : PySem.W.Frag) (mg : Str → Option Value) (x : Str) (kf : List (Str × Str)) : Prop where
 ex : ∃ (D : Addr) (ep : Nat) (l : List (Str × Nat × Addr)), mg x = some (.ref D) ∧ (D == sysModules) = false ∧ K.lookup D = some (dictObj w l ep) ∧ GRows mg l kf ∧ (kf.map (·.1)).Nodup
theorem GRows.keys {mg : Str → Option Value} {l : List (Str × Nat × Addr)} {kf : List (Str × Str)} (h : GRows mg l kf) : l.map (·.1) = kf.map (·.1) := by
 induction h with
 | nil => rfl
 | cons _ _ ih => simp [ih]
theorem GRows.find {mg : Str → Option Value} {l : List (Str × Nat × Addr)} {kf : List (Str × Str)} (h : GRows mg l kf) (k : Str) : match kf.lookup k with
  | some f => ∃ a, mg f = some (.ref a) ∧ valueAt (l.map fun p => (p.1, Value.ref p.2.2)) k = some (.ref a)
  | none => valueAt (l.map fun p => (p.1, Value.ref p.2.2)) k = none := by
 induction h with
 | nil => rfl
 | @cons k' f t a l kf hm hr ih =>
  rw [List.lookup_cons]
  by_cases e : k = k'
  ·subst e
   simp only [beq_self_eq_true]
   exact ⟨a, hm, by simp [valueAt]⟩
  ·have e1 : (k == k') = false := by simpa using e
   rw [e1]
   have e2 : valueAt (((k', t, a) :: l).map fun p => (p.1, Value.ref p.2.2)) k = valueAt (l.map fun p => (p.1, Value.ref p.2.2)) k := by
    unfold valueAt
    rw [List.map_cons, List.find?_cons_of_neg (by simpa using Ne.symm e)]
   rw [e2]; exact ih
section
variable {X : Cx}
end
end L2
namespace L2
open PySem PySem.Spec PyProof.Rows
variable [Cs]
end L2
namespace L3
open PySem PySem.Spec PyProof.Rows L2
variable [Cs]
section
variable {X : Cx} {XP : XPT} {mp io : List Nat} {a b c e : Expr} {es : List Expr} {pos p p2 : Pos} {fa fb fc : EM FV}
end
end L3
namespace Tab
open PySem PySem.Spec PyProof.Rows
section
variable {prog : Program} {w : World} {A : Around} {R : Result → Shared → Prop} {I : Addr} {fp wr : List Addr} {G : Array GenState → Array GenState → Prop} {n : Nat} {P : Nat → Value → Prop} {St : Nat → Shared → Prop}
end
section
variable {prog : Program} {w : World} {A : Around} {E : Value → Shared → Prop} {s : Shared}
end
end Tab
namespace L2
open PySem PySem.Spec PyProof.Rows
variable [Cs]
section
variable {X : Cx}
end
end L2
namespace L3
open PySem PySem.Spec PyProof.Rows L2
variable [Cs]
section
variable {X : Cx} {XP : XPT} {mp : List Nat} {a b : Expr} {p1 p2 q1 q2 : Pos} {fa fb : EM FV}
end
end L3
namespace L3
open PySem PySem.Spec PyProof.Rows L2
variable [Cs]
section
variable {M0 : Addr → Prop} {F F' : Fp} {Γ Γ' : Gv} {ν ν' : Nu} {H H' : Hp}
end
section
variable {X : Cx} {XP : XPT} {mp io : List Nat} {a b c e : Expr} {es : List Expr} {pos p p2 pos' p3 : Pos} {fo fo2 : EM OV} {kx : Nat}
theorem Sees.more {ν : Nu} {σ : St} {v : Option V} (h : Sees mp ν σ) (hm : ∀ i ∈ mp, i < ν.length) : Sees mp (ν ++ [v]) σ := fun s i w e1 e2 => h s i w e1 (by
 rw [List.getElem?_append_left (hm i (List.mem_of_getElem? e1))] at e2; exact e2)
end
end L3
set_option maxHeartbeats 4000000
namespace Tab
open PySem PySem.SetTable
section
variable {prog : Program} {w : World} {A : Around} {E : Value → Shared → Prop} {s : Shared} {d I : Addr} {o : Obj} {es : Array (Int × Value)} {ep : Nat} {t : SetTable}
noncomputable def SetIter (h : Heap) (I d : Addr) (sl i n ep : Nat) : Prop := ∃ o, h.get? I = some o ∧ o.cls = .type "set_iterator" ∧ o.data = .fields #[.int sl 0, .int i 0, .ref d, .int n 0, .int ep 0]
theorem SetIter.typeIs {sl i n : Nat} (x : SetIter s.heap I d sl i n ep) : s.TypeIs (.ref I) "set_iterator" := let ⟨o, ho, hc, _⟩ := x; ⟨o, ho, hc⟩
end
end Tab
set_option maxHeartbeats 4000000
namespace Tab
open PySem PySem.SetTable
section
variable {prog : Program} {w : World} {A : Around} {E : Value → Shared → Prop} {s : Shared} {d : Addr} {o : Obj} {es : Array (Int × Value)} {ep : Nat} {t : SetTable}
end
end Tab
namespace L2
open PySem PySem.Spec PyProof.Rows
section
variable {prog : Program} {w : World} {A : Around} {E : Value → Shared → Prop} {s : Shared}
end
end L2
namespace L2
open PySem PySem.Spec PyProof.Rows
variable [Cs]
section
variable {X : Cx}
end
end L2
namespace L3
open PySem PySem.Spec PyProof.Rows L2
variable [Cs]
section
variable {X : Cx} {XP : XPT} {mp : List Nat} {a b : Expr} {fa fb : EM FV}
end
end L3
set_option maxHeartbeats 4000000
namespace L2
open PySem PySem.Spec PyProof.Rows
variable [Cs]
section
variable {X : Cx}
end
end L2
namespace L3
open PySem PySem.Spec PyProof.Rows L2
variable [Cs]
section
variable {X : Cx} {XP : XPT} {mp : List Nat} {a : Expr} {p pos : Pos} {fa : EM FV}
end
end L3
namespace L2
open PySem PySem.Spec PyProof.Rows
variable [Cs]
structure XcK (K : PySem.W.Frag) (C : Addr) : Prop where
 cs : (PySem.W.clsIn K C).isSome = true
 ga : PySem.W.findIn K (.ref C) "__getattribute__" = some (some (.builtin "BaseException.__getattribute__"))
 gh : PySem.W.findIn K (.ref C) "__getattr__" = some none
 cl : PySem.W.findIn K (.ref C) "__class__" = some (some (.builtin "object.__class__"))
 gn : PySem.W.specialIn K (.builtin "object.__class__") "__get__" = some (some (.builtin "getset_descriptor.__get__"))
 tk : PySem.W.takesIn K (.builtin "object.__class__") = some true
 mo : PySem.W.mroIn K C (.type "object") = some true
 mb : PySem.W.mroIn K C (.type "BaseException") = some true
 kp : PySem.W.keepIn K (.ref C) = true
noncomputable def xcIn (K : PySem.W.Frag) (C : Addr) : Bool := (PySem.W.clsIn K C).isSome && (PySem.W.findIn K (.ref C) "__getattribute__" == some (some (.builtin "BaseException.__getattribute__"))) && (PySem.W.findIn K (.ref C) "__getattr__" == some none) && (PySem.W.findIn K (.ref C) "__class__" == some (some (.builtin "object.__class__")))
 && (PySem.W.specialIn K (.builtin "object.__class__") "__get__" == some (some (.builtin "getset_descriptor.__get__"))) && (PySem.W.takesIn K (.builtin "object.__class__") == some true) && (PySem.W.mroIn K C (.type "object") == some true) && (PySem.W.mroIn K C (.type "BaseException") == some true) && PySem.W.keepIn K (.ref C)
theorem XcK.of {K : PySem.W.Frag} {C : Addr} (h : xcIn K C = true) : XcK K C := by
 unfold xcIn at h
 simp only [Bool.and_eq_true, beq_iff_eq] at h
 obtain ⟨⟨⟨⟨⟨⟨⟨⟨h1, h2⟩, h3⟩, h4⟩, h5⟩, h6⟩, h7⟩, h8⟩, h9⟩ := h
 exact ⟨h1, h2, h3, h4, h5, h6, h7, h8, h9⟩
section
variable {prog : Program} {w : World} {A : Around} {E : Value → Shared → Prop} {K : PySem.W.Frag} {s : Shared} {C ea : Addr} {oe : Obj} {odo : Option Obj}
theorem XcK.find (B : XcK K C) : PySem.W.findObj K C odo "__class__" = some (.bind (.builtin "getset_descriptor.__get__") (.builtin "object.__class__")) := by
 obtain ⟨cd, hc⟩ := Option.isSome_iff_exists.mp B.cs
 unfold PySem.W.findObj
 rw [hc, Option.bind_some, B.cl, Option.bind_some]
 simp [B.gn, B.tk]
theorem exc_cls {Q : Option Value → Shared → Prop} (X : K.In s.heap) (B : XcK K C) (J : PySem.W.InstAt s.heap ea oe C odo) (k : Q (some (.ref C)) { s with toks := s.toks + 1 }) : wpAny (model prog w) A (getAttr? (.ref ea) "__class__") Q E s := by
 obtain ⟨h, g, d, t, os⟩ := s
 have L0 := J.type (M := model prog w)
 have l1 := PySem.W.looks_findIn (M := model prog w) X B.ga
 have l2 := PySem.W.looks_findIn (M := model prog w) X B.gh
 have l3 := PySem.W.looks_find (M := model prog w) X J B.find
 have hin : PySem.W.Looks (model prog w) h (isInstance (.ref ea) (.type "BaseException")) true := L0.andThen (PySem.W.looks_mroIn X B.mb)
 have body : ∀ (A : Around) tk (Q : PySem.Fin → Shared → Prop) (E : Value → Shared → Prop), Q (.done (.ret (.ref C))) ⟨h, g, d, t + 1, os⟩ → wpAny (model prog w) A (Builtin.«object.__getattribute__» ⟨[.ref ea, .str "__class__" tk], []⟩) Q E ⟨h, g, d, t + 1, os⟩ := fun A tk Q E hq => by
  unfold Builtin.«object.__getattribute__»
  refine wpAny_bind (wpAny_pure ?_)
  dsimp only
  refine wpAny_bind (wpAny_pure (wpAny_bind (L0.at (wpAny_bind (l3.at ?_)))))
  show wpAny _ _ (holding [_] (call _ [_, _, _]) >>= ret) _ _ _
  refine wpAny_bind (wpAny_holding (wpAny_call (PySem.W.class_get (s := ⟨h, g, d, t + 1, os⟩) (ox := oe) (od := odo) X J B.mo (wpAny_pure hq))))
 unfold getAttr? getAttrBy? getAttrBy
 refine wpAny_bind (wpAny_mkText (wpAny_bind (wpAny_attempt (wpAny_holding (wpAny_bind (L0.at (wpAny_bind (l1.at ?_))))))))
 show wpAny _ _ (getAttrByItsOwn _ _ _ _ _ _) _ _ _
 unfold getAttrByItsOwn hookBefore
 refine wpAny_bind (l2.at ?_)
 refine wpAny_bind (wpAny_attempt (wpAny_holding ?_))
 unfold callGetattribute boundAndCalled
 rw [if_neg (by decide)]
 refine wpAny_bind (wpAny_of_eq (ga_bind _) ?_)
 refine wpAny_call ?_
 refine @codeAny_call_builtin prog w A _ _ "BaseException.__getattribute__" _ Builtin.«object.__getattribute__» ga_plain PySem.F.entry_bexc_ga ?_
 have h1 := @PySem.W.check_slot (model prog w) A.in1
 refine @h1 _ ⟨h, g, d, t + 1, os⟩ "BaseException.__getattribute__" "BaseException" "__getattribute__" (.ref ea) [.str "__class__" t] [] _ ga_kind ga_split hin (PySem.F.args_bexc_ga _ _) ?_
 refine body _ _ _ _ ?_
 exact wpAny_pure (wpAny_pure k)
theorem kitx_exc (B : XcK K C) : PySem.W.KitX K (.ref ea) (.ref C) (fun h => PySem.W.InstAt h ea oe C odo) where
 ty := fun _ _ _ I => I.type
 it := fun _ _ X _ => by
  have z0 := B.cs
  unfold PySem.W.clsIn at z0
  split at z0
  ·rename_i c' d' cd' sl' ho
   intro A' Q' E' s' k q
   unfold isType loadHead
   exact wpAny_bind (wpAny_loadPart (k _ _ (X _ _ ho)) (wpAny_pure q))
  ·cases z0
 ne := fun h tp dd its n sl X htp => by
  refine Bool.eq_false_iff.mpr fun q => ?_
  have e : C = tp := Value.ref.inj (beq_iff_eq.mp q)
  subst e
  have z0 := B.cs
  unfold PySem.W.clsIn at z0
  split at z0
  ·rename_i c' d' cd' sl' ho
   have z := (X _ _ ho).symm.trans htp
   cases z
  ·cases z0
 ca := fun X J k => exc_cls X B J k
end
section
variable {X : Cx} {pins : List (Addr × Obj)} {σ : St} {H : Hp} {s : Shared} {C f W : Addr} {a c x : Str} {Q : VK}
theorem Inv.noneAt {b : Addr} (I : Inv X pins σ H s) (hn : s.heap.get? b = none) : H b = none := by
 cases q : H b with
 | none => rfl
 | some u =>
  obtain ⟨u', e⟩ := (I.hok b u q).here
  rw [hn] at e; cases e
theorem Inv.laidN {b : Addr} {o : HO} {h' : Heap} {t' : Nat} (I : Inv X pins σ H s) (k : ∀ b u, s.heap.get? b = some u → h'.get? b = some u) (hb : s.heap.get? b = none) (new : ObjOk X.prog X.w (upd H b o) h' b o) : Inv X pins σ (upd H b o) { s with heap := h', toks := t' } := by
 have hn := I.noneAt hb
 refine I.un ⟨fun b u q _ _ _ => k b u q, fun b u q _ _ _ => ⟨u.slots, k b u q⟩, fun b' u q n _ => ?_, fun b u q _ => ⟨u, k b u q⟩, fun b xs q => by rw [upd_ne (ne_of_none q hn)]; exact q, fun b u xs q => by rw [upd_ne (ne_of_none q hn)]; exact q, fun b ps q => ⟨#[], by rw [upd_ne (ne_of_none q hn), q]; simp⟩⟩ fun b' u e => ?_
 ·rw [upd_ne (fun z => by rw [z, hb] at q; cases q)]; exact n
 ·by_cases hb : b' = b
  ·subst hb; rw [upd_same] at e; cases e; exact new
  ·rw [upd_ne hb] at e
   exact (I.hok b' u e).stay (fun c v _ q => k c v q) (fun c q => by rw [upd_ne (ne_of_none q hn)]; exact q) fun c xs q => by rw [upd_ne (ne_of_none q hn)]; exact q
theorem call_isx : CallR X (.builtin "isinstance") (fun xs H Q => ∃ ea C dx c cv k, xs = [.ref ea, c] ∧ H ea = some (ExO C dx ea) ∧ (dx = none ∨ ∃ d fs, dx = some d ∧ H d = some (.xd fs)) ∧ XcK X.K C ∧ (∀ u, RelV c u → u = cv) ∧ PySem.W.kitOne X.K (.ref C) cv = some k ∧ Q (.bl k) H) := by
 intro pins s σ H xs us Q I r h
 obtain ⟨ea, C, dx, c, cv, k, rfl, hea, hdx, B, hc, e, q⟩ := h
 obtain ⟨u, w', rfl, rx, rc⟩ := vals2 r
 cases hc _ rc
 obtain rfl : u = Value.ref ea := rx
 obtain ⟨⟨t, e0⟩, _⟩ := (show ObjOk X.prog X.w H s.heap ea (ExO C dx ea) from I.hok ea _ hea)
 have J : ∃ odo, PySem.W.InstAt s.heap ea { cls := .ref C, dict := dx, data := .fields #[.ref t, .none, .none, .none, .bool false, .none] } C odo := by
  rcases hdx with rfl | ⟨d, fs, rfl, hd⟩
  ·exact ⟨none, e0, rfl, rfl, trivial⟩
  ·obtain ⟨od, hod⟩ := (I.hok d _ hd).here
   exact ⟨some od, e0, rfl, rfl, hod⟩
 obtain ⟨odo, J⟩ := J
 exact PySem.W.kia_one (kitx_exc B) I.kIn J e (fun z => nomatch z) fun tk => ⟨.bl k, H, I.tok tk, rfl, q⟩
theorem wp_mkx {np cpos cp : Pos} {z : Str} {cj : Nat} (k : ExcK X x C) (B : XcK X.K C) (h : ∀ ea, H ea = none → Q (.ref ea) (upd H ea (ExO C none ea))) : wpE X (.Call (.Name x np) [.Constant (.str z) cj cp] [] cpos) σ H Q := fun pins s I => by
 obtain ⟨bm, N, nm, qn, bs, hdct, sn, sub, ab, col, dd, k0, k1, k2, k3, k5, mN, hC, hN, hi, T, _⟩ := exc_obj I.mod.kin k.ex
 refine wpAny_Call_Name_kw (ld_glob I k.gl k.mg ?_ k.d)
 have hz : wpE X (.Constant (.str z) cj cp) σ H fun v H' => v = .str z ∧ H' = H := pe_str.wp ⟨rfl, rfl⟩
 have hA : wpA X [.Constant (.str z) cj cp] σ H fun vs H' => vs = [.str z] ∧ H' = H := (pa_cons pe_self pa_nil rfl).wp (hz.mono fun v H' ⟨e1, e2⟩ => ⟨by rw [e1], e2⟩)
 refine PySem.W.callWith_K (h₀ := X.base) I.ok.mod.kin B.kp (thn (hA cpos pins s I) fun us s1 ⟨vs, H1, I1, r, e, eH⟩ => ⟨I1.kIn, ?_⟩) rfl rfl
 subst eH
 have hlen : us.length = 1 := by rw [← r.length, e]; rfl
 refine wpAny_call_exc_subT (h := s1.heap) (g := s1.gens) (d := s1.drawn) (t := s1.toks) (os := s1.os) PySem.F.excBase_ValueError (T.keeps I1.bk) (I1.bk _ _ hC) (hN.keeps I1.bk) hi (fun h' ea hm => ?_) (by have := sizeLine_eq; rw [List.nil_append]; omega)
 obtain ⟨t0, he, _⟩ := hm.there
 exact ⟨.ref ea, _, I1.laidN (o := ExO C none ea) (t' := s1.toks) hm.keeps hm.new (exo_ok he), rfl, h ea (I1.noneAt hm.new)⟩
theorem wp_mkb {fd : FuncData} {ps : List Str} {j : Nat} {np cpos : Pos} {e : Expr} (B : BarK X.K C f W a) (F : FnOk X.prog X.w X.K X.mg X.base (CX1 X.prog X.w) j f fd ps (spB C a)) (hps : ps.length = 2) (hr : Room (j + 1) X.A) (hb : Binds X.K fd ps []) (hg : Gl X c) (hm : X.mg c = some (.ref C)) (hdb : (c == ("__debug__" : Str)) = false) (hst : starEach [e] X.env = [(false, eval e X.env)])
  (h : wpE X e σ H fun v H1 => ∃ l xs, v = .ref l ∧ H1 l = some (.lst xs) ∧ ∀ p d ea, H1 p = none → H1 d = none → H1 ea = none → d ≠ p → p ≠ ea → d ≠ ea → Q (.ref ea) (upd (upd (upd H1 p (.lst xs)) d (.xd [(a, .ref p)])) ea (ExO C (some d) ea))) :
  wpE X (.Call (.Name c np) [e] [] cpos) σ H Q := fun pins s I => by
 obtain ⟨bm, N, nm, qn, bs, sn, sub, ab, col, dd, k0, k1, k2, k3, k5, mN, hC, hN, hi, T⟩ := bar_obj I.mod.kin B.cls
 refine wpAny_Call_Name_kw (ld_glob I hg hm ?_ hdb)
 have hA : wpA X [e] σ H fun vs H1 => ∃ l xs, vs = [.ref l] ∧ H1 l = some (.lst xs) ∧ ∀ p d ea, H1 p = none → H1 d = none → H1 ea = none → d ≠ p → p ≠ ea → d ≠ ea → Q (.ref ea) (upd (upd (upd H1 p (.lst xs)) d (.xd [(a, .ref p)])) ea (ExO C (some d) ea)) :=
  (pa_cons pe_self pa_nil hst).wp (h.mono fun v H' ⟨l, xs, ev, hl, q⟩ => ⟨l, xs, by rw [ev], hl, q⟩)
 refine PySem.W.callWith_K (h₀ := X.base) I.ok.mod.kin B.kp (thn (hA cpos pins s I) fun us s1 ⟨vs, H1, I1, r, l, xs, el, hl, q⟩ => ⟨I1.kIn, ?_⟩) hst rfl
 subst el
 obtain ⟨u, rfl, ru⟩ : ∃ u, us = [u] ∧ RelV (.ref l) u := by
  cases r with
  | cons r1 t => cases t; exact ⟨_, rfl, r1⟩
 obtain ⟨of, ef, cf⟩ : ∃ o, X.K.lookup f = some o ∧ o.cls = .type "function" := by
  have := beq_iff_eq.mp B.fn
  unfold PySem.W.typeIn at this
  simpa using this
 refine call_initT (h := s1.heap) (g := s1.gens) (d := s1.drawn) (t := s1.toks) (os := s1.os) PySem.F.excBase_ValueError (T.keeps I1.bk) (I1.bk _ _ hC) (hN.keeps I1.bk) hi (I1.kIn _ _ ef) cf (fun h' ea hme hz => ?_) (by have := sizeLine_eq; simp; omega)
 obtain ⟨t0, he, _⟩ := hme.there
 have fe : H1 ea = none := I1.hok.fresh hz
 have I2 := I1.laid (a := ea) (o := ExO C none ea) (h' := h') (t' := s1.toks) hme.keeps hz (exo_ok he)
 have r2 : Vals [V.ref ea, V.ref l] [Value.ref ea, u] := .cons rfl (.cons ru .nil)
 have hq : spB C a [.ref ea, .ref l] (upd H1 ea (ExO C none ea)) (fun v H2 => v = .non ∧ ∃ p d, H1 p = none ∧ H1 d = none ∧ d ≠ p ∧ p ≠ ea ∧ d ≠ ea ∧ H2 = upd (upd (upd (upd H1 ea (ExO C none ea)) p (.lst xs)) d (.xd [(a, .ref p)])) ea (ExO C (some d) ea)) E0 :=
  ⟨ea, l, xs, rfl, upd_same, by rw [upd_ne (fun z => by rw [z, fe] at hl; cases hl)]; exact hl, fun p d n1 n2 n3 n4 n5 => ⟨rfl, p, d, by rwa [upd_ne n4] at n1, by rwa [upd_ne n5] at n2, n3, n4, n5, rfl⟩⟩
 have hb' := hb { s1 with heap := h' } [Value.ref ea, u] I2.kIn (by simp [hps])
 rw [List.append_nil] at hb'
 refine wpAny_call (codeAny_mono (F.run _ X.stack { s1 with heap := h' } _ ⟨[Value.ref ea, u], []⟩ [Value.ref ea, u] _ _ E0 (hr.make C [u] []) (I2.env0.make C [u] []) hb' r2 hq) fun r s' hq' => ?_)
 cases r with
 | error e =>
  obtain ⟨_, _, _, _, _, _, _, _, _, _, _, _, z⟩ := (show CX1 X.prog X.w X.stack _ _ E0 e s' from hq')
  exact z.elim
 | ok fl =>
  cases fl with
  | ret u' =>
   obtain ⟨v, H', I3, rv, ev, p, d, n1, n2, n3, n4, n5, eH⟩ := I2.after hq'
   subst ev
   refine ⟨rv, .ref ea, H', I3, rfl, ?_⟩
   have eR : H' = upd (upd (upd H1 p (.lst xs)) d (.xd [(a, .ref p)])) ea (ExO C (some d) ea) := by
    rw [eH]
    funext b
    unfold upd
    by_cases h1 : b = ea
    ·simp only [if_pos h1]
    ·simp only [if_neg h1]
   rw [eR]
   exact q p d ea n1 n2 fe n3 n4 n5
  | next => exact False.elim hq'
  | brk => exact False.elim hq'
  | cont => exact False.elim hq'
theorem wp_atx {e : Expr} {pos : Pos} (B : BarK X.K C f W a) (hb : attributeBase e a X.env (eval e X.env) = eval e X.env) (h : wpE X e σ H fun v H1 => ∃ ea d p, v = .ref ea ∧ H1 ea = some (ExO C (some d) ea) ∧ H1 d = some (.xd [(a, .ref p)]) ∧ Q (.ref p) H1) : wpE X (.Attribute e a pos) σ H Q := fun pins s I => by
 refine attr_of hb (thn (h pins s I) fun u s1 ⟨v, H1, I1, r1, ea, d, p, ev, hea, hH, q⟩ => ?_)
 subst ev
 obtain rfl : u = Value.ref ea := r1
 obtain ⟨bm, N, nm, qn, bs, sn, sub, ab, col, dd, k0, k1, k2, k3, k5, mN, hC, hN', hi, T⟩ := bar_obj I1.kIn B.cls
 obtain ⟨⟨t0, e0⟩, _⟩ := (show ObjOk X.prog X.w H1 s1.heap ea (ExO C (some d) ea) from I1.hok ea _ hea)
 obtain ⟨mA, hns, hr⟩ := (show ObjOk X.prog X.w H1 s1.heap d (.xd [(a, .ref p)]) from I1.hok d _ hH)
 obtain ⟨od, ho, hl⟩ := lookIn_ns hns
 have hra := hr a
 rw [List.lookup_cons, beq_self_eq_true] at hra
 have hma : mA a = some (.ref p) := by
  cases q : mA a with
  | none => rw [q] at hra; exact hra.elim
  | some u => rw [q] at hra; exact congrArg some hra
 refine get_exc (h := s1.heap) (g := s1.gens) (d := s1.drawn) (t := s1.toks) (os := s1.os) I1.kIn T hC e0 rfl rfl rfl ho (by rw [hl, hma]) B.ga B.gh B.at' B.hd fun tk => ?_
 exact ⟨.ref p, H1, I1.tok tk, rfl, q⟩
end
end L2
namespace L3
open PySem PySem.Spec PyProof.Rows L2
variable [Cs]
structure IxK (K : PySem.W.Frag) (mg : Str → Option Value) (c : Str) (ks : List Str) (b : Bool) : Prop where
 ex : ∃ cv : Value, ((∃ C, mg c = some (.ref C) ∧ cv = .ref C) ∨ (mg c = none ∧ c ≠ "__name__" ∧ ∃ T, bootBuiltins c = some (.type T) ∧ cv = .type T)) ∧ ∀ c0 ∈ ks, XcK K (Cs.adr c0) ∧ PySem.W.kitOne K (.ref (Cs.adr c0)) cv = some (b || decide (c0 = c))
noncomputable def excD (c : Str) (ds : List (Str × PyData)) : PyData := .dict ((.bool true, .str c) :: ds.map dK)
noncomputable def xcD (ks : List Str) (c : Str) (b : Bool) : PyData → Option Bool
 | .dict ((.bool true, .str c0) :: _) => if c0 ∈ ks then some (b || decide (c0 = c)) else none
 | _ => none
noncomputable def fIsx (ks : List Str) (c : Str) (b : Bool) (fa : EM FV) : EM FV := fun Γ => (fa Γ).bind fun (u, Γ1) => match (derf Γ1 u).bind (xcD ks c b) with
 | some k => .ok (.dat (.bool k), Γ1)
 | none => .bad
noncomputable def fMkb (c f : Str) (fa : EM FV) : EM FV := fun Γ => (fa Γ).bind fun (u, Γ1) => match derL Γ1 u with
 | some ds => .ok (.dat (excD c [(f, .list ds)]), Γ1)
 | none => .bad
noncomputable def atxD (c f : Str) : PyData → Option PyData
 | .dict [(.bool true, .str c'), (.str f', .list xs)] => if c' = c ∧ f' = f then some (.list xs) else none
 | _ => none
noncomputable def fAtx (c f : Str) (fa : EM FV) : EM FV := fun Γ => (fa Γ).bind fun (u, Γ1) => match (derS Γ1 u).bind (atxD c f) with
 | some x => .ok (.dat x, Γ1)
 | none => .bad
section
variable {X : Cx} {XP : XPT} {mp : List Nat} {c f x : Str} {fi W : Addr} {a : Expr} {fa : EM FV} {k cj : Nat} {p p2 pos np cpos cp : Pos} {z : Str}
theorem se_mkx (e : ExcK X c (Cs.adr c)) (B : XcK X.K (Cs.adr c)) : SE X XP mp (.Call (.Name c np) [.Constant (.str z) cj cp] [] cpos) (fC (excD c [])) := fun M0 F Γ ν σ H Q rs hs hp =>
 wp_mkx e B fun ea n => hp F _ (rs.same (upd_new n)) (.same (upd_new n)) _ (Rep.exo (fs := []) (ds := []) upd_same (fun z => rs.al ea z n) (.inl ⟨rfl, rfl⟩) rfl .nil)
theorem se_mkb (B : KnB X.prog X.w X.K X.mg X.base c f k (Cs.adr c) fi W) (hr : Room k X.A) (hg : Gl X c) (hdb : (c == ("__debug__" : Str)) = false) (ha : SE X XP mp a fa) (hst : starEach [a] X.env = [(false, eval a X.env)]) : SE X XP mp (.Call (.Name c np) [a] [] cpos) (fMkb c f fa) := fun M0 F Γ ν σ H Q rs hs hp => by
 obtain ⟨j, fd, ps, hj, hps, Fn, hb⟩ := B.fn
 refine wp_mkb B.bar Fn hps (hr.mono hj) hb hg B.adr hdb hst (ha.run rs hs hp fun F1 Γ1 H1 u v rs1 s1 o1 h1 => ?_)
 dsimp only at h1
 split at h1
 ·rename_i ds ed
  obtain ⟨l, vs, rfl, el, r⟩ := o1.list rs1 ed
  refine ⟨l, vs, rfl, el, fun q d ea n1 n2 n3 n4 n5 n6 => ?_⟩
  have s2 : Same H1 (upd H1 q (.lst vs)) := upd_new n1
  have nd : upd H1 q (.lst vs) d = none := by rw [upd_ne n4]; exact n2
  have s3 := s2.trans (upd_new (o := .xd [(f, .ref q)]) nd)
  have ne : upd (upd H1 q (.lst vs)) d (.xd [(f, .ref q)]) ea = none := by rw [upd_ne (Ne.symm n6), upd_ne (Ne.symm n5)]; exact n3
  have s4 := s3.trans (upd_new (o := ExO (Cs.adr c) (some d) ea) ne)
  refine h1 F1 _ (rs1.same s4) (.same s4) _ (Rep.exo (dx := some d) (fs := [(f, .ref q)]) (ds := [(f, .list ds)]) upd_same (fun z => rs1.al ea z n3) (.inr ⟨d, rfl, ?_, fun z => rs1.al d z n2⟩) rfl (.cons (Rep.list (vs := vs) ?_ (fun z => rs1.al q z n1) (r.grow s4.grow)) .nil))
  ·rw [upd_ne n6, upd_same]
  ·rw [upd_ne n5, upd_ne (Ne.symm n4), upd_same]
 ·exact h1.elim
theorem se_isx {ks : List Str} {b : Bool} (B : BiK X x (.builtin "isinstance")) (I : IxK X.K X.mg c ks b) (hg : Gl X c) (hdb : (c == ("__debug__" : Str)) = false) (ha : SE X XP mp a fa) (hst : starEach [a, .Name c p2] X.env = (false, eval a X.env) :: starEach [.Name c p2] X.env) :
  SE X XP mp (.Call (.Name x p) [a, .Name c p2] [] pos) (fIsx ks c b fa) := fun M0 F Γ ν σ H Q rs hs hp => by
 obtain ⟨cv, hcv, hk⟩ := I.ex
 obtain ⟨vc, pc, rel⟩ : ∃ vc : V, PE X (.Name c p2) (tC vc) ∧ ∀ u, RelV vc u → u = cv := by
  rcases hcv with ⟨C, hm, rfl⟩ | ⟨hm, hn, T, hv, rfl⟩
  ·exact ⟨.ref C, pe_glob hg hm rfl hdb, fun u h => h⟩
  ·exact ⟨.ty T, pe_bltn hg hm hv rfl hn hdb, fun u h => h⟩
 refine (pe_callB call_isx B.gl B.mg B.bt (pa_cons pe_self (pa_cons pc pa_nil rfl) hst) B.n B.d hst rfl).wp (ha.run rs hs hp fun F1 Γ1 H1 u v rs1 s1 o1 h1 => ?_)
 dsimp only at h1
 split at h1
 ·rename_i r ek
  cases ex : derf Γ1 u with
  | none => rw [ex] at ek; cases ek
  | some y =>
   rw [ex] at ek
   have ek' : xcD ks c b y = some r := ek
   unfold xcD at ek'
   split at ek'
   ·rename_i c0 kv
    split at ek'
    ·rename_i hc0
     cases ek'
     obtain ⟨l, rfl, n, h | h | h⟩ := (o1.weak rs1 ex).dict_inv
     ·obtain ⟨ks', ds, _, e, _⟩ := h
      cases ds <;> cases e
     ·obtain ⟨_, _, _, _, _, e, _⟩ := h
      cases e
     ·obtain ⟨dx, c1, fs, ds, el, hx, e, kr⟩ := h
      cases e
      refine ⟨l, _, dx, vc, cv, _, rfl, el, hx.imp And.left fun ⟨d, e1, e2, _⟩ => ⟨d, fs, e1, e2⟩, (hk _ hc0).1, rel, (hk _ hc0).2, h1 F1 H1 rs1 (.refl _ _) _ (Rep.bool _)⟩
    ·cases ek'
   ·cases ek'
 ·exact h1.elim
theorem se_atx {W' fi' : Addr} (B : BarK X.K (Cs.adr c) fi' W' f) (ha : SE X XP mp a fa) (hb : attributeBase a f X.env (eval a X.env) = eval a X.env) : SE X XP mp (.Attribute a f pos) (fAtx c f fa) := fun M0 F Γ ν σ H Q rs hs hp =>
 wp_atx B hb (ha.run rs hs hp fun F1 Γ1 H1 u v rs1 s1 o1 h1 => by
  dsimp only at h1
  split at h1
  ·rename_i y ey
   cases ed : derS Γ1 u with
   | none => rw [ed] at ey; cases ey
   | some d =>
    rw [ed] at ey
    have ey' : atxD c f d = some y := ey
    unfold atxD at ey'
    split at ey'
    ·rename_i c' f' xs
     split at ey'
     ·rename_i hc
      obtain ⟨rfl, rfl⟩ := hc
      cases ey'
      obtain ⟨l, rfl, n, h | h | h⟩ := (o1.strong rs1 ed).dict_inv
      ·obtain ⟨ks, ds, _, e, _⟩ := h
       cases ds <;> cases e
      ·obtain ⟨_, _, _, _, _, e, _⟩ := h
       cases e
      ·obtain ⟨dx, c1, fs, ds, el, hx, e, kr⟩ := h
       cases kr with
       | nil => cases e
       | cons q t => cases t with
        | cons _ _ => cases e
        | nil =>
         cases e
         obtain ⟨pl, vs, rfl, e1, m1, r⟩ := Rep.lst_inv q
         rcases hx with ⟨_, e2⟩ | ⟨d, rfl, e2, _⟩
         ·cases e2
         ·exact ⟨l, d, pl, rfl, el, e2, h1 F1 H1 rs1 (.refl _ _) _ q⟩
     ·cases ey'
    ·cases ey'
  ·exact h1.elim)
end
end L3
namespace L3
open PySem PySem.Spec PyProof.Rows L2
set_option genSizeOfSpec false
set_option genInjectivity false
mutual
inductive IE where
 | var (s i : Nat)
 | cint (i : Int)
 | cstr (x : Str)
 | cbool (b : Bool)
 | tup (a : IL)
 | new (n : IN)
 | bin (op : Operator) (a b : IE)
 | cmp (op : CmpOp) (a b : IE)
 | not (a : IE)
 | and (a b : IE)
 | or (a b : IE)
 | ite (c a b : IE)
 | ix (a b : IE)
 | len (a : IE)
 | isi (T : String) (a : IE)
 | call (o : IO)
 | mkx (c : Str)
 | mkb (c f : Str) (a : IE)
 | isx (c : Str) (ks : List Str) (b : Bool) (a : IE)
 | atx (c f : Str) (a : IE)
inductive IL where
 | nil
 | cons (e : IE) (a : IL)
inductive IA where
 | nil
 | cons (e : IE) (a : IA)
 | io (s i : Nat) (a : IA)
 | tmp (n : IN)
inductive IN where
 | lst (a : IL)
 | cat (a b : IE)
 | list (e : IE)
 | comp (n k : Nat) (ix : List Nat) (N' : List Str) (t : IT) (src : II) (c : IC) (el : IE)
inductive IP where
 | non
 | one (e : IE)
inductive II where
 | list (e : IE)
 | tup (e : IE)
 | range (e : IE)
 | enum (e : IE)
inductive IC where
 | yes
 | one (e : IE)
inductive IO where
 | dat (e : IE)
 | own (n : IN)
 | call (f : Str) (n : Nat) (a : IA)
 | move (s i : Nat)
inductive IJ where
 | nil
end
set_option genSizeOfSpec true
set_option genInjectivity true
noncomputable def IN.plain : IN → Bool
 | _ => true
noncomputable abbrev CF := Str → List OV → RF
noncomputable def fNo : EM Bool := fun _ => .bad
mutual
noncomputable def IE.ev (cf : CF) : IE → EM FV × EM Bool
 | .var _ i => (fVar i, fTru (fVar i))
 | .cint i => (fC (.int i), fTru (fC (.int i)))
 | .cstr x => (fC (.str x), fTru (fC (.str x)))
 | .cbool b => (fC (.bool b), fTru (fC (.bool b)))
 | .tup a => (fTup (a.ev cf), fTru (fTup (a.ev cf)))
 | .new n => (fNew (n.ev cf), fTru (fNew (n.ev cf)))
 | .bin op a b => (fBin (binD op) (a.ev cf).1 (b.ev cf).1, fTru (fBin (binD op) (a.ev cf).1 (b.ev cf).1))
 | .cmp op a b => (fB (fCmp (cmpD op) (a.ev cf).1 (b.ev cf).1), fCmp (cmpD op) (a.ev cf).1 (b.ev cf).1)
 | .not a => (fB (fNotT (fTru (a.ev cf).1)), fNotT (a.ev cf).2)
 | .and a b => (fAndV (a.ev cf).1 (b.ev cf).1, fAndT (a.ev cf).2 (b.ev cf).2)
 | .or a b => (fOrV (a.ev cf).1 (b.ev cf).1, fOrT (a.ev cf).2 (b.ev cf).2)
 | .ite c a b => (fIf (c.ev cf).2 (a.ev cf).1 (b.ev cf).1, fNo)
 | .ix a b => (fIx (a.ev cf).1 (b.ev cf).1, fTru (fIx (a.ev cf).1 (b.ev cf).1))
 | .len a => (f1 gLen (a.ev cf).1, fTru (f1 gLen (a.ev cf).1))
 | .isi T a => (fIsi T (a.ev cf).1, fTru (fIsi T (a.ev cf).1))
 | .call o => (fOD (o.ev cf), fTru (fOD (o.ev cf)))
 | .mkx c => (fC (excD c []), fNo)
 | .mkb c f a => (fMkb c f (a.ev cf).1, fNo)
 | .isx c ks b a => (fIsx ks c b (a.ev cf).1, fTru (fIsx ks c b (a.ev cf).1))
 | .atx c f a => (fAtx c f (a.ev cf).1, fTru (fAtx c f (a.ev cf).1))
noncomputable def IL.ev (cf : CF) : IL → EM (List FV)
 | .nil => fNil
 | .cons e a => fCons (e.ev cf).1 (a.ev cf)
noncomputable def IA.ev (cf : CF) : IA → EM (List AV)
 | .nil => aNil
 | .cons e a => aCons (e.ev cf).1 (a.ev cf)
 | .io _ i a => aIo i (a.ev cf)
 | .tmp n => aTmp (n.ev cf)
noncomputable def IN.ev (cf : CF) : IN → EM (List PyData)
 | .lst a => fLst (a.ev cf)
 | .cat a b => fCat (a.ev cf).1 (b.ev cf).1
 | .list e => fListC (e.ev cf).1
 | .comp n k _ _ t src c el => fComp n k t (src.ev cf) (c.ev cf) (el.ev cf).1
noncomputable def IP.ev (cf : CF) : IP → EM (Option Int)
 | .non => fNoE
 | .one e => fEnd (e.ev cf).1
noncomputable def II.ev (cf : CF) : II → EM (List PyData)
 | .list e => fSeqL (e.ev cf).1
 | .tup e => fSeqT (e.ev cf).1
 | .range e => fRange (e.ev cf).1
 | .enum e => fEnum (e.ev cf).1
noncomputable def IC.ev (cf : CF) : IC → EM Bool
 | .yes => fYes
 | .one e => (e.ev cf).2
noncomputable def IO.ev (cf : CF) : IO → EM OV
 | .dat e => fD (e.ev cf).1
 | .own n => fOwn (n.ev cf)
 | .call f _ a => fCall (cf f) (a.ev cf)
 | .move _ i => fMove i
noncomputable def IJ.ev (cf : CF) : IJ → EM (List Str)
 | .nil => fPart0
end
structure Wd where
 bi : List Str
 gi : List (Str × Int)
 gs : List (Str × Str)
 fl : List (Str × Nat)
 ex : List Str
 gd : List (Str × List (Str × Str))
 fk : List (Str × Str) := []
 mc : List (Str × Str × Nat) := []
 ml : List (Str × Str × Str × Nat) := []
 br : List (Str × Str) := []
 xm : List Str := []
 xt : List (Str × Bool) := []
noncomputable def notStar : Expr → Bool
 | .Starred .. => false
 | _ => true
noncomputable def plainT : Expr → Bool
 | .UnaryOp .Not _ _ => false
 | .BoolOp .. => false
 | .IfExp .. => false
 | .Compare .. => false
 | _ => true
noncomputable def notSlice : Expr → Bool
 | .Slice .. => false
 | _ => true
noncomputable def notSet : Expr → Bool
 | .Set .. => false
 | _ => true
noncomputable def isTup : Expr → Bool
 | .Tuple .. => true
 | _ => false
noncomputable def visB (sc : Scope) (x : Str) : Bool := decide (sc.names.lookup x = some .local) || decide (sc.names.lookup x = some .cell) || decide (sc.names.lookup x = some .free)
noncomputable def gloB (sc : Scope) (x : Str) : Bool := decide (sc.names.lookup x = some .globalImplicit)
noncomputable def nmB (sc : Scope) (N : List Str) (mp : List Nat) (s i : Nat) (x : Str) : Bool := decide (N[s]? = some x) && visB sc x && decide (mp[s]? = some i) && !(x == ("__debug__" : Str)) && !(x == ("__classdict__" : Str))
noncomputable def biB (W : Wd) (sc : Scope) (x y : Str) : Bool := decide (x = y) && gloB sc x && W.bi.contains x
noncomputable def okO {α : Type} (o : Option α) (f : α → Bool) : Bool := match o with
 | some a => f a
 | none => false
theorem okO_inv {α : Type} {o : Option α} {f : α → Bool} (h : okO o f = true) : ∃ a, o = some a ∧ f a = true := by
 cases o with
 | none => cases h
 | some a => exact ⟨a, rfl, h⟩
noncomputable def unName : Expr → Option (Str × Pos)
 | .Name x p => some (x, p)
 | _ => none
noncomputable def unCon : Expr → Option (Const × Nat × Pos)
 | .Constant c j p => some (c, j, p)
 | _ => none
noncomputable def cInt : Const → Option Int
 | .int i => some i
 | _ => none
noncomputable def cStr : Const → Option Str
 | .str i => some i
 | _ => none
noncomputable def cBool : Const → Option Bool
 | .bool i => some i
 | _ => none
noncomputable def unTup : Expr → Option (List Expr × Nat × Pos)
 | .Tuple es n p => some (es, n, p)
 | _ => none
noncomputable def unLst : Expr → Option (List Expr × Pos)
 | .List es p => some (es, p)
 | _ => none
noncomputable def unBin : Expr → Option (Expr × Operator × Expr × Pos)
 | .BinOp x op y p => some (x, op, y, p)
 | _ => none
noncomputable def unCmp : Expr → Option (Expr × List CmpOp × List Expr × Pos)
 | .Compare x ops ys p => some (x, ops, ys, p)
 | _ => none
noncomputable def unUn : Expr → Option (UnaryOp × Expr × Pos)
 | .UnaryOp op x p => some (op, x, p)
 | _ => none
noncomputable def unBl : Expr → Option (BoolOp × List Expr × Pos)
 | .BoolOp op vs p => some (op, vs, p)
 | _ => none
noncomputable def unIfE : Expr → Option (Expr × Expr × Expr × Pos)
 | .IfExp z x y p => some (z, x, y, p)
 | _ => none
noncomputable def unSub : Expr → Option (Expr × Expr × Pos)
 | .Subscript x y p => some (x, y, p)
 | _ => none
noncomputable def unCal : Expr → Option (Expr × List Expr × List Keyword × Pos)
 | .Call f xs ks q => some (f, xs, ks, q)
 | _ => none
noncomputable def unAtt : Expr → Option (Expr × Str × Pos)
 | .Attribute x f p => some (x, f, p)
 | _ => none
noncomputable def unLco : Expr → Option (Expr × List Comprehension × Scope × Pos)
 | .ListComp elt gens scope p => some (elt, gens, scope, p)
 | _ => none
theorem unName_inv {e : Expr} {x : Str} {p : Pos} (h : unName e = some (x, p)) : e = .Name x p := by
 unfold unName at h
 split at h
 ·cases h; rfl
 ·cases h
theorem unCon_inv {e : Expr} {c : Const} {j : Nat} {p : Pos} (h : unCon e = some (c, j, p)) : e = .Constant c j p := by
 unfold unCon at h
 split at h
 ·cases h; rfl
 ·cases h
theorem cInt_inv {c : Const} {i : Int} (h : cInt c = some i) : c = .int i := by
 unfold cInt at h
 split at h
 ·cases h; rfl
 ·cases h
theorem cStr_inv {c : Const} {i : Str} (h : cStr c = some i) : c = .str i := by
 unfold cStr at h
 split at h
 ·cases h; rfl
 ·cases h
theorem cBool_inv {c : Const} {i : Bool} (h : cBool c = some i) : c = .bool i := by
 unfold cBool at h
 split at h
 ·cases h; rfl
 ·cases h
theorem unTup_inv {e : Expr} {es : List Expr} {n : Nat} {p : Pos} (h : unTup e = some (es, n, p)) : e = .Tuple es n p := by
 unfold unTup at h
 split at h
 ·cases h; rfl
 ·cases h
theorem unLst_inv {e : Expr} {es : List Expr} {p : Pos} (h : unLst e = some (es, p)) : e = .List es p := by
 unfold unLst at h
 split at h
 ·cases h; rfl
 ·cases h
theorem unBin_inv {e x y : Expr} {op : Operator} {p : Pos} (h : unBin e = some (x, op, y, p)) : e = .BinOp x op y p := by
 unfold unBin at h
 split at h
 ·cases h; rfl
 ·cases h
theorem unCmp_inv {e x : Expr} {ops : List CmpOp} {ys : List Expr} {p : Pos} (h : unCmp e = some (x, ops, ys, p)) : e = .Compare x ops ys p := by
 unfold unCmp at h
 split at h
 ·cases h; rfl
 ·cases h
theorem unUn_inv {e x : Expr} {op : UnaryOp} {p : Pos} (h : unUn e = some (op, x, p)) : e = .UnaryOp op x p := by
 unfold unUn at h
 split at h
 ·cases h; rfl
 ·cases h
theorem unBl_inv {e : Expr} {op : BoolOp} {vs : List Expr} {p : Pos} (h : unBl e = some (op, vs, p)) : e = .BoolOp op vs p := by
 unfold unBl at h
 split at h
 ·cases h; rfl
 ·cases h
theorem unIfE_inv {e z x y : Expr} {p : Pos} (h : unIfE e = some (z, x, y, p)) : e = .IfExp z x y p := by
 unfold unIfE at h
 split at h
 ·cases h; rfl
 ·cases h
theorem unSub_inv {e x y : Expr} {p : Pos} (h : unSub e = some (x, y, p)) : e = .Subscript x y p := by
 unfold unSub at h
 split at h
 ·cases h; rfl
 ·cases h
theorem unCal_inv {e f : Expr} {xs : List Expr} {ks : List Keyword} {p : Pos} (h : unCal e = some (f, xs, ks, p)) : e = .Call f xs ks p := by
 unfold unCal at h
 split at h
 ·cases h; rfl
 ·cases h
theorem unAtt_inv {e x : Expr} {f : Str} {p : Pos} (h : unAtt e = some (x, f, p)) : e = .Attribute x f p := by
 unfold unAtt at h
 split at h
 ·cases h; rfl
 ·cases h
theorem unLco_inv {e elt : Expr} {gens : List Comprehension} {scope : Scope} {p : Pos} (h : unLco e = some (elt, gens, scope, p)) : e = .ListComp elt gens scope p := by
 unfold unLco at h
 split at h
 ·cases h; rfl
 ·cases h
noncomputable def unN (e : Expr) : Option (Str × Pos × List Expr × Pos) := (unCal e).bind fun (f, xs, ks, q) => match ks with
 | [] => (unName f).map fun (x, p) => (x, p, xs, q)
 | _ :: _ => none
theorem unN_inv {e : Expr} {f : Str} {p : Pos} {xs : List Expr} {q : Pos} (h : unN e = some (f, p, xs, q)) : e = .Call (.Name f p) xs [] q := by
 unfold unN at h
 cases e1 : unCal e with
 | none => rw [e1] at h; cases h
 | some z =>
  obtain ⟨g, ys, ks, q'⟩ := z
  rw [e1] at h
  cases ks with
  | cons _ _ => cases h
  | nil =>
   cases e2 : unName g with
   | none => simp [e2] at h
   | some z =>
    obtain ⟨x, p'⟩ := z
    simp [e2] at h
    obtain ⟨rfl, rfl, rfl, rfl⟩ := h
    rw [unCal_inv e1, unName_inv e2]
noncomputable def one1 {α : Type} : List α → Option α
 | [x] => some x
 | _ => none
theorem one1_inv {α : Type} {l : List α} {x : α} (h : one1 l = some x) : l = [x] := by
 match l, h with
 | [_], h => cases h; rfl
noncomputable def two2 {α : Type} : List α → Option (α × α)
 | [x, y] => some (x, y)
 | _ => none
theorem two2_inv {α : Type} {l : List α} {x y : α} (h : two2 l = some (x, y)) : l = [x, y] := by
 match l, h with
 | [_, _], h => cases h; rfl
noncomputable def un1 (e : Expr) : Option (Str × Pos × Expr × Pos) := (unN e).bind fun (f, p, xs, q) => (one1 xs).map fun x => (f, p, x, q)
theorem un1_inv {e : Expr} {f : Str} {p : Pos} {x : Expr} {q : Pos} (h : un1 e = some (f, p, x, q)) : e = .Call (.Name f p) [x] [] q := by
 unfold un1 at h
 cases e1 : unN e with
 | none => rw [e1] at h; cases h
 | some z =>
  obtain ⟨g, p', xs, q'⟩ := z
  cases e2 : one1 xs with
  | none => simp [e1, e2] at h
  | some y =>
   simp [e1, e2] at h
   obtain ⟨rfl, rfl, rfl, rfl⟩ := h
   rw [unN_inv e1, one1_inv e2]
noncomputable def un2 (e : Expr) : Option (Str × Pos × Expr × Expr × Pos) := (unN e).bind fun (f, p, xs, q) => (two2 xs).map fun (x, y) => (f, p, x, y, q)
theorem un2_inv {e : Expr} {f : Str} {p : Pos} {x y : Expr} {q : Pos} (h : un2 e = some (f, p, x, y, q)) : e = .Call (.Name f p) [x, y] [] q := by
 unfold un2 at h
 cases e1 : unN e with
 | none => rw [e1] at h; cases h
 | some z =>
  obtain ⟨g, p', xs, q'⟩ := z
  cases e2 : two2 xs with
  | none => simp [e1, e2] at h
  | some y =>
   obtain ⟨y1, y2⟩ := y
   simp [e1, e2] at h
   obtain ⟨rfl, rfl, rfl, rfl, rfl⟩ := h
   rw [unN_inv e1, two2_inv e2]
noncomputable def unMe (e : Expr) : Option (Str × Pos × Str × Pos × List Expr × Pos) := (unCal e).bind fun (f, xs, ks, q) => match ks with
 | [] => (unAtt f).bind fun (x, m, p2) => (unName x).map fun (y, p) => (y, p, m, p2, xs, q)
 | _ :: _ => none
theorem unMe_inv {e : Expr} {x f : Str} {p p2 : Pos} {xs : List Expr} {q : Pos} (h : unMe e = some (x, p, f, p2, xs, q)) : e = .Call (.Attribute (.Name x p) f p2) xs [] q := by
 unfold unMe at h
 cases e1 : unCal e with
 | none => rw [e1] at h; cases h
 | some z =>
  obtain ⟨g, ys, ks, q'⟩ := z
  rw [e1] at h
  cases ks with
  | cons _ _ => cases h
  | nil =>
   cases e2 : unAtt g with
   | none => simp [e2] at h
   | some z =>
    obtain ⟨y, m, p3⟩ := z
    cases e3 : unName y with
    | none => simp [e2, e3] at h
    | some z =>
     obtain ⟨y', p'⟩ := z
     simp [e2, e3] at h
     obtain ⟨rfl, rfl, rfl, rfl, rfl, rfl⟩ := h
     rw [unCal_inv e1, unAtt_inv e2, unName_inv e3]
noncomputable def unLC (e : Expr) : Option (Expr × Expr × Expr × List Expr × Scope × Pos) := (unLco e).bind fun (elt, gens, scope, p) => (one1 gens).bind fun g => if g.is_async = 0 then some (elt, g.target, g.iter, g.ifs, scope, p) else none
theorem unLC_inv {e elt tg iter : Expr} {ifs : List Expr} {scope : Scope} {p : Pos} (h : unLC e = some (elt, tg, iter, ifs, scope, p)) : e = .ListComp elt [⟨tg, iter, ifs, 0⟩] scope p := by
 unfold unLC at h
 cases e1 : unLco e with
 | none => rw [e1] at h; cases h
 | some z =>
  obtain ⟨a1, a2, a3, a4⟩ := z
  cases e2 : one1 a2 with
  | none => simp [e1, e2] at h
  | some g =>
   obtain ⟨g1, g2, g3, g4⟩ := g
   by_cases hz : g4 = 0
   ·subst hz
    simp [e1, e2] at h
    obtain ⟨rfl, rfl, rfl, rfl, rfl, rfl⟩ := h
    rw [unLco_inv e1, one1_inv e2]
   ·simp [e1, e2, hz] at h
noncomputable def unAnd (op : BoolOp) (e : Expr) : Option (Expr × Expr) := (unBl e).bind fun (o, vs, p) => if o = op then (match vs with
 | x :: y :: [] => some (x, y)
 | x :: y :: z :: r => some (x, .BoolOp op (y :: z :: r) p)
 | _ => none) else none
theorem unAnd_inv {op : BoolOp} {e x z : Expr} (h : unAnd op e = some (x, z)) : (∃ p, e = .BoolOp op [x, z] p) ∨ ∃ y w r p, e = .BoolOp op (x :: y :: w :: r) p ∧ z = .BoolOp op (y :: w :: r) p := by
 unfold unAnd at h
 cases e1 : unBl e with
 | none => rw [e1] at h; cases h
 | some q =>
  obtain ⟨o, vs, p⟩ := q
  rw [unBl_inv e1]
  by_cases ho : o = op
  ·subst ho
   match vs with
   | [] => simp [e1] at h
   | [_] => simp [e1] at h
   | [a, b] =>
    simp [e1] at h
    obtain ⟨rfl, rfl⟩ := h
    exact .inl ⟨p, rfl⟩
   | a :: b :: c :: r =>
    simp [e1] at h
    obtain ⟨rfl, rfl⟩ := h
    exact .inr ⟨b, c, r, p, rfl, rfl⟩
  ·simp [e1, ho] at h
mutual
noncomputable def chkT (sc : Scope) (N : List Str) (mp : List Nat) (lo : Nat) : IT → Expr → Bool
 | .nm s i, .Name x _ => decide (N[s]? = some x) && decide (mp[s]? = some i) && decide (lo ≤ i) && (decide (sc.names.lookup x = some .local) || decide (sc.names.lookup x = some .cell))
 | .tp ts, .Tuple es _ _ => chkTs sc N mp lo ts es
 | _, _ => false
noncomputable def chkTs (sc : Scope) (N : List Str) (mp : List Nat) (lo : Nat) : ITs → List Expr → Bool
 | .nil, [] => true
 | .cons t ts, e :: es => notStar e && chkT sc N mp lo t e && chkTs sc N mp lo ts es
 | _, _ => false
end
noncomputable def plainO : Expr → Bool
 | .Name .. => true
 | .Subscript .. => true
 | .Attribute .. => true
 | .Call (.Attribute ..) .. => true
 | _ => false
theorem base_of {o : Expr} {nm : Str} {env : Env} (h : plainO o = true) : attributeBase o nm env (eval o env) = eval o env := by
 cases o <;> first | rfl | (simp [plainO] at h; done) | skip
 rename_i f xs ks q
 cases f <;> first | rfl | (simp [plainO] at h)
noncomputable def unMo (e : Expr) : Option (Expr × Str × Pos × List Expr × Pos) := (unCal e).bind fun (f, xs, ks, q) => match ks with
 | [] => (unAtt f).map fun (x, m, p2) => (x, m, p2, xs, q)
 | _ :: _ => none
theorem unMo_inv {e o : Expr} {m : Str} {p2 q : Pos} {xs : List Expr} (h : unMo e = some (o, m, p2, xs, q)) : e = .Call (.Attribute o m p2) xs [] q := by
 unfold unMo at h
 cases e1 : unCal e with
 | none => rw [e1] at h; cases h
 | some w =>
  obtain ⟨f, ys, ks, q'⟩ := w
  rw [e1] at h
  cases ks with
  | cons _ _ => cases h
  | nil =>
   cases e2 : unAtt f with
   | none => simp [e2] at h
   | some w =>
    obtain ⟨x, m', p2'⟩ := w
    simp [e2] at h
    obtain ⟨rfl, rfl, rfl, rfl, rfl⟩ := h
    rw [unCal_inv e1, unAtt_inv e2]
mutual
noncomputable def IE.chk (W : Wd) (sc : Scope) (N : List Str) (mp : List Nat) (m : Nat) : IE → Expr → Bool
 | .var s i, e => okO (unName e) fun x => nmB sc N mp s i x.1
 | .cint i, e => okO (unCon e) fun c => okO (cInt c.1) fun j => decide (i = j)
 | .cstr x, e => okO (unCon e) fun c => okO (cStr c.1) fun y => decide (x = y)
 | .cbool b, e => okO (unCon e) fun c => okO (cBool c.1) fun y => decide (b = y)
 | .tup a, e => okO (unTup e) fun es => a.chk W sc N mp m es.1
 | .new n, e => plainT e && n.chk W sc N mp m e
 | .bin op a b, e => okO (unBin e) fun z => decide (op = z.2.1) && a.chk W sc N mp m z.1 && b.chk W sc N mp m z.2.2.1
 | .cmp op a b, e => okO (unCmp e) fun z => okO (one1 z.2.1) fun op' => okO (one1 z.2.2.1) fun y => decide (op = op') && notSet y && a.chk W sc N mp m z.1 && b.chk W sc N mp m y
 | .not a, e => okO (unUn e) fun z => decide (z.1 = .Not) && a.chk W sc N mp m z.2.1
 | .and a b, e => okO (unAnd .And e) fun z => a.chk W sc N mp m z.1 && b.chk W sc N mp m z.2
 | .or a b, e => okO (unAnd .Or e) fun z => a.chk W sc N mp m z.1 && b.chk W sc N mp m z.2
 | .ite c a b, e => okO (unIfE e) fun z => c.chk W sc N mp m z.1 && a.chk W sc N mp m z.2.1 && b.chk W sc N mp m z.2.2.1
 | .ix a b, e => okO (unSub e) fun z => notSlice z.2.1 && a.chk W sc N mp m z.1 && b.chk W sc N mp m z.2.1
 | .len a, e => match un1 e with
  | some (f, _, x, _) => biB W sc f "len" && notStar x && a.chk W sc N mp m x
  | none => false
 | .isi T a, e => match un2 e with
  | some (f, _, x, y, _) => biB W sc f "isinstance" && notStar x && (T == "int" || T == "bool" || T == "list" || T == "tuple" || T == "str") && okO (unName y) (fun z => biB W sc z.1 (Str.ofString T)) && a.chk W sc N mp m x
  | none => false
 | .call o, e => plainT e && o.chk W sc N mp m e
 | .mkx c, e => okO (un1 e) fun (f, _, x, _) => decide (f = c) && gloB sc c && W.ex.contains c && W.xm.contains c && !(c == ("__debug__" : Str)) && okO (unCon x) fun cc => okO (cStr cc.1) fun _ => true
 | .mkb c g a, e => okO (un1 e) fun (f, _, x, _) => decide (f = c) && gloB sc c && W.br.contains (c, g) && W.xm.contains c && !(c == ("__debug__" : Str)) && notStar x && a.chk W sc N mp m x
 | .isx c ks b a, e => okO (un2 e) fun (f, _, x, y, _) => biB W sc f "isinstance" && notStar x && decide (ks = W.xm) && W.xt.contains (c, b) && gloB sc c && !(c == ("__debug__" : Str)) && okO (unName y) (fun z => decide (z.1 = c)) && a.chk W sc N mp m x
 | .atx c g a, e => okO (unAtt e) fun z => decide (z.2.1 = g) && W.br.contains (c, g) && W.xm.contains c && plainO z.1 && a.chk W sc N mp m z.1
noncomputable def IL.chk (W : Wd) (sc : Scope) (N : List Str) (mp : List Nat) (m : Nat) : IL → List Expr → Bool
 | .nil, [] => true
 | .cons e a, x :: xs => notStar x && e.chk W sc N mp m x && a.chk W sc N mp m xs
 | _, _ => false
noncomputable def IA.chk (W : Wd) (sc : Scope) (N : List Str) (mp : List Nat) (m : Nat) : IA → List Expr → Bool
 | .nil, [] => true
 | .cons e a, x :: xs => notStar x && e.chk W sc N mp m x && a.chk W sc N mp m xs
 | .io s i a, x :: xs => okO (unName x) (fun z => nmB sc N mp s i z.1) && a.chk W sc N mp m xs
 | .tmp n, [x] => notStar x && n.chk W sc N mp m x
 | _, _ => false
noncomputable def IN.chk (W : Wd) (sc : Scope) (N : List Str) (mp : List Nat) (m : Nat) : IN → Expr → Bool
 | .lst a, e => okO (unLst e) fun z => a.chk W sc N mp m z.1
 | .cat a b, e => okO (unBin e) fun z => decide (z.2.1 = .Add) && a.chk W sc N mp m z.1 && b.chk W sc N mp m z.2.2.1
 | .list e, y => match un1 y with
  | some (f, _, x, _) => biB W sc f "list" && notStar x && e.chk W sc N mp m x
  | none => false
 | .comp n k ix N' t src c el, e => match unLC e with
  | some (elt, tg, iter, ifs, scope, _) => decide (n = m) && cscOk sc N scope N' k ix && decide (mpC mp n k ix).Nodup && ix.all (fun i => match mp[i]? with
   | some j => decide (j < n)
   | none => false) && notSet iter && src.chk W sc N mp m iter tg && chkT scope N' (mpC mp n k ix) n t tg && c.chk W scope N' (mpC mp n k ix) (n + k) ifs && el.chk W scope N' (mpC mp n k ix) (n + k) elt
  | none => false
noncomputable def IP.chk (W : Wd) (sc : Scope) (N : List Str) (mp : List Nat) (m : Nat) : IP → Option Expr → Bool
 | .non, none => true
 | .one e, some x => e.chk W sc N mp m x
 | _, _ => false
noncomputable def II.chk (W : Wd) (sc : Scope) (N : List Str) (mp : List Nat) (m : Nat) : II → Expr → Expr → Bool
 | .list e, x, _ => e.chk W sc N mp m x
 | .tup e, x, _ => e.chk W sc N mp m x
 | .range e, y, _ => match un1 y with
  | some (f, _, x, _) => biB W sc f "range" && notStar x && e.chk W sc N mp m x
  | none => false
 | .enum e, y, tg => match un1 y with
  | some (f, _, x, _) => isTup tg && biB W sc f "enumerate" && notStar x && e.chk W sc N mp m x
  | none => false
noncomputable def IC.chk (W : Wd) (sc : Scope) (N : List Str) (mp : List Nat) (m : Nat) : IC → List Expr → Bool
 | .yes, [] => true
 | .one e, [x] => e.chk W sc N mp m x
 | _, _ => false
noncomputable def IO.chk (W : Wd) (sc : Scope) (N : List Str) (mp : List Nat) (m : Nat) : IO → Expr → Bool
 | .dat e, x => e.chk W sc N mp m x
 | .own n, x => n.chk W sc N mp m x
 | .call f n a, e => match unN e with
  | some (g, _, xs, _) => decide (f = g) && gloB sc f && W.fl.contains (f, n) && !(f == ("__debug__" : Str)) && xs.all notStar && a.chk W sc N mp m xs
  | none => false
 | .move s i, e => okO (unName e) fun x => nmB sc N mp s i x.1
noncomputable def IJ.chk (W : Wd) (sc : Scope) (N : List Str) (mp : List Nat) (m : Nat) : IJ → List Expr → Bool
 | .nil, [] => true
 | _, _ => false
end
end L3
set_option maxHeartbeats 4000000
namespace L3
open PySem PySem.Spec PyProof.Rows L2
variable [Cs]
structure XSc (X : Cx) (sc : Scope) (N : List Str) : Prop where
 hN : X.N = N
 vis : ∀ x, visB sc x = true → Vis X.env.scope x
 loc : ∀ x, sc.names.lookup x = some .local → X.env.scope.names.lookup x = some .local
 cel : ∀ x, sc.names.lookup x = some .cell → X.env.scope.names.lookup x = some .cell ∧ X.fn x = true
 fre : ∀ x, sc.names.lookup x = some .free → X.env.scope.names.lookup x = some .cell ∨ X.env.scope.names.lookup x = some .free
 glo : ∀ x, gloB sc x = true → Gl X x
structure XmK (K : PySem.W.Frag) (mg : Str → Option Value) (W : Wd) : Prop where
 cl : ∀ c, W.xm.contains c = true → mg c = some (.ref (Cs.adr c)) ∧ XcK K (Cs.adr c)
 ts : ∀ c b, W.xt.contains (c, b) = true → IxK K mg c W.xm b
structure XW (X : Cx) (XP : XPT) (cf : CF) (W : Wd) (k : Nat) : Prop where
 bi : ∀ x, W.bi.contains x = true → X.mg x = none
 gi : ∀ x i, W.gi.contains (x, i) = true → ∃ t, X.mg x = some (.int i t)
 gs : ∀ x i, W.gs.contains (x, i) = true → ∃ t, X.mg x = some (.str i t)
 fn : ∀ x n, W.fl.contains (x, n) = true → Kn X.prog X.w X.K X.mg X.base (CX1 X.prog X.w) x k (spX X.mg n (cf x)) ∧ Ran n (cf x)
 rm : Room k X.A
 hk : 1 ≤ k
 calm : X.calm = true
 ex : ∀ x, W.ex.contains x = true → ∃ C, X.mg x = some (.ref C) ∧ PySem.W.excIn X.K C bmV "ValueError.__new__" = true
 mr : ∀ x C y C2, W.ex.contains x = true → X.mg x = some (.ref C) → W.ex.contains y = true → X.mg y = some (.ref C2) → (mroIn X.K C).contains (.ref C2) = decide (x = y)
 gd : ∀ x kf, W.gd.contains (x, kf) = true → GD X.w X.K X.mg x kf
 fk : ∀ c f, W.fk.contains (c, f) = true → FldK X c f
 mc : ∀ c q n, W.mc.contains (c, q, n) = true → X.mg c = some (.ref (Cs.adr c)) ∧ (∃ j, j + 1 ≤ k ∧ KnI X.prog X.w X.K X.mg X.base (CX1 X.prog X.w) (Cs.adr c) j (spX X.mg n (cf q))) ∧ Ran n (cf q)
 ml : ∀ c m q n, W.ml.contains (c, m, q, n) = true → KnM X.prog X.w X.K X.mg X.base (CX1 X.prog X.w) (Cs.adr c) m k (spX X.mg n (cf q)) ∧ Ran n (cf q)
 px : PxOk X XP
 sk : Sk X
 br : ∀ c a, W.br.contains (c, a) = true → ∃ C f A, KnB X.prog X.w X.K X.mg X.base c a k C f A
 xm : XmK X.K X.mg W
theorem star_of {e : Expr} {es : List Expr} {env : Env} (h : notStar e = true) : starEach (e :: es) env = (false, eval e env) :: starEach es env := by
 cases e <;> first | rfl | (simp [notStar] at h)
theorem star_all {es : List Expr} {env : Env} : es.all notStar = true → (starEach es env).any (·.1) = false := by
 induction es with
 | nil => intro; rfl
 | cons e es ih =>
  intro h
  rw [List.all_cons, Bool.and_eq_true] at h
  rw [star_of h.1, List.any_cons, ih h.2]; rfl
theorem backTo_any {pos : Pos} : ∀ {l : List (Bool × Sem Value)}, l.any (·.1) = false → (backTo pos l).any (·.1) = false
 | [], _ => rfl
 | (b, t) :: r, h => by
  rw [List.any_cons, Bool.or_eq_false_iff] at h
  show ((b, _) :: backTo pos r).any (·.1) = false
  rw [List.any_cons, backTo_any h.2]
  have hb : b = false := h.1
  rw [hb]; rfl
theorem plainIx_of {e : Expr} (h : notSlice e = true) : PlainIx e := fun o i => by
 cases e <;> first | rfl | (simp [notSlice] at h)
theorem folded_of {e : Expr} {env : Env} (h : notSet e = true) (x : Value) : foldedSetIterable e env x = pure x := by
 cases e <;> first | rfl | (simp [notSet] at h)
theorem marks_of {e : Expr} (op : CmpOp) (h : notSet e = true) : behindInMarks op e = false := by
 cases e <;> first | rfl | (simp [notSet] at h)
theorem strne {x y : Str} (h : (!(x == y)) = true) : (x == y) = false := by simpa using h
section
variable {X : Cx} {XP : XPT} {cf : CF} {W : Wd} {k : Nat} {sc : Scope} {N : List Str} {mp : List Nat} {m : Nat}
theorem nm_of {s i : Nat} {x : Str} (S : XSc X sc N) (h : nmB sc N mp s i x = true) : NmK X mp s i x := by
 unfold nmB at h
 simp only [Bool.and_eq_true, decide_eq_true_eq] at h
 obtain ⟨⟨⟨⟨h1, h2⟩, h3⟩, h4⟩, h5⟩ := h
 exact ⟨by rw [S.hN]; exact h1, S.vis x h2, h3, strne h4, strne h5⟩
theorem bi_of {x y : Str} {v : Value} (S : XSc X sc N) (T : XW X XP cf W k) (h : biB W sc x y = true) (hb : bootBuiltins y = some v) (hn : y ≠ "__name__") (hd : (y == ("__debug__" : Str)) = false) : BiK X x v := by
 unfold biB at h
 simp only [Bool.and_eq_true, decide_eq_true_eq] at h
 obtain ⟨⟨h1, h2⟩, h3⟩ := h
 subst h1
 exact ⟨S.glo x h2, T.bi x h3, hb, hn, hd⟩
theorem lookup_map2 {f : Str → NameKind → NameKind} : ∀ {names : List (Str × NameKind)} {x : Str}, (names.map fun (n, k) => (n, f n k)).lookup x = (names.lookup x).map (f x)
 | [], _ => rfl
 | (n, k) :: r, x => by
  rw [List.map_cons]
  cases hx : x == n with
  | true => rw [List.lookup_cons, List.lookup_cons, hx]; rw [eq_of_beq hx]; rfl
  | false => rw [List.lookup_cons, List.lookup_cons, hx]; exact lookup_map2
theorem relabel_look {scope : Scope} {env : Env} {x : Str} : (relabel scope env).names.lookup x = (scope.names.lookup x).map fun k => if (k == .free && env.scope.kind == ScopeKind.function && env.kindOf x == some NameKind.cell) then .cell else k := by
 unfold relabel
 have e : (scope.names.map fun (n, k) => if (k == NameKind.free && env.scope.kind == ScopeKind.function && env.kindOf n == some NameKind.cell) then (n, NameKind.cell) else (n, k)) =
   scope.names.map fun (n, k) => (n, (fun n k => if (k == NameKind.free && env.scope.kind == ScopeKind.function && env.kindOf n == some NameKind.cell) then NameKind.cell else k) n k) := by
  apply List.map_congr_left
  rintro ⟨n, k⟩ _
  dsimp only
  split <;> rfl
 rw [e]
 exact lookup_map2 (f := fun n k => if (k == NameKind.free && env.scope.kind == ScopeKind.function && env.kindOf n == some NameKind.cell) then NameKind.cell else k)
theorem XSc.comp {scope : Scope} {N' : List Str} {k : Nat} {ix : List Nat} {psc : Scope} (S : CSc psc N scope N' k ix) (cl : List (Str × Addr)) (C : Addr) (s2 : Shared) (H2 : Hp) (fp : List Addr) : XSc (X.comp N' scope cl C s2 H2 fp) scope N' where
 hN := rfl
 vis x h := by
  unfold visB at h
  simp only [Bool.or_eq_true, decide_eq_true_eq] at h
  show Vis (relabel scope X.env) x
  unfold Vis
  rw [relabel_look]
  rcases h with (h | h) | h
  ·rw [h]; exact .inl rfl
  ·rw [h]; exact .inr (.inl rfl)
  ·rw [h]
   simp only [Option.map_some]
   split
   ·exact .inr (.inl rfl)
   ·exact .inr (.inr rfl)
 loc x h := by
  show (relabel scope X.env).names.lookup x = _
  rw [relabel_look, h]; rfl
 cel x h := by
  refine ⟨?_, decide_eq_true h⟩
  show (relabel scope X.env).names.lookup x = _
  rw [relabel_look, h]; rfl
 fre x h := by
  show (relabel scope X.env).names.lookup x = _ ∨ (relabel scope X.env).names.lookup x = _
  rw [relabel_look, h]
  simp only [Option.map_some]
  split
  ·exact .inl rfl
  ·exact .inr rfl
 glo x h := by
  unfold gloB at h
  simp only [decide_eq_true_eq] at h
  show (relabel scope X.env).names.lookup x = _
  rw [relabel_look, h]; rfl
theorem XW.comp (T : XW X XP cf W k) {N' : List Str} {scope : Scope} {σ : St} {cl : List (Str × Addr)} {C : Addr} {s2 : Shared} {H2 : Hp} {fp : List Addr} (c : Cat X σ C s2 H2 fp) : XW (X.comp N' scope cl C s2 H2 fp) (XPc XP σ) cf W k := ⟨T.bi, T.gi, T.gs, T.fn, T.rm, T.hk, T.calm, T.ex, T.mr, T.gd, fun c f h => ⟨(T.fk c f h).cl, (T.fk c f h).no⟩, T.mc, T.ml, px_comp T.px T.sk c, T.sk, T.br, T.xm⟩
theorem csc_of {scope : Scope} {N' : List Str} {k : Nat} {ix : List Nat} (S : XSc X sc N) (h : CSc sc N scope N' k ix) : CSc X.env.scope X.N scope N' k ix :=
 ⟨h.kind, h.cel, h.loc, fun y hy e => by
  rcases h.fre y hy e with z | z
  ·exact .inl (S.cel _ z).1
  ·exact S.fre _ z, h.len, h.nd, fun j i e => by
  rw [S.hN]; exact h.cap j i e⟩
theorem Room.at1 (T : XW X XP cf W k) : Room 1 X.A := T.rm.mono T.hk
theorem Room.atk (T : XW X XP cf W k) : Room k X.A := T.rm
theorem assign_len {es : List Expr} {env : Env} : (assignEach es env).length = es.length := by
 induction es with
 | nil => rfl
 | cons e es ih => cases e <;> simp [assignEach, ih]
theorem assign_star {e : Expr} {es : List Expr} {env : Env} (h : notStar e = true) : assignEach (e :: es) env = (false, assign e env) :: assignEach es env := by
 cases e <;> first | rfl | (simp [notStar] at h)
mutual
theorem sound_T {kp : Nat → Prop} {lo : Nat} (S : XSc X sc N) (hN : N.Nodup) (hn : mp.Nodup) (hc : X.calm = true) (hk : ∀ i, lo ≤ i → ¬ kp i) : ∀ (t : IT) (e : Expr), chkT sc N mp lo t e = true → SG X mp kp e t
  | .nm s i, e, h => by
   cases e with
   | Name x p =>
    simp only [chkT, Bool.and_eq_true, Bool.or_eq_true, decide_eq_true_eq] at h
    obtain ⟨⟨⟨h1, h2⟩, h3⟩, h4⟩ := h
    refine sg_name (by rw [S.hN]; exact hN) hn (by rw [S.hN]; exact h1) h2 (hk i h3) ?_ ?_
    · rcases h4 with h4 | h4
      · exact .inl (S.loc x h4)
      · exact .inr (S.cel x h4).1
    · rcases h4 with h4 | h4
      · exact .inr (S.loc x h4)
      · exact .inl (S.cel x h4).2
   | _ => simp [chkT] at h
  | .tp ts, e, h => by
   cases e with
   | Tuple es n p =>
    simp only [chkT] at h
    obtain ⟨h1, h2, h3⟩ := sound_Ts S hN hn hc hk ts es h
    exact sg_tup hc h1 (by rw [assign_len]; exact h2) h3
   | _ => simp [chkT] at h
theorem sound_Ts {kp : Nat → Prop} {lo : Nat} (S : XSc X sc N) (hN : N.Nodup) (hn : mp.Nodup) (hc : X.calm = true) (hk : ∀ i, lo ≤ i → ¬ kp i) : ∀ (ts : ITs) (es : List Expr), chkTs sc N mp lo ts es = true → SGs X mp kp es ts ∧ ts.len = es.length ∧ (assignEach es X.env).findIdx? (·.1) = none
  | .nil, [], h => ⟨sgs_nil, rfl, rfl⟩
  | .cons t ts, e :: es, h => by
    simp only [chkTs, Bool.and_eq_true] at h
    obtain ⟨⟨h1, h2⟩, h3⟩ := h
    have ih1 := sound_T S hN hn hc hk t e h2
    obtain ⟨i1, i2, i3⟩ := sound_Ts S hN hn hc hk ts es h3
    refine ⟨sgs_cons ih1 i1 (by rw [assign_star h1]; rfl), by rw [ITs.len, i2]; rfl, ?_⟩
    rw [assign_star h1, List.findIdx?_cons]
    simp [i3]
  | .nil, _ :: _, h => by simp [chkTs] at h
  | .cons .., [], h => by simp [chkTs] at h
end
noncomputable def CompOk (X : Cx) (XP : XPT) (mp : List Nat) (e : Expr) (f : EM (List PyData)) : Prop := ∀ elt gens scope pos, e = .ListComp elt gens scope pos → ∃ tg iter ifs N' k ix, gens = [⟨tg, iter, ifs, 0⟩] ∧ CSc X.env.scope X.N scope N' k ix ∧ (∀ x, foldedSetIterable iter X.env x = pure x) ∧
 SNt XP mp (tComp k ix (wpI X tg iter) (gU X N' scope tg) (fU X N' scope ifs) (eU X N' scope elt)) f
theorem noComp {X : Cx} {XP : XPT} {mp : List Nat} {e : Expr} {f : EM (List PyData)} (h : ∀ elt gens scope pos, e ≠ .ListComp elt gens scope pos) : CompOk X XP mp e f := fun a b c d q => absurd q (h a b c d)
theorem plainT_of {e : Expr} {env : Env} (h : plainT e = true) (whole : Sem Value) : isTrue e env whole = (do let v ← whole; standAt e.pos; holding [v] (truthy v)) := by
 cases e <;> first | rfl | (simp [plainT] at h; done) | skip
 rename_i op x p
 cases op <;> first | rfl | (simp [plainT] at h)
theorem both {X : Cx} {XP : XPT} {mp : List Nat} {e : Expr} {fa : EM FV} (h : SE X XP mp e fa) (hp : plainT e = true) : SE X XP mp e fa ∧ ST X XP mp e (fTru fa) := ⟨h, st_truth h (plainT_of hp)⟩
theorem sw_of_st {X : Cx} {XP : XPT} {mp : List Nat} {op : BoolOp} {vs : List Expr} {p : Pos} {t : EM Bool} (h : ST X XP mp (.BoolOp op vs p) t) : SW X XP mp (.BoolOp op vs p) t := fun M0 F Γ ν σ H Q rs hs hp whole pins s I => h M0 F Γ ν σ H Q rs hs hp pins s I
theorem boot_rangeW : bootBuiltins "range" = some (.type "range") := by decide +kernel
theorem boot_lenW : bootBuiltins "len" = some (.builtin "len") := by decide +kernel
theorem boot_strW : bootBuiltins "str" = some (.type "str") := by decide +kernel
theorem boot_isiW : bootBuiltins "isinstance" = some (.builtin "isinstance") := by decide +kernel
noncomputable abbrev QE (cf : CF) (W : Wd) (a : IE) : Prop := ∀ (X : Cx) (XP : XPT) (k : Nat) (sc : Scope) (N : List Str) (mp : List Nat) (m : Nat), XSc X sc N → XW X XP cf W k → ∀ (e : Expr), a.chk W sc N mp m e = true → SE X XP mp e (a.ev cf).1 ∧ ST X XP mp e (a.ev cf).2
noncomputable abbrev QL (cf : CF) (W : Wd) (a : IL) : Prop := ∀ (X : Cx) (XP : XPT) (k : Nat) (sc : Scope) (N : List Str) (mp : List Nat) (m : Nat), XSc X sc N → XW X XP cf W k → ∀ (e : List Expr), a.chk W sc N mp m e = true → SL X XP mp e (a.ev cf)
noncomputable abbrev QA (cf : CF) (W : Wd) (a : IA) : Prop := ∀ (X : Cx) (XP : XPT) (k : Nat) (sc : Scope) (N : List Str) (mp : List Nat) (m : Nat), XSc X sc N → XW X XP cf W k → ∀ (e : List Expr), a.chk W sc N mp m e = true → SA X XP mp e (a.ev cf)
noncomputable abbrev QN (cf : CF) (W : Wd) (a : IN) : Prop := ∀ (X : Cx) (XP : XPT) (k : Nat) (sc : Scope) (N : List Str) (mp : List Nat) (m : Nat), XSc X sc N → XW X XP cf W k → ∀ (e : Expr), a.chk W sc N mp m e = true → SN X XP mp e (a.ev cf) ∧ (a.plain = true → CompOk X XP mp e (a.ev cf))
noncomputable abbrev QP (cf : CF) (W : Wd) (a : IP) : Prop := ∀ (X : Cx) (XP : XPT) (k : Nat) (sc : Scope) (N : List Str) (mp : List Nat) (m : Nat), XSc X sc N → XW X XP cf W k → ∀ (e : Option Expr), a.chk W sc N mp m e = true → SOp X XP mp e (a.ev cf)
noncomputable abbrev QI (cf : CF) (W : Wd) (a : II) : Prop := ∀ (X : Cx) (XP : XPT) (k : Nat) (sc : Scope) (N : List Str) (mp : List Nat) (m : Nat), XSc X sc N → XW X XP cf W k → ∀ (tg e : Expr), a.chk W sc N mp m e tg = true → SI X XP mp tg e (a.ev cf)
noncomputable abbrev QC (cf : CF) (W : Wd) (a : IC) : Prop := ∀ (X : Cx) (XP : XPT) (k : Nat) (sc : Scope) (N : List Str) (mp : List Nat) (m : Nat), XSc X sc N → XW X XP cf W k → ∀ (e : List Expr), a.chk W sc N mp m e = true → SF X XP mp e (a.ev cf)
noncomputable abbrev QO (cf : CF) (W : Wd) (a : IO) : Prop := ∀ (X : Cx) (XP : XPT) (k : Nat) (sc : Scope) (N : List Str) (mp : List Nat) (m : Nat), XSc X sc N → XW X XP cf W k → ∀ (e : Expr), a.chk W sc N mp m e = true → SO X XP mp e (a.ev cf)
noncomputable abbrev QJ (cf : CF) (W : Wd) (a : IJ) : Prop := ∀ (X : Cx) (XP : XPT) (k : Nat) (sc : Scope) (N : List Str) (mp : List Nat) (m : Nat), XSc X sc N → XW X XP cf W k → ∀ (e : List Expr), a.chk W sc N mp m e = true → SJ X XP mp e (a.ev cf)
theorem cE_var {cf : CF} {W : Wd} (s i : Nat) : QE cf W (.var s i) := by
 intro X XP k sc N mp m S T e g0
 obtain ⟨⟨x, p⟩, eu, h⟩ := okO_inv g0
 clear g0
 cases unName_inv eu
 have n := nm_of S h
 exact both (se_var n.hN n.hv n.hm n.hd n.hcd) rfl
theorem cE_cint {cf : CF} {W : Wd} (i : Int) : QE cf W (.cint i) := by
 intro X XP k sc N mp m S T e g0
 obtain ⟨⟨c, j, p⟩, eu, h⟩ := okO_inv g0
 clear g0
 cases unCon_inv eu
 obtain ⟨z, ez, h⟩ := okO_inv h
 cases cInt_inv ez
 cases of_decide_eq_true h
 exact both se_int rfl
theorem cE_cstr {cf : CF} {W : Wd} (i : Str) : QE cf W (.cstr i) := by
 intro X XP k sc N mp m S T e g0
 obtain ⟨⟨c, j, p⟩, eu, h⟩ := okO_inv g0
 clear g0
 cases unCon_inv eu
 obtain ⟨z, ez, h⟩ := okO_inv h
 cases cStr_inv ez
 cases of_decide_eq_true h
 exact both se_str rfl
theorem cE_cbool {cf : CF} {W : Wd} (i : Bool) : QE cf W (.cbool i) := by
 intro X XP k sc N mp m S T e g0
 obtain ⟨⟨c, j, p⟩, eu, h⟩ := okO_inv g0
 clear g0
 cases unCon_inv eu
 obtain ⟨z, ez, h⟩ := okO_inv h
 cases cBool_inv ez
 cases of_decide_eq_true h
 exact both se_bool rfl
theorem cE_tup {cf : CF} {W : Wd} (a : IL) (ih_a : QL cf W a) : QE cf W (.tup a) := by
 intro X XP k sc N mp m S T e g0
 obtain ⟨⟨es, j, p⟩, eu, h⟩ := okO_inv g0
 clear g0
 cases unTup_inv eu
 exact both (se_tup (ih_a _ _ _ _ _ _ _ S T es h)) rfl
theorem cE_new {cf : CF} {W : Wd} (n : IN) (ih_n : QN cf W n) : QE cf W (.new n) := by
 intro X XP k sc N mp m S T e h
 replace h := Bool.and_eq_true_iff.mp h
 try simp only [Bool.and_eq_true] at h
 exact both (SN.se (ih_n _ _ _ _ _ _ _ S T e h.2).1) h.1
theorem cE_bin {cf : CF} {W : Wd} (op : Operator) (a b : IE) (ih_a : QE cf W a) (ih_b : QE cf W b) : QE cf W (.bin op a b) := by
 intro X XP k sc N mp m S T e g0
 obtain ⟨⟨x, op', y, p⟩, eu, h⟩ := okO_inv g0
 clear g0
 cases unBin_inv eu
 simp only [Bool.and_eq_true, decide_eq_true_eq] at h
 obtain ⟨⟨h1, h2⟩, h3⟩ := h
 subst h1
 exact both (se_bin (bin_ok op) (ih_a _ _ _ _ _ _ _ S T x h2).1 (ih_b _ _ _ _ _ _ _ S T y h3).1) rfl
theorem cE_cmp {cf : CF} {W : Wd} (op : CmpOp) (a b : IE) (ih_a : QE cf W a) (ih_b : QE cf W b) : QE cf W (.cmp op a b) := by
 intro X XP k sc N mp m S T e g0
 obtain ⟨⟨x, ops, ys, p⟩, eu, g1⟩ := okO_inv g0
 clear g0
 cases unCmp_inv eu
 obtain ⟨op', eo, h⟩ := okO_inv g1
 clear g1
 cases one1_inv eo
 obtain ⟨y, ey, h⟩ := okO_inv h
 cases one1_inv ey
 simp only [Bool.and_eq_true, decide_eq_true_eq] at h
 obtain ⟨⟨⟨h1, h2⟩, h3⟩, h4⟩ := h
 subst h1
 have ha := (ih_a _ XP _ _ _ _ _ S T x h3).1
 have hb := (ih_b _ XP _ _ _ _ _ S T y h4).1
 exact ⟨se_cmp (cmp_ok (Room.at1 T) op) ha hb (marks_of op h2), st_cmp (cmp_ok (Room.at1 T) op) ha hb (marks_of op h2)⟩
theorem cE_not {cf : CF} {W : Wd} (a : IE) (ih_a : QE cf W a) : QE cf W (.not a) := by
 intro X XP k sc N mp m S T e g0
 obtain ⟨⟨op, x, p⟩, eu, h⟩ := okO_inv g0
 clear g0
 cases unUn_inv eu
 simp only [Bool.and_eq_true, decide_eq_true_eq] at h
 cases h.1
 have hh := ih_a _ XP _ _ _ _ _ S T x h.2
 exact ⟨se_not hh.1, st_not hh.2⟩
theorem cE_and {cf : CF} {W : Wd} (a b : IE) (ih_a : QE cf W a) (ih_b : QE cf W b) : QE cf W (.and a b) := by
 intro X XP k sc N mp m S T e g0
 obtain ⟨⟨x, z⟩, eu, h⟩ := okO_inv g0
 clear g0
 rw [Bool.and_eq_true] at h
 have ha := ih_a _ XP _ _ _ _ _ S T x h.1
 have hb := ih_b _ XP _ _ _ _ _ S T z h.2
 rcases unAnd_inv eu with ⟨p, rfl⟩ | ⟨y, w, r, p, rfl, rfl⟩
 ·exact ⟨se_and ha.1 (se_one hb.1), (sw_and ha.2 (sw_one1 hb.2)).st⟩
 ·exact ⟨se_and ha.1 hb.1, (sw_and ha.2 (sw_of_st hb.2)).st⟩
theorem cE_or {cf : CF} {W : Wd} (a b : IE) (ih_a : QE cf W a) (ih_b : QE cf W b) : QE cf W (.or a b) := by
 intro X XP k sc N mp m S T e g0
 obtain ⟨⟨x, z⟩, eu, h⟩ := okO_inv g0
 clear g0
 rw [Bool.and_eq_true] at h
 have ha := ih_a _ XP _ _ _ _ _ S T x h.1
 have hb := ih_b _ XP _ _ _ _ _ S T z h.2
 rcases unAnd_inv eu with ⟨p, rfl⟩ | ⟨y, w, r, p, rfl, rfl⟩
 ·exact ⟨se_or ha.1 (se_one hb.1), (sw_or ha.2 (sw_one2 hb.2)).st⟩
 ·exact ⟨se_or ha.1 hb.1, (sw_or ha.2 (sw_of_st hb.2)).st⟩
theorem cE_ite {cf : CF} {W : Wd} (c a b : IE) (ih_c : QE cf W c) (ih_a : QE cf W a) (ih_b : QE cf W b) : QE cf W (.ite c a b) := by
 intro X XP k sc N mp m S T e g0
 obtain ⟨⟨z, x, y, p⟩, eu, h⟩ := okO_inv g0
 clear g0
 cases unIfE_inv eu
 simp only [Bool.and_eq_true] at h
 obtain ⟨⟨h1, h2⟩, h3⟩ := h
 exact ⟨se_if (ih_c _ _ _ _ _ _ _ S T z h1).2 (ih_a _ _ _ _ _ _ _ S T x h2).1 (ih_b _ _ _ _ _ _ _ S T y h3).1, fun M0 F Γ ν σ H Q rs hs hp => hp.elim⟩
theorem cE_ix {cf : CF} {W : Wd} (a b : IE) (ih_a : QE cf W a) (ih_b : QE cf W b) : QE cf W (.ix a b) := by
 intro X XP k sc N mp m S T e g0
 obtain ⟨⟨x, y, p⟩, eu, h⟩ := okO_inv g0
 clear g0
 cases unSub_inv eu
 simp only [Bool.and_eq_true] at h
 obtain ⟨⟨h1, h2⟩, h3⟩ := h
 exact both (se_ix (ih_a _ _ _ _ _ _ _ S T x h2).1 (ih_b _ _ _ _ _ _ _ S T y h3).1 (plainIx_of h1)) rfl
theorem cE_len {cf : CF} {W : Wd} (a : IE) (ih_a : QE cf W a) : QE cf W (.len a) := by
 intro X XP k sc N mp m S T e h
 conv at h => lhs; whnf
 split at h
 ·rename_i f p x q eu
  cases un1_inv eu
  simp only [Bool.and_eq_true] at h
  obtain ⟨⟨h1, h2⟩, h3⟩ := h
  exact both (se_b1 cs_len (bi_of S T h1 boot_lenW (by decide) (by decide)) (ih_a _ _ _ _ _ _ _ S T x h3).1 (star_of h2)) rfl
 ·cases h
theorem cE_isi {cf : CF} {W : Wd} (TT : String) (a : IE) (ih_a : QE cf W a) : QE cf W (.isi TT a) := by
 intro X XP k sc N mp m S T e h
 conv at h => lhs; whnf
 split at h
 ·rename_i f p x y q eu
  cases un2_inv eu
  simp only [Bool.and_eq_true, Bool.or_eq_true, beq_iff_eq] at h
  obtain ⟨⟨⟨⟨h1, h2⟩, h3⟩, h4⟩, h5⟩ := h
  obtain ⟨⟨y, p2⟩, ey, h4⟩ := okO_inv h4
  cases unName_inv ey
  have B := bi_of S T h1 boot_isiW (by decide) (by decide)
  have ha := (ih_a _ XP _ _ _ _ _ S T x h5).1
  rcases h3 with (((rfl | rfl) | rfl) | rfl) | rfl
  ·exact both (se_isi B (bi_of S T h4 boot_intW (by decide) (by decide)) ha (star_of h2)) rfl
  ·exact both (se_isi B (bi_of S T h4 boot_boolW (by decide) (by decide)) ha (star_of h2)) rfl
  ·exact both (se_isi B (bi_of S T h4 boot_listW (by decide) (by decide)) ha (star_of h2)) rfl
  ·exact both (se_isi B (bi_of S T h4 boot_tupleW (by decide) (by decide)) ha (star_of h2)) rfl
  ·exact both (se_isi B (bi_of S T h4 boot_strW (by decide) (by decide)) ha (star_of h2)) rfl
 ·cases h
theorem cE_call {cf : CF} {W : Wd} (o : IO) (ih_o : QO cf W o) : QE cf W (.call o) := by
 intro X XP k sc N mp m S T e h
 replace h := Bool.and_eq_true_iff.mp h
 try simp only [Bool.and_eq_true] at h
 exact both (ih_o _ _ _ _ _ _ _ S T e h.2).se h.1
theorem cN_lst {cf : CF} {W : Wd} (a : IL) (ih_a : QL cf W a) : QN cf W (.lst a) := by
 intro X XP k sc N mp m S T e g0
 obtain ⟨⟨es, p⟩, eu, h⟩ := okO_inv g0
 clear g0
 cases unLst_inv eu
 exact ⟨sn_lst (ih_a _ _ _ _ _ _ _ S T es h), fun _ => noComp (fun _ _ _ _ q => nomatch q)⟩
theorem cN_cat {cf : CF} {W : Wd} (a b : IE) (ih_a : QE cf W a) (ih_b : QE cf W b) : QN cf W (.cat a b) := by
 intro X XP k sc N mp m S T e g0
 obtain ⟨⟨x, op, y, p⟩, eu, h⟩ := okO_inv g0
 clear g0
 cases unBin_inv eu
 simp only [Bool.and_eq_true, decide_eq_true_eq] at h
 obtain ⟨⟨h0, h1⟩, h2⟩ := h
 cases h0
 exact ⟨sn_cat (ih_a _ _ _ _ _ _ _ S T x h1).1 (ih_b _ _ _ _ _ _ _ S T y h2).1, fun _ => noComp (fun _ _ _ _ q => nomatch q)⟩
theorem cN_list {cf : CF} {W : Wd} (a : IE) (ih_a : QE cf W a) : QN cf W (.list a) := by
 intro X XP k sc N mp m S T e h
 conv at h => lhs; whnf
 split at h
 ·rename_i f p x q eu
  cases un1_inv eu
  simp only [Bool.and_eq_true] at h
  obtain ⟨⟨h1, h2⟩, h3⟩ := h
  exact ⟨sn_list (bi_of S T h1 boot_listW (by decide) (by decide)) (ih_a _ _ _ _ _ _ _ S T x h3).1 (star_of h2), fun _ => noComp (fun _ _ _ _ q => nomatch q)⟩
 ·cases h
theorem cN_comp {cf : CF} {W : Wd} (n kk : Nat) (ix : List Nat) (N' : List Str) (t : IT) (src : II) (c : IC) (el : IE) (ih_src : QI cf W src) (ih_c : QC cf W c) (ih_el : QE cf W el) : QN cf W (.comp n kk ix N' t src c el) := by
 intro X XP k sc N mp m S T e h
 conv at h => lhs; whnf
 split at h
 ·rename_i elt tg iter ifs scope p eu
  cases unLC_inv eu
  simp only [Bool.and_eq_true, decide_eq_true_eq] at h
  obtain ⟨⟨⟨⟨⟨⟨⟨⟨h1, h3⟩, h4⟩, h5⟩, h6⟩, h7⟩, h8⟩, h9⟩, h10⟩ := h
  subst h1
  have C0 : CSc sc N scope N' kk ix := CSc.of h3
  have C1 := csc_of S C0
  have hm : ∀ j i : Nat, ix[j]? = some i → ∃ m, mp[i]? = some m ∧ m < n := fun j i e => by
   have := List.all_eq_true.mp h5 i (List.mem_of_getElem? e)
   split at this
   ·rename_i q eq; exact ⟨q, eq, by simpa using this⟩
   ·cases this
  have hi := ih_src _ XP _ _ _ _ _ S T tg iter h7
  have hg : ∀ σ cl C s2 H2 fp, Cat X σ C s2 H2 fp → SG (X.comp N' scope cl C s2 H2 fp) (mpC mp n kk ix) (· < n) tg t := fun σ cl C s2 H2 fp cat => sound_T (XSc.comp C0 cl C s2 H2 fp) C0.nd h4 T.calm (fun i h => by omega) t tg h8
  have hc : ∀ σ cl C s2 H2 fp, Cat X σ C s2 H2 fp → SF (X.comp N' scope cl C s2 H2 fp) (XPc XP σ) (mpC mp n kk ix) ifs (c.ev cf) := fun σ cl C s2 H2 fp cat => ih_c _ _ _ _ _ _ _ (XSc.comp C0 cl C s2 H2 fp) (T.comp cat) ifs h9
  have he : ∀ σ cl C s2 H2 fp, Cat X σ C s2 H2 fp → SE (X.comp N' scope cl C s2 H2 fp) (XPc XP σ) (mpC mp n kk ix) elt (el.ev cf).1 := fun σ cl C s2 H2 fp cat => (ih_el _ _ _ _ _ _ _ (XSc.comp C0 cl C s2 H2 fp) (T.comp cat) elt h10).1
  refine ⟨sn_comp T.calm C1 hm hi hg hc he (folded_of h6), fun _ a b c' d q => ?_⟩
  cases q
  exact ⟨tg, iter, ifs, N', kk, ix, rfl, C1, folded_of h6, snt_comp C1 hm hi hg hc he⟩
 ·cases h
theorem cI_list {cf : CF} {W : Wd} (a : IE) (ih_a : QE cf W a) : QI cf W (.list a) := by
 intro X XP k sc N mp m S T tg e h
 exact si_list (ih_a _ _ _ _ _ _ _ S T e h).1
theorem cI_tup {cf : CF} {W : Wd} (a : IE) (ih_a : QE cf W a) : QI cf W (.tup a) := by
 intro X XP k sc N mp m S T tg e h
 exact si_tup (ih_a _ _ _ _ _ _ _ S T e h).1
theorem cI_range {cf : CF} {W : Wd} (a : IE) (ih_a : QE cf W a) : QI cf W (.range a) := by
 intro X XP k sc N mp m S T tg e h
 conv at h => lhs; whnf
 split at h
 ·rename_i f p x q eu
  cases un1_inv eu
  simp only [Bool.and_eq_true] at h
  obtain ⟨⟨h1, h2⟩, h3⟩ := h
  have ef : f = "range" := by
   unfold biB at h1
   simp only [Bool.and_eq_true, decide_eq_true_eq] at h1
   exact h1.1.1
  exact si_range (bi_of S T h1 boot_rangeW (by decide) (by decide)) ef (ih_a _ _ _ _ _ _ _ S T x h3).1 (star_of h2)
 ·cases h
theorem cI_enum {cf : CF} {W : Wd} (a : IE) (ih_a : QE cf W a) : QI cf W (.enum a) := by
 intro X XP k sc N mp m S T tg e h
 conv at h => lhs; whnf
 split at h
 ·rename_i f p x q eu
  cases un1_inv eu
  simp only [Bool.and_eq_true] at h
  obtain ⟨⟨⟨h0, h1⟩, h2⟩, h3⟩ := h
  have ef : f = "enumerate" := by
   unfold biB at h1
   simp only [Bool.and_eq_true, decide_eq_true_eq] at h1
   exact h1.1.1
  cases tg with
  | Tuple es x1 pt => exact si_enum (bi_of S T h1 L2.boot_enumW (by decide) (by decide)) ef (ih_a _ _ _ _ _ _ _ S T x h3).1 (star_of h2)
  | _ => simp [isTup] at h0
 ·cases h
theorem cO_dat {cf : CF} {W : Wd} (a : IE) (ih_a : QE cf W a) : QO cf W (.dat a) := by
 intro X XP k sc N mp m S T e h
 exact (ih_a _ _ _ _ _ _ _ S T e h).1.so
theorem cO_own {cf : CF} {W : Wd} (n : IN) (ih_n : QN cf W n) : QO cf W (.own n) := by
 intro X XP k sc N mp m S T e h
 exact (ih_n _ _ _ _ _ _ _ S T e h).1.so
theorem cO_call {cf : CF} {W : Wd} (g : Str) (n : Nat) (a : IA) (ih_a : QA cf W a) : QO cf W (.call g n a) := by
 intro X XP k sc N mp m S T e h
 conv at h => lhs; whnf
 split at h
 ·rename_i f p xs q eu
  cases unN_inv eu
  simp only [Bool.and_eq_true, decide_eq_true_eq] at h
  obtain ⟨⟨⟨⟨⟨h1, h2⟩, h3⟩, h4⟩, h5⟩, h6⟩ := h
  subst h1
  obtain ⟨kn, hrun⟩ := T.fn _ _ h3
  cases xs with
  | nil =>
   cases a with
   | nil => exact so_call0 T.px kn (Room.atk T) (S.glo _ h2) hrun (strne h4)
   | cons _ _ => cases h6
   | io _ _ _ => cases h6
   | tmp _ => cases h6
  | cons x xs =>
   rw [List.all_cons, Bool.and_eq_true] at h5
   exact so_call T.px kn (Room.atk T) (S.glo _ h2) hrun (ih_a _ _ _ _ _ _ _ S T (x :: xs) h6) (strne h4) (star_of h5.1) (backTo_any (star_all h5.2))
 ·cases h
theorem cO_move {cf : CF} {W : Wd} (s i : Nat) : QO cf W (.move s i) := by
 intro X XP k sc N mp m S T e g0
 obtain ⟨⟨x, p⟩, eu, h⟩ := okO_inv g0
 clear g0
 cases unName_inv eu
 have n := nm_of S h
 exact so_move n.hN n.hv n.hm n.hd n.hcd
theorem cL_nil {cf : CF} {W : Wd} : QL cf W .nil := by
 intro X XP k sc N mp m S T es h
 cases es with
 | nil => exact sl_nil
 | cons _ _ => cases h
theorem cL_cons {cf : CF} {W : Wd} (e : IE) (a : IL) (ih_e : QE cf W e) (ih_a : QL cf W a) : QL cf W (.cons e a) := by
 intro X XP k sc N mp m S T es h
 cases es with
 | nil => cases h
 | cons x xs =>
  replace h := Bool.and_eq_true_iff.mp h
  try simp only [Bool.and_eq_true] at h
  obtain ⟨⟨h1, h2⟩, h3⟩ := h
  exact sl_cons (ih_e _ _ _ _ _ _ _ S T x h2).1 (ih_a _ _ _ _ _ _ _ S T xs h3) (star_of h1)
theorem cA_nil {cf : CF} {W : Wd} : QA cf W .nil := by
 intro X XP k sc N mp m S T es h
 cases es with
 | nil => exact sa_nil
 | cons _ _ => cases h
theorem cA_cons {cf : CF} {W : Wd} (e : IE) (a : IA) (ih_e : QE cf W e) (ih_a : QA cf W a) : QA cf W (.cons e a) := by
 intro X XP k sc N mp m S T es h
 cases es with
 | nil => cases h
 | cons x xs =>
  replace h := Bool.and_eq_true_iff.mp h
  try simp only [Bool.and_eq_true] at h
  obtain ⟨⟨h1, h2⟩, h3⟩ := h
  exact sa_cons (ih_e _ _ _ _ _ _ _ S T x h2).1 (ih_a _ _ _ _ _ _ _ S T xs h3) (star_of h1)
theorem cA_io {cf : CF} {W : Wd} (s i : Nat) (a : IA) (ih_a : QA cf W a) : QA cf W (.io s i a) := by
 intro X XP k sc N mp m S T es h
 cases es with
 | nil => cases h
 | cons e xs =>
  replace h := Bool.and_eq_true_iff.mp h
  try simp only [Bool.and_eq_true] at h
  obtain ⟨⟨x, p⟩, eu, h1⟩ := okO_inv h.1
  cases unName_inv eu
  have n := nm_of S h1
  exact sa_io n.hN n.hv n.hm n.hd n.hcd (ih_a _ _ _ _ _ _ _ S T xs h.2) rfl
theorem cA_tmp {cf : CF} {W : Wd} (n : IN) (ih_n : QN cf W n) : QA cf W (.tmp n) := by
 intro X XP k sc N mp m S T es h
 match es, h with
 | [], h => nomatch h
 | [x], h =>
  replace h := Bool.and_eq_true_iff.mp h
  try simp only [Bool.and_eq_true] at h
  exact sa_tmp (ih_n _ _ _ _ _ _ _ S T x h.2).1 (star_of h.1)
 | _ :: _ :: _, h => nomatch h
theorem cP_non {cf : CF} {W : Wd} : QP cf W .non := by
 intro X XP k sc N mp m S T e h
 cases e with
 | none => exact so_none
 | some _ => cases h
theorem cP_one {cf : CF} {W : Wd} (a : IE) (ih_a : QE cf W a) : QP cf W (.one a) := by
 intro X XP k sc N mp m S T e h
 cases e with
 | none => cases h
 | some x => exact so_some (ih_a _ _ _ _ _ _ _ S T x h).1
theorem cC_yes {cf : CF} {W : Wd} : QC cf W .yes := by
 intro X XP k sc N mp m S T es h
 cases es with
 | nil => exact sf_nil
 | cons _ _ => cases h
theorem cC_one {cf : CF} {W : Wd} (a : IE) (ih_a : QE cf W a) : QC cf W (.one a) := by
 intro X XP k sc N mp m S T es h
 match es, h with
 | [], h => nomatch h
 | [x], h => exact sf_one (ih_a _ _ _ _ _ _ _ S T x h).2
 | _ :: _ :: _, h => nomatch h
theorem cJ_nil {cf : CF} {W : Wd} : QJ cf W .nil := by
 intro X XP k sc N mp m S T e h
 cases e with
 | nil => exact sj_nil
 | cons _ _ => exact Bool.noConfusion (show false = true from h)
theorem st_no {X : Cx} {XP : XPT} {mp : List Nat} {e : Expr} : ST X XP mp e fNo := fun M0 F Γ ν σ H Q rs hs hp => hp.elim
theorem cE_mkx {cf : CF} {W : Wd} (c : Str) : QE cf W (.mkx c) := by
 intro X XP k sc N mp m S T e g0
 obtain ⟨⟨f, p, x, q⟩, eu, h⟩ := okO_inv g0
 clear g0
 cases un1_inv eu
 simp only [Bool.and_eq_true, decide_eq_true_eq] at h
 obtain ⟨⟨⟨⟨⟨h1, h2⟩, h3⟩, h4⟩, h5⟩, h6⟩ := h
 obtain ⟨⟨cc, j, p2⟩, ec, g6⟩ := okO_inv h6
 clear h6
 cases unCon_inv ec
 obtain ⟨z, ez, _⟩ := okO_inv g6
 cases cStr_inv ez
 subst h1
 obtain ⟨hm, B⟩ := T.xm.cl _ h4
 obtain ⟨C, hC, hx⟩ := T.ex _ h3
 rw [hm] at hC
 cases hC
 exact ⟨se_mkx ⟨S.glo _ h2, hm, hx, strne h5⟩ B, st_no⟩
theorem cE_mkb {cf : CF} {W : Wd} (c g : Str) (a : IE) (ih_a : QE cf W a) : QE cf W (.mkb c g a) := by
 intro X XP k sc N mp m S T e g0
 obtain ⟨⟨f, p, x, q⟩, eu, h⟩ := okO_inv g0
 clear g0
 cases un1_inv eu
 simp only [Bool.and_eq_true, decide_eq_true_eq] at h
 obtain ⟨⟨⟨⟨⟨⟨h1, h2⟩, h3⟩, h4⟩, h5⟩, h6⟩, h7⟩ := h
 subst h1
 obtain ⟨hm, B⟩ := T.xm.cl _ h4
 obtain ⟨C, fa, A, hB⟩ := T.br _ _ h3
 have hC := hB.adr
 rw [hm] at hC
 cases hC
 exact ⟨se_mkb hB T.rm (S.glo _ h2) (strne h5) (ih_a _ _ _ _ _ _ _ S T x h7).1 (star_of h6), st_no⟩
theorem cE_isx {cf : CF} {W : Wd} (c : Str) (ks : List Str) (b : Bool) (a : IE) (ih_a : QE cf W a) : QE cf W (.isx c ks b a) := by
 intro X XP k sc N mp m S T e g0
 obtain ⟨⟨f, p, x, y, q⟩, eu, h⟩ := okO_inv g0
 clear g0
 cases un2_inv eu
 simp only [Bool.and_eq_true, decide_eq_true_eq] at h
 obtain ⟨⟨⟨⟨⟨⟨⟨h1, h2⟩, h3⟩, h4⟩, h5⟩, h6⟩, h7⟩, h8⟩ := h
 obtain ⟨⟨z, p2⟩, ez, g7⟩ := okO_inv h7
 clear h7
 cases unName_inv ez
 have h7' : z = c := of_decide_eq_true g7
 subst h7' h3
 exact both (se_isx (bi_of S T h1 boot_isiW (by decide) (by decide)) (T.xm.ts _ _ h4) (S.glo _ h5) (strne h6) (ih_a _ _ _ _ _ _ _ S T x h8).1 (star_of h2)) rfl
theorem cE_atx {cf : CF} {W : Wd} (c g : Str) (a : IE) (ih_a : QE cf W a) : QE cf W (.atx c g a) := by
 intro X XP k sc N mp m S T e g0
 obtain ⟨⟨x, f, p⟩, eu, h⟩ := okO_inv g0
 clear g0
 cases unAtt_inv eu
 simp only [Bool.and_eq_true, decide_eq_true_eq] at h
 obtain ⟨⟨⟨⟨h1, h2⟩, h3⟩, h4⟩, h5⟩ := h
 subst h1
 obtain ⟨hm, _⟩ := T.xm.cl _ h3
 obtain ⟨C, fa, A, hB⟩ := T.br _ _ h2
 have hC := hB.adr
 rw [hm] at hC
 cases hC
 exact both (se_atx hB.bar (ih_a _ _ _ _ _ _ _ S T x h5).1 (base_of h4)) rfl
theorem snd_E (cf : CF) (W : Wd) (a : IE) : QE cf W a := IE.rec (motive_1 := QE cf W) (motive_2 := QL cf W) (motive_3 := QA cf W) (motive_4 := QN cf W) (motive_5 := QP cf W) (motive_6 := QI cf W) (motive_7 := QC cf W) (motive_8 := QO cf W) (motive_9 := QJ cf W) cE_var cE_cint cE_cstr cE_cbool cE_tup cE_new cE_bin cE_cmp cE_not cE_and cE_or cE_ite cE_ix cE_len cE_isi cE_call cE_mkx cE_mkb cE_isx cE_atx cL_nil cL_cons cA_nil cA_cons cA_io cA_tmp cN_lst cN_cat cN_list cN_comp cP_non cP_one cI_list cI_tup cI_range cI_enum cC_yes cC_one cO_dat cO_own cO_call cO_move cJ_nil a
theorem snd_N (cf : CF) (W : Wd) (a : IN) : QN cf W a := IN.rec (motive_1 := QE cf W) (motive_2 := QL cf W) (motive_3 := QA cf W) (motive_4 := QN cf W) (motive_5 := QP cf W) (motive_6 := QI cf W) (motive_7 := QC cf W) (motive_8 := QO cf W) (motive_9 := QJ cf W) cE_var cE_cint cE_cstr cE_cbool cE_tup cE_new cE_bin cE_cmp cE_not cE_and cE_or cE_ite cE_ix cE_len cE_isi cE_call cE_mkx cE_mkb cE_isx cE_atx cL_nil cL_cons cA_nil cA_cons cA_io cA_tmp cN_lst cN_cat cN_list cN_comp cP_non cP_one cI_list cI_tup cI_range cI_enum cC_yes cC_one cO_dat cO_own cO_call cO_move cJ_nil a
theorem snd_I (cf : CF) (W : Wd) (a : II) : QI cf W a := II.rec (motive_1 := QE cf W) (motive_2 := QL cf W) (motive_3 := QA cf W) (motive_4 := QN cf W) (motive_5 := QP cf W) (motive_6 := QI cf W) (motive_7 := QC cf W) (motive_8 := QO cf W) (motive_9 := QJ cf W) cE_var cE_cint cE_cstr cE_cbool cE_tup cE_new cE_bin cE_cmp cE_not cE_and cE_or cE_ite cE_ix cE_len cE_isi cE_call cE_mkx cE_mkb cE_isx cE_atx cL_nil cL_cons cA_nil cA_cons cA_io cA_tmp cN_lst cN_cat cN_list cN_comp cP_non cP_one cI_list cI_tup cI_range cI_enum cC_yes cC_one cO_dat cO_own cO_call cO_move cJ_nil a
theorem snd_O (cf : CF) (W : Wd) (a : IO) : QO cf W a := IO.rec (motive_1 := QE cf W) (motive_2 := QL cf W) (motive_3 := QA cf W) (motive_4 := QN cf W) (motive_5 := QP cf W) (motive_6 := QI cf W) (motive_7 := QC cf W) (motive_8 := QO cf W) (motive_9 := QJ cf W) cE_var cE_cint cE_cstr cE_cbool cE_tup cE_new cE_bin cE_cmp cE_not cE_and cE_or cE_ite cE_ix cE_len cE_isi cE_call cE_mkx cE_mkb cE_isx cE_atx cL_nil cL_cons cA_nil cA_cons cA_io cA_tmp cN_lst cN_cat cN_list cN_comp cP_non cP_one cI_list cI_tup cI_range cI_enum cC_yes cC_one cO_dat cO_own cO_call cO_move cJ_nil a
end
end L3
set_option maxHeartbeats 4000000
namespace L3
open PySem PySem.Spec PyProof.Rows L2
mutual
/-- what may stand in a try -/
inductive IQ where
 | asg (s i : Nat) (o : IO)
 | expr (e : IE)
 | ite (c : IE) (a b : IQs)
inductive IQs where
 | nil
 | cons (q : IQ) (b : IQs)
end
set_option genSizeOfSpec false
set_option genInjectivity false
mutual
inductive IS where
 | pass
 | bad
 | asg (s i : Nat) (o : IO)
 | ite (c : IE) (a b : IB)
 | loop (t : IT) (src : II) (b : IB)
 | ret (o : IO)
 | app (s i : Nat) (e : IE)
 | set (s i : Nat) (ie ve : IE)
inductive IB where
 | nil
 | cons (s : IS) (b : IB)
end
set_option genSizeOfSpec true
set_option genInjectivity true
mutual
noncomputable def IQ.ex (cf : CF) (io : List Nat) : IQ → SM
 | .asg _ i o => sAsg io i (o.ev cf)
 | .expr e => sExpr (e.ev cf).1
 | .ite c a b => sIf (c.ev cf).2 (a.ex cf io) (b.ex cf io)
noncomputable def IQs.ex (cf : CF) (io : List Nat) : IQs → SM
 | .nil => sNext
 | .cons s .nil => s.ex cf io
 | .cons s b => sSeq (s.ex cf io) (b.ex cf io)
end
mutual
noncomputable def IS.ex (cf : CF) (io : List Nat) : IS → SM
 | .pass => sNext
 | .bad => sBad
 | .asg _ i o => sAsg io i (o.ev cf)
 | .ite c a b => sIf (c.ev cf).2 (a.ex cf io) (b.ex cf io)
 | .loop t src b => sFor t (src.ev cf) (b.ex cf io)
 | .ret o => sRet (o.ev cf)
 | .app _ i e => sApp i (e.ev cf).1
 | .set _ i ie ve => sSet i (ie.ev cf).1 (ve.ev cf).1
noncomputable def IB.ex (cf : CF) (io : List Nat) : IB → SM
 | .nil => sNext
 | .cons s .nil => s.ex cf io
 | .cons s b => sSeq (s.ex cf io) (b.ex cf io)
end
noncomputable def asgComp : IO → Option IN
 | .own n => some n
 | .dat (.new n) => some n
 | _ => none
noncomputable def asgOk (o : IO) : Expr → Bool
 | .ListComp .. => okO (asgComp o) IN.plain
 | .SetComp .. => false
 | .DictComp .. => false
 | _ => true
noncomputable def usPass : Stmt → Option Pos
 | .Pass p => some p
 | _ => none
noncomputable def usExpr : Stmt → Option (Expr × Pos)
 | .Expr x p => some (x, p)
 | _ => none
noncomputable def usIf : Stmt → Option (Expr × List Stmt × List Stmt × Pos)
 | .If x xs ys p => some (x, xs, ys, p)
 | _ => none
noncomputable def usFor : Stmt → Option (Expr × Expr × List Stmt × List Stmt × Pos)
 | .For tg it b e p => some (tg, it, b, e, p)
 | _ => none
noncomputable def usRet : Stmt → Option (Option Expr × Pos)
 | .Return x p => some (x, p)
 | _ => none
noncomputable def usAsg : Stmt → Option (List Expr × Expr × Pos)
 | .Assign ts e p => some (ts, e, p)
 | _ => none
theorem usPass_inv {e : Stmt} {p : Pos} (h : usPass e = some p) : e = .Pass p := by
 unfold usPass at h
 split at h
 ·cases h; rfl
 ·cases h
theorem usExpr_inv {e : Stmt} {x : Expr} {p : Pos} (h : usExpr e = some (x, p)) : e = .Expr x p := by
 unfold usExpr at h
 split at h
 ·cases h; rfl
 ·cases h
theorem usIf_inv {e : Stmt} {x : Expr} {xs ys : List Stmt} {p : Pos} (h : usIf e = some (x, xs, ys, p)) : e = .If x xs ys p := by
 unfold usIf at h
 split at h
 ·cases h; rfl
 ·cases h
theorem usFor_inv {e : Stmt} {x y : Expr} {xs ys : List Stmt} {p : Pos} (h : usFor e = some (x, y, xs, ys, p)) : e = .For x y xs ys p := by
 unfold usFor at h
 split at h
 ·cases h; rfl
 ·cases h
theorem usRet_inv {e : Stmt} {x : Option Expr} {p : Pos} (h : usRet e = some (x, p)) : e = .Return x p := by
 unfold usRet at h
 split at h
 ·cases h; rfl
 ·cases h
theorem usAsg_inv {e : Stmt} {ts : List Expr} {x : Expr} {p : Pos} (h : usAsg e = some (ts, x, p)) : e = .Assign ts x p := by
 unfold usAsg at h
 split at h
 ·cases h; rfl
 ·cases h
noncomputable def unApp (s : Stmt) : Option (Str × Pos × Str × Pos × List Expr × Pos × Pos) := (usExpr s).bind fun (e, q2) => (unMe e).map fun (x, p, f, p2, xs, q) => (x, p, f, p2, xs, q, q2)
theorem unApp_inv {st : Stmt} {x f : Str} {p p2 q q2 : Pos} {xs : List Expr} (h : unApp st = some (x, p, f, p2, xs, q, q2)) : st = .Expr (.Call (.Attribute (.Name x p) f p2) xs [] q) q2 := by
 unfold unApp at h
 cases e1 : usExpr st with
 | none => rw [e1] at h; cases h
 | some z =>
  obtain ⟨e, q3⟩ := z
  cases e2 : unMe e with
  | none => simp [e1, e2] at h
  | some z =>
   obtain ⟨a1, a2, a3, a4, a5, a6⟩ := z
   simp [e1, e2] at h
   obtain ⟨rfl, rfl, rfl, rfl, rfl, rfl, rfl⟩ := h
   rw [usExpr_inv e1, unMe_inv e2]
noncomputable def unAs1 (s : Stmt) : Option (Expr × Expr × Pos) := (usAsg s).bind fun (ts, e, q) => (one1 ts).map fun t => (t, e, q)
theorem unAs1_inv {st : Stmt} {t e : Expr} {q : Pos} (h : unAs1 st = some (t, e, q)) : st = .Assign [t] e q := by
 unfold unAs1 at h
 cases e1 : usAsg st with
 | none => rw [e1] at h; cases h
 | some z =>
  obtain ⟨ts, e', q'⟩ := z
  cases e2 : one1 ts with
  | none => simp [e1, e2] at h
  | some t' =>
   simp [e1, e2] at h
   obtain ⟨rfl, rfl, rfl⟩ := h
   rw [usAsg_inv e1, one1_inv e2]
noncomputable def notComp : Expr → Bool
 | .ListComp .. => false
 | .SetComp .. => false
 | .DictComp .. => false
 | _ => true
noncomputable def notTupComp : Expr → Bool
 | .Tuple .. => false
 | .ListComp .. => false
 | .SetComp .. => false
 | .DictComp .. => false
 | _ => true
noncomputable def asgB (W : Wd) (sc : Scope) (N : List Str) (mp : List Nat) (m : Nat) (s i : Nat) (o : IO) (st : Stmt) : Bool := okO (unAs1 st) fun z => okO (unName z.1) fun x => decide (N[s]? = some x.1) && decide (mp[s]? = some i) && (decide (sc.names.lookup x.1 = some .local) || decide (sc.names.lookup x.1 = some .cell)) && asgOk o z.2.1 && o.chk W sc N mp m z.2.1
mutual
noncomputable def IQ.chk (W : Wd) (sc : Scope) (N : List Str) (mp : List Nat) (m : Nat) : IQ → Stmt → Bool
 | .asg s i o, st => asgB W sc N mp m s i o st
 | .expr e, st => okO (usExpr st) fun z => notTupComp z.1 && e.chk W sc N mp m z.1
 | .ite c a b, st => okO (usIf st) fun z => c.chk W sc N mp m z.1 && a.chk W sc N mp m z.2.1 && b.chk W sc N mp m z.2.2.1
noncomputable def IQs.chk (W : Wd) (sc : Scope) (N : List Str) (mp : List Nat) (m : Nat) : IQs → List Stmt → Bool
 | .nil, [] => true
 | .cons s b, x :: xs => s.chk W sc N mp m x && b.chk W sc N mp m xs
 | _, _ => false
end
mutual
noncomputable def IS.chk (W : Wd) (sc : Scope) (N : List Str) (mp : List Nat) (m np : Nat) : IS → Stmt → Bool
 | .pass, st => okO (usPass st) fun _ => true
 | .bad, _ => true
 | .asg s i o, st => asgB W sc N mp m s i o st
 | .ite c a b, st => okO (usIf st) fun z => c.chk W sc N mp m z.1 && a.chk W sc N mp m np z.2.1 && b.chk W sc N mp m np z.2.2.1
 | .loop t src b, st => okO (usFor st) fun z => z.2.2.2.1.isEmpty && notSet z.2.1 && chkT sc N mp np t z.1 && src.chk W sc N mp m z.2.1 z.1 && b.chk W sc N mp m np z.2.2.1
 | .ret o, st => okO (usRet st) fun z => okO z.1 fun x => o.chk W sc N mp m x
 | .app s i e, st => okO (unApp st) fun (x, _, f, p2, xs, q, _) => okO (one1 xs) fun a => nmB sc N mp s i x && decide (f = "append") && notStar a && (p2.endLine == q.line) && e.chk W sc N mp m a
 | .set s i ie ve, st => okO (unAs1 st) fun z => okO (unSub z.1) fun y => okO (unName y.1) fun x => nmB sc N mp s i x.1 && notSlice y.2.1 && notComp z.2.1 && ie.chk W sc N mp m y.2.1 && ve.chk W sc N mp m z.2.1
noncomputable def IB.chk (W : Wd) (sc : Scope) (N : List Str) (mp : List Nat) (m np : Nat) : IB → List Stmt → Bool
 | .nil, [] => true
 | .cons s b, x :: xs => s.chk W sc N mp m np x && b.chk W sc N mp m np xs
 | _, _ => false
end
theorem swaps_sub {x y e : Expr} {p : Pos} {l : Nat} {env : Env} (h : notComp e = true) : swapsWithSole [.Subscript x y p] e l env = pure false := by
 show swapsWith e (some (.Subscript x y p)) l env = pure false
 cases e <;> first | rfl | (simp [notComp] at h)
theorem stores_sub {x y e : Expr} {p : Pos} {env : Env} : swappedStores [.Subscript x y p] e env = pure none := by
 cases e <;> rfl
theorem swaps_asg {o : IO} {e : Expr} {x : Str} {p : Pos} {l : Nat} {env : Env} (h : asgOk o e = true) (hn : ∀ a b c d, e ≠ .ListComp a b c d) (hn2 : ∀ a b c d q, e ≠ .DictComp a b c d q) : swapsWith e (some (.Name x p)) l env = pure false := by
 cases e with
 | ListComp a b c d => exact absurd rfl (hn a b c d)
 | SetComp => simp [asgOk] at h
 | DictComp a b c d q => exact absurd rfl (hn2 a b c d q)
 | _ => rfl
theorem swaps_comp {elt : Expr} {gens : List Comprehension} {scope : Scope} {q : Pos} {x : Str} {p : Pos} {l : Nat} {env : Env} : ∃ b : Bool, swapsWith (.ListComp elt gens scope q) (some (.Name x p)) l env = pure b := ⟨_, rfl⟩
theorem assign_sub {o b : Expr} {p : Pos} {env : Env} (h : notSlice b = true) (v : Value) : assign (.Subscript o b p) env v = (do
  let ov ← holding [v] (eval o env)
  let iv ← holding [v, ov] (eval b env)
  standAt p
  holding [v, ov, iv] (setItem ov iv v)
  release [v, ov, iv] []) := by
 cases b <;> first | rfl | (simp [notSlice] at h)
variable [Cs]
structure XB (X : Cx) (XP : XPT) (mp io : List Nat) (np : Nat) : Prop where
 po : PassesOwn (model X.prog X.w) X.A X.env X.xe
 nd : X.N.Nodup
 mn : mp.Nodup
 io : ∀ i ∈ io, i < np
 rz : RzOk X XP
 rb : RzB X XP
 sk : X.stack = X.env :: X.outer
 fr : X.env.frame = some X.env.locals
noncomputable abbrev QS (cf : CF) (W : Wd) (a : IS) : Prop := ∀ (X : Cx) (XP : XPT) (k : Nat) (sc : Scope) (N : List Str) (mp : List Nat) (m np : Nat) (io : List Nat), XSc X sc N → XW X XP cf W k → XB X XP mp io np → ∀ (e : Stmt), a.chk W sc N mp m np e = true → SS X XP mp io e (a.ex cf io)
noncomputable abbrev QB (cf : CF) (W : Wd) (a : IB) : Prop := ∀ (X : Cx) (XP : XPT) (k : Nat) (sc : Scope) (N : List Str) (mp : List Nat) (m np : Nat) (io : List Nat), XSc X sc N → XW X XP cf W k → XB X XP mp io np → ∀ (e : List Stmt), a.chk W sc N mp m np e = true → SB X XP mp io e (a.ex cf io)
section
variable {cf : CF} {W : Wd}
theorem cS_pass : QS cf W .pass := by
 intro X XP k sc N mp m np io S T B e g0
 obtain ⟨p, eu, _⟩ := okO_inv g0
 clear g0
 cases usPass_inv eu
 exact ss_pass
theorem cS_bad : QS cf W .bad := fun X XP k sc N mp m np io S T B e h => ss_bad
theorem asgComp_inv {o : IO} {n : IN} (h : asgComp o = some n) : o = .own n ∨ o = .dat (.new n) := by
 unfold asgComp at h
 split at h <;> first | (cases h; exact .inl rfl) | (cases h; exact .inr rfl) | cases h
theorem asg_ok {X : Cx} {XP : XPT} {k : Nat} {sc : Scope} {N : List Str} {mp io : List Nat} {m : Nat} (s i : Nat) (o : IO) (S : XSc X sc N) (T : XW X XP cf W k) (nd : X.N.Nodup) (mn : mp.Nodup) (st : Stmt) (g0 : asgB W sc N mp m s i o st = true) : SS X XP mp io st (sAsg io i (o.ev cf)) := by
 unfold asgB at g0
 obtain ⟨⟨tx, e, q⟩, eu, g1⟩ := okO_inv g0
 clear g0
 cases unAs1_inv eu
 obtain ⟨⟨x, p⟩, ex, h⟩ := okO_inv g1
 clear g1
 cases unName_inv ex
 simp only [Bool.and_eq_true, Bool.or_eq_true, decide_eq_true_eq] at h
 obtain ⟨⟨⟨⟨h1, h2⟩, h3⟩, h4⟩, h5⟩ := h
 have hi : X.N[s]? = some x := by rw [S.hN]; exact h1
 have hx : Loc X.env.scope x := by
  rcases h3 with h3 | h3
  ·exact .inl (S.loc x h3)
  ·exact .inr (S.cel x h3).1
 have hf : X.fn x = true ∨ X.env.scope.names.lookup x = some .local := by
  rcases h3 with h3 | h3
  ·exact .inr (S.loc x h3)
  ·exact .inl (S.cel x h3).2
 have plain : swapsWith e (some (.Name x p)) q.line X.env = pure false → SS X XP mp io (.Assign [.Name x p] e q) (sAsg io i (o.ev cf)) := fun hsw =>
  ss_asg nd hi hx hf mn h2 (snd_O cf W o _ XP _ _ _ _ _ S T e h5) hsw
 by_cases hl : ∃ a b c d, e = .ListComp a b c d
 ·obtain ⟨elt, gens, scope, pc, rfl⟩ := hl
  obtain ⟨bb, hb⟩ := swaps_comp (elt := elt) (gens := gens) (scope := scope) (q := pc) (x := x) (p := p) (l := q.line) (env := X.env)
  cases bb with
  | false => exact plain hb
  | true =>
   obtain ⟨n, en, hp⟩ := okO_inv (show okO (asgComp o) IN.plain = true from h4)
   have go : n.chk W sc N mp m (.ListComp elt gens scope pc) = true → ∀ (fo : EM OV), (∀ t, SNt XP mp t (n.ev cf) → SOt XP mp t fo) → SS X XP mp io (.Assign [.Name x p] (.ListComp elt gens scope pc) q) (sAsg io i fo) := fun hn fo hfo => by
    obtain ⟨tg, iter, ifs, N', kk, ix, rfl, C, hfold, hs⟩ := (snd_N cf W n _ XP _ _ _ _ _ S T _ hn).2 hp elt gens scope pc rfl
    exact ss_asgT (ps_setU nd hi hx T.calm C hb hfold hf) mn h2 (List.getElem?_eq_some_iff.mp hi).1 (hfo _ hs)
   rcases asgComp_inv en with rfl | rfl
   ·exact go h5 _ fun t ht => ht.so
   ·exact go (Bool.and_eq_true_iff.mp (show IE.chk W sc N mp m (.new n) _ = true from h5)).2 _ fun t ht => ht.sd
 ·by_cases hl2 : ∃ a b c d q, e = .DictComp a b c d q
  ·obtain ⟨kx, vx, gens, scope, pc, rfl⟩ := hl2
   exact Bool.noConfusion (show false = true from h4)
  ·exact plain (swaps_asg h4 (fun a b c d z => hl ⟨a, b, c, d, z⟩) fun a b c d q z => hl2 ⟨a, b, c, d, q, z⟩)
theorem cS_asg (s i : Nat) (o : IO) : QS cf W (.asg s i o) := by
 intro X XP k sc N mp m np io S T B st g0
 exact asg_ok s i o S T B.nd B.mn st g0
theorem cS_ite (c : IE) (a b : IB) (ih_a : QB cf W a) (ih_b : QB cf W b) : QS cf W (.ite c a b) := by
 intro X XP k sc N mp m np io S T B e g0
 obtain ⟨⟨x, xs, ys, p⟩, eu, h⟩ := okO_inv g0
 clear g0
 cases usIf_inv eu
 simp only [Bool.and_eq_true] at h
 obtain ⟨⟨h1, h2⟩, h3⟩ := h
 exact ss_if (snd_E cf W c _ XP _ _ _ _ _ S T x h1).2 (ih_a _ XP _ _ _ _ _ _ _ S T B xs h2) (ih_b _ XP _ _ _ _ _ _ _ S T B ys h3)
theorem cS_loop (t : IT) (src : II) (b : IB) (ih_b : QB cf W b) : QS cf W (.loop t src b) := by
 intro X XP k sc N mp m np io S T B e g0
 obtain ⟨⟨tg, iter, body, els, p⟩, eu, h⟩ := okO_inv g0
 clear g0
 cases usFor_inv eu
 simp only [Bool.and_eq_true] at h
 obtain ⟨⟨⟨⟨h0, h1⟩, h2⟩, h3⟩, h4⟩ := h
 cases els with
 | cons _ _ => cases h0
 | nil =>
  have hg := sound_T (kp := (· ∈ io)) S (by rw [← S.hN]; exact B.nd) B.mn T.calm (fun i hi hm => absurd (B.io i hm) (by omega)) t _ h2
  exact ss_for B.po T.calm (snd_I cf W src _ XP _ _ _ _ _ S T tg iter h3) hg (ih_b _ XP _ _ _ _ _ _ _ S T B body h4) (folded_of h1)
theorem cS_ret (o : IO) : QS cf W (.ret o) := by
 intro X XP k sc N mp m np io S T B e g0
 obtain ⟨⟨x, p⟩, eu, g1⟩ := okO_inv g0
 clear g0
 cases usRet_inv eu
 obtain ⟨y, ey, h⟩ := okO_inv g1
 clear g1
 cases ey
 exact ss_ret (snd_O cf W o _ XP _ _ _ _ _ S T y h)
theorem cS_app (s i : Nat) (e : IE) : QS cf W (.app s i e) := by
 intro X XP k sc N mp m np io S T B st g0
 obtain ⟨⟨x, p, f, p2, xs, q, q2⟩, eu, g1⟩ := okO_inv g0
 clear g0
 cases unApp_inv eu
 obtain ⟨a, ea, h⟩ := okO_inv g1
 clear g1
 cases one1_inv ea
 simp only [Bool.and_eq_true, decide_eq_true_eq] at h
 obtain ⟨⟨⟨⟨h1, h2⟩, h3⟩, h4⟩, h5⟩ := h
 subst h2
 exact ss_app (nm_of S h1) (snd_E cf W e _ XP _ _ _ _ _ S T a h5).1 (star_of h3) h4
theorem cS_set (s i : Nat) (ie ve : IE) : QS cf W (.set s i ie ve) := by
 intro X XP k sc N mp m np io S T B st g0
 obtain ⟨⟨tx, a, q⟩, eu, g1⟩ := okO_inv g0
 clear g0
 cases unAs1_inv eu
 obtain ⟨⟨tn, b, p2⟩, et, g2⟩ := okO_inv g1
 clear g1
 cases unSub_inv et
 obtain ⟨⟨x, p⟩, ex, h⟩ := okO_inv g2
 clear g2
 cases unName_inv ex
 simp only [Bool.and_eq_true] at h
 obtain ⟨⟨⟨⟨h1, h2⟩, h3⟩, h4⟩, h5⟩ := h
 exact ss_set (nm_of S h1) (snd_E cf W ie _ XP _ _ _ _ _ S T b h4).1 (snd_E cf W ve _ XP _ _ _ _ _ S T a h5).1 (swaps_sub h3) stores_sub (fun he hg => ps_asg he hg (swaps_sub h3) stores_sub) (fun ho hi hs => pg_sub ho hi hs (assign_sub h2))
theorem sb_one {X : Cx} {XP : XPT} {mp io : List Nat} {st : Stmt} {f : SM} (h : SS X XP mp io st f) : SB X XP mp io [st] f := fun M0 F Γ ν σ H D rs hs hl hp => (pss_one ps_self).wp (h M0 F Γ ν σ H D rs hs hl hp)
theorem cB_nil : QB cf W .nil := by
 intro X XP k sc N mp m np io S T B e h
 cases e with
 | nil => exact sb_nil
 | cons _ _ => exact Bool.noConfusion (show false = true from h)
theorem cB_cons (s : IS) (b : IB) (ih_s : QS cf W s) (ih_b : QB cf W b) : QB cf W (.cons s b) := by
 intro X XP k sc N mp m np io S T B e h
 cases e with
 | nil => exact Bool.noConfusion (show false = true from h)
 | cons x xs =>
  replace h := Bool.and_eq_true_iff.mp h
  try simp only [Bool.and_eq_true] at h
  have h1 := ih_s _ XP _ _ _ _ _ _ _ S T B x h.1
  have h2 := ih_b _ XP _ _ _ _ _ _ _ S T B xs h.2
  cases b with
  | nil =>
   cases xs with
   | nil => exact sb_one h1
   | cons _ _ => exact Bool.noConfusion (show false = true from h.2)
  | cons s' b' => exact sb_cons h1 h2
theorem lookup_mem {kf : List (Str × Str)} {k f : Str} (h : kf.lookup k = some f) : (k, f) ∈ kf := by
 induction kf with
 | nil => cases h
 | cons p r ih =>
  obtain ⟨a, b⟩ := p
  rw [List.lookup_cons] at h
  cases q : (k == a) with
  | true =>
   rw [q] at h
   cases h
   have := eq_of_beq q
   subst this
   exact List.mem_cons_self
  | false => rw [q] at h; exact List.mem_cons_of_mem _ (ih h)
theorem snd_B (cf : CF) (W : Wd) (a : IB) : QB cf W a :=
 IB.rec (motive_1 := QS cf W) (motive_2 := QB cf W) cS_pass cS_bad cS_asg cS_ite cS_loop cS_ret cS_app cS_set cB_nil cB_cons a
end
end L3
set_option maxHeartbeats 4000000
namespace L3
open PySem PySem.Spec PyProof.Rows L2
variable [Cs]
inductive Kd where
 | fn
 | me (c m : Str)
 | ini (c : Str)
 deriving DecidableEq
structure DefI where
 name : Str
 st : Stmt
 ps : List Str
 N : List Str
 mask : List Bool
 io : List Nat
 body : IB
 kd : Kd := .fn
noncomputable def outs : List Bool → Gv → List (Option OV)
 | [], _ => []
 | _ :: bs, [] => none :: outs bs []
 | b :: bs, x :: Γ => (if b then x else none) :: outs bs Γ
theorem outs_len : ∀ (bs : List Bool) (Γ : Gv), (outs bs Γ).length = bs.length
 | [], _ => rfl
 | _ :: bs, [] => by rw [outs, List.length_cons, outs_len, List.length_cons]
 | b :: bs, x :: Γ => by rw [outs, List.length_cons, outs_len, List.length_cons]
theorem outs_get : ∀ {bs : List Bool} {Γ : Gv} {j : Nat} {o : OV}, (outs bs Γ)[j]? = some (some o) → bs[j]? = some true ∧ Γ[j]? = some (some o)
 | [], _, _, _, h => by simp [outs] at h
 | b :: bs, [], 0, _, h => by simp [outs] at h
 | b :: bs, [], j + 1, o, h => by
  have := outs_get (bs := bs) (Γ := []) (j := j) (o := o) (by simpa [outs] using h)
  simp at this
 | b :: bs, x :: Γ, 0, o, h => by
  simp only [outs, List.getElem?_cons_zero, Option.some.injEq] at h
  split at h
  ·rename_i hb; subst h; exact ⟨by simp [hb], rfl⟩
  ·cases h
 | b :: bs, x :: Γ, j + 1, o, h => by
  have := outs_get (bs := bs) (Γ := Γ) (j := j) (o := o) (by simpa [outs] using h)
  simpa using this
noncomputable def fin (mask : List Bool) : R (FL × Gv) → RF
 | .ok (.ret o, Γ) => .ok o (outs mask Γ)
 | .ok (.next, Γ) => .ok (.d .none) (outs mask Γ)
 | .exc x Γ => match x.pay with
  | .none => .exc x (outs mask Γ)
  | .str a => match Γ.getLast? with
   | some (some o) => if mask.length < Γ.length then .xp x.cls a o (outs mask Γ.dropLast) else .bad
   | _ => .bad
  | _ => .bad
 | _ => .bad
noncomputable def DefI.run (d : DefI) (cf : CF) (args : List OV) : RF := if args.length = d.mask.length then fin d.mask (d.body.ex cf d.io (args.map some ++ List.replicate (d.N.length - d.mask.length) none)) else .bad
theorem DefI.run_lenX {d : DefI} {cf : CF} {args : List OV} (h : d.run cf args ≠ .bad) : args.length = d.mask.length := by
 unfold DefI.run at h
 split at h
 ·assumption
 ·exact absurd rfl h
theorem DefI.run_pay {d : DefI} {cf : CF} {args : List OV} {x : Exc} {o : List (Option OV)} (h : d.run cf args = .exc x o) : x.pay = .none := by
 unfold DefI.run at h
 split at h
 ·generalize d.body.ex cf d.io (args.map some ++ List.replicate (d.N.length - d.mask.length) none) = r at h
  unfold fin at h
  split at h
  ·cases h
  ·cases h
  ·split at h
   ·rename_i e
    cases h; exact e
   ·split at h
    ·split at h <;> cases h
    ·cases h
   ·cases h
  ·cases h
 ·cases h
theorem DefI.ran (d : DefI) (cf : CF) : Ran d.mask.length (d.run cf) := fun _ => ⟨DefI.run_lenX, fun _ _ => DefI.run_pay⟩
noncomputable def callN (defs : List DefI) : Nat → CF
 | 0, _, _ => .bad
 | n + 1, x, args => match defs.find? fun d => decide (d.name = x) with
  | some d => d.run (callN defs n) args
  | none => .bad
section
variable {M0 : Addr → Prop} {F : Fp} {Γ : Gv} {ν : Nu} {H : Hp}
theorem RS.outs {o : OV} {v : V} {mask : List Bool} {us : List V} (r : RS M0 F (Γ ++ [some o]) (ν ++ [some v]) H) (hu : us.length = mask.length) (hν : ∀ j : Nat, mask[j]? = some true → ν[j]? = (us[j]?).map some) :
  ∃ F', RS M0 F' (outs mask Γ ++ [some o]) (us.map some ++ [some v]) H ∧ Stp F H F' H := by
 have hνl : ν.length = Γ.length := by have := r.len; simpa using this
 have hjl : ∀ j : Nat, mask[j]? = some true → j < Γ.length := fun j hj => by
  have h1 : j < us.length := by rw [hu]; exact (List.getElem?_eq_some_iff.mp hj).1
  have h2 := hν j hj
  rw [List.getElem?_eq_getElem h1] at h2
  have := (List.getElem?_eq_some_iff.mp h2).1
  omega
 let n := mask.length
 let F' : Fp := fun j => if j < n then (if mask[j]? = some true then F j else []) else if j = n then F Γ.length else []
 have g1 : ∀ j, j < n → mask[j]? = some true → F' j = F j := fun j h1 h2 => by show (if j < n then _ else _) = _; rw [if_pos h1, if_pos h2]
 have g2 : ∀ j, j < n → mask[j]? ≠ some true → F' j = [] := fun j h1 h2 => by show (if j < n then _ else _) = _; rw [if_pos h1, if_neg h2]
 have g3 : F' n = F Γ.length := by show (if n < n then _ else _) = _; rw [if_neg (Nat.lt_irrefl _), if_pos rfl]
 have g4 : ∀ j, n < j → F' j = [] := fun j h => by show (if j < n then _ else _) = _; rw [if_neg (by omega), if_neg (by omega)]
 have cls : ∀ j a, a ∈ F' j → (j < n ∧ mask[j]? = some true ∧ a ∈ F j) ∨ (j = n ∧ a ∈ F Γ.length) := fun j a h => by
  by_cases h1 : j < n
  ·by_cases h2 : mask[j]? = some true
   ·rw [g1 j h1 h2] at h; exact .inl ⟨h1, h2, h⟩
   ·rw [g2 j h1 h2] at h; cases h
  ·by_cases h2 : j = n
   ·subst h2; rw [g3] at h; exact .inr ⟨rfl, h⟩
   ·rw [g4 j (by omega)] at h; cases h
 have st : Stp F H F' H := stp_sub fun j a h => by
  rcases cls j a h with ⟨_, _, h⟩ | ⟨_, h⟩
  ·exact ⟨_, h⟩
  ·exact ⟨_, h⟩
 have hol : (L3.outs mask Γ).length = n := outs_len _ _
 refine ⟨F', ⟨r.al0, fun j a h => ?_, fun j => ?_, fun j k a h1 h2 => ?_, fun j p e => ?_, fun j h => ?_, by simp [hol, hu, n]⟩, st⟩
 ·rcases cls j a h with ⟨_, _, h⟩ | ⟨_, h⟩
  ·exact r.dis0 _ a h
  ·exact r.dis0 _ a h
 ·by_cases h1 : j < n
  ·by_cases h2 : mask[j]? = some true
   ·rw [g1 j h1 h2]; exact r.nd _
   ·rw [g2 j h1 h2]; exact .nil
  ·by_cases h2 : j = n
   ·subst h2; rw [g3]; exact r.nd _
   ·rw [g4 j (by omega)]; exact .nil
 ·rcases cls j a h1 with ⟨l1, m1, z1⟩ | ⟨rfl, z1⟩
  ·rcases cls k a h2 with ⟨l2, m2, z2⟩ | ⟨rfl, z2⟩
   ·exact r.dis _ _ a z1 z2
   ·have := r.dis _ _ a z1 z2; have := hjl _ m1; omega
  ·rcases cls k a h2 with ⟨l2, m2, z2⟩ | ⟨rfl, z2⟩
   ·have := r.dis _ _ a z1 z2; have := hjl _ m2; omega
   ·rfl
 ·by_cases hj : j < n
  ·rw [List.getElem?_append_left (by omega)] at e
   obtain ⟨hm, hg⟩ := outs_get e
   have hjj := hjl j hm
   obtain ⟨w, ew, q⟩ := r.at' j p (by rw [List.getElem?_append_left (by omega)]; exact hg)
   rw [List.getElem?_append_left (by omega), hν j hm] at ew
   refine ⟨w, ?_, ?_⟩
   ·rw [List.getElem?_append_left (by simp [hu]; exact hj), List.getElem?_map]; exact ew
   ·rw [g1 j hj hm]; exact q.go (fun _ _ x => rep_stp st r.al0 x) st.tups fun _ _ => rfl
  ·have hjn : j = n := by
    have := (List.getElem?_eq_some_iff.mp e).1
    simp [hol] at this; omega
   subst hjn
   rw [List.getElem?_append_right (by omega), hol] at e
   have : o = p := by simpa using e
   subst this
   obtain ⟨w, ew, q⟩ := r.at' Γ.length o (by rw [List.getElem?_append_right (Nat.le_refl _)]; simp)
   rw [List.getElem?_append_right (by omega), hνl] at ew
   have : v = w := by simpa using ew
   subst this
   refine ⟨v, ?_, ?_⟩
   ·rw [List.getElem?_append_right (by simp [hu, n]), List.length_map, hu]; simp [n]
   ·rw [g3]; exact q.go (fun _ _ x => rep_stp st r.al0 x) st.tups fun _ _ => rfl
 ·by_cases hj : j < n
  ·by_cases hm : mask[j]? = some true
   ·rw [g1 j hj hm]
    have hjj := hjl j hm
    refine r.emp j fun p ep => ?_
    rw [List.getElem?_append_left (by omega)] at ep
    refine h p ?_
    rw [List.getElem?_append_left (by omega)]
    exact outs_put hm ep
   ·exact g2 j hj hm
  ·by_cases hjn : j = n
   ·subst hjn
    exact absurd (by rw [List.getElem?_append_right (by omega), hol]; simp [n]) (h o)
   ·exact g4 j (by omega)
where
 outs_put : ∀ {bs : List Bool} {Γ : Gv} {j : Nat} {o : OV}, bs[j]? = some true → Γ[j]? = some (some o) → (L3.outs bs Γ)[j]? = some (some o)
  | [], _, _, _, h, _ => by simp at h
  | b :: bs, [], _, _, _, h => by simp at h
  | b :: bs, x :: Γ, 0, o, h, e => by
   simp at h e
   subst h e
   simp [L3.outs]
  | b :: bs, x :: Γ, j + 1, o, h, e => by
   have := outs_put (bs := bs) (Γ := Γ) (j := j) (o := o) (by simpa using h) (by simpa using e)
   simpa [L3.outs] using this
end
noncomputable def scopeB (N ps : List Str) (sc : Scope) : Bool := decide (sc.kind = .function) && !sc.isCoroutine && !sc.isGenerator && decide N.Nodup && decide (N.take ps.length = ps) && ps.all (fun x => decide (sc.names.lookup x = some .local) || decide (sc.names.lookup x = some .cell)) && sc.names.all (fun y => decide (y.2 ≠ .free))
theorem scope_of {N ps : List Str} {sc : Scope} (h : scopeB N ps sc = true) : FnScope N ps sc := by
 unfold scopeB at h
 simp only [Bool.and_eq_true, decide_eq_true_eq, List.all_eq_true, Bool.or_eq_true, Bool.not_eq_true'] at h
 obtain ⟨⟨⟨⟨⟨⟨h1, h2⟩, h3⟩, h4⟩, h5⟩, h6⟩, h7⟩ := h
 exact ⟨h1, h2, h3, h4, h5, h6, h7⟩
noncomputable def DefI.ok (W : Wd) (d : DefI) : Bool := scopeB d.N d.ps (defScope d.st) && decide (d.ps.length = d.mask.length) && d.io.all (fun i => decide (d.mask[i]? = some true)) && (List.range d.mask.length).all (fun j => decide (d.mask[j]? ≠ some true) || d.io.contains j)
 && d.body.chk W (defScope d.st) d.N (List.range d.N.length) d.N.length d.mask.length (defBody d.st)
structure WK (P : Program) (w : World) (K : PySem.W.Frag) (mg : Str → Option Value) (base : Heap) (cf : CF) (W : Wd) (k : Nat) : Prop where
 bi : ∀ x, W.bi.contains x = true → mg x = none
 gi : ∀ x i, W.gi.contains (x, i) = true → ∃ t, mg x = some (.int i t)
 gs : ∀ x i, W.gs.contains (x, i) = true → ∃ t, mg x = some (.str i t)
 fn : ∀ x n, W.fl.contains (x, n) = true → Kn P w K mg base (CX1 P w) x k (spX mg n (cf x)) ∧ Ran n (cf x)
 ex : ∀ x, W.ex.contains x = true → ∃ C, mg x = some (.ref C) ∧ PySem.W.excIn K C bmV "ValueError.__new__" = true
 mr : ∀ x C y C2, W.ex.contains x = true → mg x = some (.ref C) → W.ex.contains y = true → mg y = some (.ref C2) → (mroIn K C).contains (.ref C2) = decide (x = y)
 gd : ∀ x kf, W.gd.contains (x, kf) = true → GD w K mg x kf
 fk : ∀ c f, W.fk.contains (c, f) = true → Cls K (Cs.adr c) ∧ NoAttr K (Cs.adr c) f
 mc : ∀ c q n, W.mc.contains (c, q, n) = true → mg c = some (.ref (Cs.adr c)) ∧ (∃ j, j + 1 ≤ k ∧ KnI P w K mg base (CX1 P w) (Cs.adr c) j (spX mg n (cf q))) ∧ Ran n (cf q)
 ml : ∀ c m q n, W.ml.contains (c, m, q, n) = true → KnM P w K mg base (CX1 P w) (Cs.adr c) m k (spX mg n (cf q)) ∧ Ran n (cf q)
 br : ∀ c a, W.br.contains (c, a) = true → ∃ C f A, KnB P w K mg base c a k C f A
 xm : XmK K mg W
noncomputable def Lk (K : PySem.W.Frag) (mg : Str → Option Value) (f : Addr) (nm : Str) : Kd → Prop
 | .fn => mg nm = some (.ref f)
 | .me c m => Cls K (Cs.adr c) ∧ Meth K (Cs.adr c) m f
 | .ini c => Mk K (Cs.adr c) f ∧ mg c = some (.ref (Cs.adr c))
structure Dx (K : PySem.W.Frag) (mg : Str → Option Value) (d : DefI) : Prop where
 ex : ∃ (x : Str) (f : Addr) (fd : FuncData), Fun K x d.name d.st f fd ∧ Binds K fd d.ps [] ∧ Lk K mg f d.name d.kd
section
variable {P : Program} {w : World} {K : PySem.W.Frag} {mg : Str → Option Value} {base : Heap} {cf : CF} {W : Wd} {k : Nat}
theorem xsc_fn {N : List Str} {x : Str} {sc : Scope} {f : Addr} {cdv : Value} {A : Around} {outer : List Env} {s : Shared} {H : Hp} {E : XK} : XSc (cxOf CX0 P w K mg base N x sc f cdv A outer s H E).nox sc N where
 hN := rfl
 vis x h := by
  unfold visB at h
  simp only [Bool.or_eq_true, decide_eq_true_eq] at h
  rcases h with (h | h) | h
  ·exact .inl h
  ·exact .inr (.inl h)
  ·exact .inr (.inr h)
 loc x h := h
 cel x h := ⟨h, rfl⟩
 fre x h := .inr h
 glo x h := by
  unfold gloB at h
  simp only [decide_eq_true_eq] at h
  exact h
theorem xsc_fnX {N : List Str} {x : Str} {sc : Scope} {f : Addr} {cdv : Value} {A : Around} {outer : List Env} {s : Shared} {H : Hp} {E : XK} : XSc (cxOf (CX1 P w) P w K mg base N x sc f cdv A outer s H E) sc N where
 hN := rfl
 vis x h := by
  unfold visB at h
  simp only [Bool.or_eq_true, decide_eq_true_eq] at h
  rcases h with (h | h) | h
  ·exact .inl h
  ·exact .inr (.inl h)
  ·exact .inr (.inr h)
 loc x h := h
 cel x h := ⟨h, rfl⟩
 fre x h := .inr h
 glo x h := by
  unfold gloB at h
  simp only [decide_eq_true_eq] at h
  exact h
theorem sees_id {n : Nat} {ν : Nu} : Sees (List.range n) ν ν := fun s i v e1 e2 => by
 have hs : s < n := by
  have := (List.getElem?_eq_some_iff.mp e1).1
  simpa using this
 rw [List.getElem?_range hs] at e1
 cases e1
 exact e2
noncomputable def XPd (mg : Str → Option Value) (E : XK) : XPT := fun x _ _ ν _ H => ∀ C, mg x.cls = some (.ref C) → match x.pay with
 | .none => E (.ref C) none H
 | .str a => ∀ d v, ν.getLast? = some (some v) → H d = some (.xd [(a, v)]) → E (.ref C) (some d) H
 | _ => False
theorem px_def {N : List Str} {x : Str} {sc : Scope} {f : Addr} {cdv : Value} {A : Around} {outer : List Env} {s : Shared} {H : Hp} {E : XK} :
  PxOk (cxOf (CX1 P w) P w K mg base N x sc f cdv A outer s H E) (XPd mg E) := fun σ pins H1 e s' x Γ F ν C h1 hy h2 u => call_leaves u rfl rfl rfl (by have := h2 C h1; rw [hy] at this; exact this)
theorem fun_okX {x qual : Str} {st : Stmt} {f : Addr} {fd : FuncData} {N ps : List Str} {sp : Sp} (F : Fun K x qual st f fd) (S : FnScope N ps (defScope st)) (len : ∀ vs H Q E, sp vs H Q E → vs.length = ps.length)
  (hbody : ∀ (cdv : Value) (A : Around) (outer : List Env) (s : Shared) (H : Hp) (vs : List V) (Q : VK) (E : XK), Room k (A.deeper (envOfC qual (defScope st) s.heap.objs.size f cdv)) → sp vs H Q E →
   wpB (cxOf (CX1 P w) P w K mg base N qual (defScope st) f cdv A outer s H E) (defBody st) { nx := fun _ H' => Q .non H', rt := Q } (start N vs) H) : FnOk P w K mg base (CX1 P w) (k + 1) f fd ps sp := by
 obtain ⟨oc, od, kV, doc, pm, an, cdv, ct, osl, rfl, lk, hcd⟩ := F.ex
 exact fn_of lk hcd S len fun A outer s H vs Q E hr hsp => ⟨_, pss_self, hbody cdv A outer s H vs Q E hr hsp⟩
theorem fn_ok {d : DefI} {x : Str} {f : Addr} {fd : FuncData} (D : Fun K x d.name d.st f fd) (hok : d.ok W = true) (T : WK P w K mg base cf W k) (hk : 1 ≤ k) : FnOk P w K mg base (CX1 P w) (k + 1) f fd d.ps (spX mg d.mask.length (d.run cf)) := by
 unfold DefI.ok at hok
 simp only [Bool.and_eq_true, decide_eq_true_eq, List.all_eq_true, Bool.or_eq_true] at hok
 obtain ⟨⟨⟨⟨h1, h2⟩, h3⟩, h4⟩, h5⟩ := hok
 have S := scope_of h1
 have hNl : d.mask.length ≤ d.N.length := by
  have := congrArg List.length S.pre
  rw [List.length_take] at this; omega
 refine fun_okX D S (fun vs H Q E h => by rw [h.1, h2]) fun cdv A outer s H vs Q E hr hsp => ?_
 obtain ⟨hv, M0, F, args, rs, hm⟩ := hsp
 have hal : args.length = d.mask.length := by have := rs.len; simpa [hv] using this.symm
 have rs1 := rs.ext (d.N.length - d.mask.length)
 have hst : L2.start d.N vs = vs.map some ++ List.replicate (d.N.length - d.mask.length) none := by unfold L2.start; rw [hv]
 rw [hst]
 have hsl : (vs.map some ++ List.replicate (d.N.length - d.mask.length) none : L2.St).length = d.N.length := by simp [hv]; omega
 refine snd_B cf W d.body (cxOf (CX1 P w) P w K mg base d.N d.name (defScope d.st) f cdv A outer s H E) (XPd mg E) k (defScope d.st) d.N (List.range d.N.length) d.N.length d.mask.length d.io xsc_fnX
  ⟨T.bi, T.gi, T.gs, T.fn, hr, hk, rfl, T.ex, T.mr, T.gd, fun c f h => ⟨(T.fk c f h).1, (T.fk c f h).2⟩, T.mc, T.ml, px_def, ⟨_, _, _, rfl, rfl, rfl⟩, T.br, T.xm⟩ ⟨PassesOwn.leaving, S.nd, List.nodup_range, fun i hi => ?_, (fun x Γ F ν σ H' hy h C hC pins s1 I h' ea hm => made_leaves I rfl rfl rfl hm (by have := h C hC; rw [hy] at this; exact this)), (fun c a Γ F ν σ H' d v h hd C hC pins s1 I h' ea hm => made_leaves I rfl rfl rfl hm (h C hC d v (by simp) hd)), rfl, rfl⟩ (defBody d.st) h5 M0 F _ _ _ H _ rs1 sees_id hsl ?_
 ·exact (List.getElem?_eq_some_iff.mp (h3 i hi)).1
 ·have back : ∀ {F' : Fp} {Γ' : Gv} {ν' : Nu} {o : OV} {v : V} {H' : Hp} {G : Prop}, RS M0 F' (Γ' ++ [some o]) (ν' ++ [some v]) H' → (∀ i ∈ d.io, ν'[i]? = (vs.map some ++ List.replicate (d.N.length - d.mask.length) none : Nu)[i]?) → Stp F H F' H' →
    (∀ F', RS M0 F' (outs d.mask Γ' ++ [some o]) (vs.map some ++ [some v]) H' → Stp F H F' H' → G) → G := fun {F' Γ' ν' o v H' G} r' hn s' hq => by
   obtain ⟨F2, r2, s2⟩ := r'.outs hv fun j hj => by
    have hjl : j < d.mask.length := (List.getElem?_eq_some_iff.mp hj).1
    have hjm : j ∈ d.io := by
     rcases h4 j (List.mem_range.mpr hjl) with z | z
     ·exact absurd hj z
     ·simpa using z
    rw [hn j hjm, List.getElem?_append_left (by simp [hv]; exact hjl), List.getElem?_map]
   exact hq F2 r2 (s'.trans s2)
  unfold DefI.run at hm
  rw [if_pos hal] at hm
  generalize d.body.ex cf d.io (args.map some ++ List.replicate (d.N.length - d.mask.length) none) = rr at hm
  cases rr with
  | bad => exact hm.elim
  | exc x Γ' =>
   intro F' ν' σ' H' r' s' _ _ hn C hC
   unfold fin at hm
   dsimp only at hm
   cases hpay : x.pay with
   | none =>
    rw [hpay] at hm
    exact back (r'.newD .none) hn s' fun F2 r2 s2 => hm C hC F2 H' r2 s2
   | str a =>
    rw [hpay] at hm
    dsimp only at hm
    cases hgl : Γ'.getLast? with
    | none => rw [hgl] at hm; exact hm.elim
    | some oo =>
     rw [hgl] at hm
     cases oo with
     | none => exact hm.elim
     | some o =>
      dsimp only at hm
      by_cases hlt : d.mask.length < Γ'.length
      ·rw [if_pos hlt] at hm
       intro dx v hv hdx
       obtain ⟨Γ0, rfl⟩ := List.getLast?_eq_some_iff.mp hgl
       obtain ⟨ν0, rfl⟩ := List.getLast?_eq_some_iff.mp hv
       rw [List.dropLast_concat] at hm
       have hl2 : ν0.length = Γ0.length := by have := r'.len; simpa using this
       refine back r' (fun i hi => ?_) s' fun F2 r2 s2 => hm C hC F2 v dx H' r2 s2 hdx
       have hi2 : i < d.mask.length := (List.getElem?_eq_some_iff.mp (h3 i hi)).1
       rw [← hn i hi, List.getElem?_append_left (by rw [hl2]; simp at hlt; omega)]
      ·rw [if_neg hlt] at hm; exact hm.elim
   | _ => rw [hpay] at hm; exact hm.elim
  | ok z =>
   obtain ⟨fl, Γ'⟩ := z
   cases fl with
   | brk => exact hm.elim
   | cnt => exact hm.elim
   | next =>
    intro F' ν' σ' H' r' s' hs' hl' hn
    exact back (r'.newD .none) hn s' fun F2 r2 s2 => hm F2 _ H' r2 s2
   | ret o =>
    intro F' ν' v H' r' s' hn
    exact back r' hn s' fun F2 r2 s2 => hm F2 v H' r2 s2
theorem fn_bad {d : DefI} {x : Str} {f : Addr} {fd : FuncData} (D : Fun K x d.name d.st f fd) (hok : d.ok W = true) : FnOk P w K mg base (CX1 P w) 1 f fd d.ps (spX mg d.mask.length fun _ => .bad) := by
 unfold DefI.ok at hok
 simp only [Bool.and_eq_true, decide_eq_true_eq] at hok
 refine fun_okX (k := 0) D (scope_of hok.1.1.1.1) (fun vs H Q E h => by rw [h.1, hok.1.1.1.2]) fun cdv A outer s H vs Q E hr hsp => ?_
 obtain ⟨hv, M0, F, args, rs, hm⟩ := hsp
 exact hm.elim
noncomputable def wOk (defs : List DefI) (W : Wd) : Bool := W.fl.all (fun p => okO (defs.find? fun d => decide (d.name = p.1)) fun d => decide (d.mask.length = p.2) && decide (d.kd = .fn))
 && W.mc.all (fun p => okO (defs.find? fun d => decide (d.name = p.2.1)) fun d => decide (d.mask.length = p.2.2) && decide (d.kd = .ini p.1))
 && W.ml.all (fun p => okO (defs.find? fun d => decide (d.name = p.2.2.1)) fun d => decide (d.mask.length = p.2.2.2) && decide (d.kd = .me p.1 p.2.1))
theorem wk_step {defs : List DefI} {j : Nat} (hd : ∀ d ∈ defs, Dx K mg d ∧ d.ok W = true) (hw : wOk defs W = true) (hbi : ∀ x, W.bi.contains x = true → mg x = none)
  (hgi : ∀ x i, W.gi.contains (x, i) = true → ∃ t, mg x = some (.int i t)) (hgs : ∀ x i, W.gs.contains (x, i) = true → ∃ t, mg x = some (.str i t))
  (hex : ∀ x, W.ex.contains x = true → ∃ C, mg x = some (.ref C) ∧ PySem.W.excIn K C bmV "ValueError.__new__" = true) (hmr : ∀ x C y C2, W.ex.contains x = true → mg x = some (.ref C) → W.ex.contains y = true → mg y = some (.ref C2) → (mroIn K C).contains (.ref C2) = decide (x = y)) (hgd : ∀ x kf, W.gd.contains (x, kf) = true → GD w K mg x kf)
  (hfk : ∀ c f, W.fk.contains (c, f) = true → Cls K (Cs.adr c) ∧ NoAttr K (Cs.adr c) f)
  (hbr : ∀ c a, W.br.contains (c, a) = true → ∃ C f A, KnB P w K mg base c a 2 C f A) (hxm : XmK K mg W)
  (hF : ∀ (d : DefI) (x : Str) (f : Addr) (fd : FuncData), defs.find? (fun e => decide (e.name = d.name)) = some d → Fun K x d.name d.st f fd → d.ok W = true → FnOk P w K mg base (CX1 P w) j f fd d.ps (spX mg d.mask.length (cf d.name)) ∧ Ran d.mask.length (cf d.name)) (hj : j + 1 ≤ k) (hk2 : 2 ≤ k) : WK P w K mg base cf W k := by
 unfold wOk at hw
 simp only [Bool.and_eq_true, List.all_eq_true] at hw
 obtain ⟨⟨w1, w2⟩, w3⟩ := hw
 have get : ∀ (x : Str) (n : Nat) (kd : Kd), okO (defs.find? fun d => decide (d.name = x)) (fun d => decide (d.mask.length = n) && decide (d.kd = kd)) = true → ∃ (d : DefI) (y : Str) (f : Addr) (fd : FuncData), d.name = x ∧ Fun K y d.name d.st f fd ∧ Binds K fd d.ps [] ∧ Lk K mg f x kd ∧ FnOk P w K mg base (CX1 P w) j f fd d.ps (spX mg n (cf x)) ∧ Ran n (cf x) := fun x n kd h => by
  obtain ⟨d, e, h⟩ := okO_inv h
  simp only [Bool.and_eq_true, decide_eq_true_eq] at h
  obtain ⟨rfl, rfl⟩ := h
  have hmem := List.mem_of_find?_eq_some e
  have hnm : d.name = x := by simpa using List.find?_some e
  subst hnm
  obtain ⟨D, ok⟩ := hd d hmem
  obtain ⟨y, f, fd, F, hb, lk⟩ := D.ex
  obtain ⟨q1, q2⟩ := hF d y f fd e F ok
  exact ⟨d, y, f, fd, rfl, F, hb, lk, q1, q2⟩
 refine ⟨hbi, hgi, hgs, fun x n h => ?_, hex, hmr, hgd, hfk, fun c q n h => ?_, fun c m q n h => ?_, fun c a h => (hbr c a h).imp fun _ q => q.imp fun _ q => q.imp fun _ q => q.mono hk2, hxm⟩
 ·obtain ⟨d, y, f, fd, e, F, hb, lk, q1, q2⟩ := get x n .fn (w1 (x, n) (List.elem_iff.mp h))
  exact ⟨⟨f, fd, d.ps, q1.mono (by omega), lk, F.kp, hb⟩, q2⟩
 ·obtain ⟨d, y, f, fd, e, F, hb, lk, q1, q2⟩ := get q n (.ini c) (w2 (c, q, n) (List.elem_iff.mp h))
  exact ⟨lk.2, ⟨j, hj, f, fd, d.ps, q1, lk.1, hb⟩, q2⟩
 ·obtain ⟨d, y, f, fd, e, F, hb, lk, q1, q2⟩ := get q n (.me c m) (w3 (c, m, q, n) (List.elem_iff.mp h))
  exact ⟨⟨f, fd, d.ps, q1.mono (by omega), lk.1, lk.2, hb⟩, q2⟩
theorem wk_all {defs : List DefI} (hd : ∀ d ∈ defs, Dx K mg d ∧ d.ok W = true) (hw : wOk defs W = true) (hbi : ∀ x, W.bi.contains x = true → mg x = none)
  (hgi : ∀ x i, W.gi.contains (x, i) = true → ∃ t, mg x = some (.int i t)) (hgs : ∀ x i, W.gs.contains (x, i) = true → ∃ t, mg x = some (.str i t))
  (hex : ∀ x, W.ex.contains x = true → ∃ C, mg x = some (.ref C) ∧ PySem.W.excIn K C bmV "ValueError.__new__" = true) (hmr : ∀ x C y C2, W.ex.contains x = true → mg x = some (.ref C) → W.ex.contains y = true → mg y = some (.ref C2) → (mroIn K C).contains (.ref C2) = decide (x = y)) (hgd : ∀ x kf, W.gd.contains (x, kf) = true → GD w K mg x kf)
  (hfk : ∀ c f, W.fk.contains (c, f) = true → Cls K (Cs.adr c) ∧ NoAttr K (Cs.adr c) f) (hbr : ∀ c a, W.br.contains (c, a) = true → ∃ C f A, KnB P w K mg base c a 2 C f A) (hxm : XmK K mg W) : ∀ n, WK P w K mg base (callN defs n) W (2 * n + 2)
 | 0 => wk_step (j := 1) hd hw hbi hgi hgs hex hmr hgd hfk hbr hxm (fun d x f fd _ F ok => ⟨fn_bad F ok, fun args => ⟨fun e => absurd rfl e, fun x o e => by cases e⟩⟩) (by omega) (by omega)
 | n + 1 => wk_step (j := 2 * n + 2 + 1) hd hw hbi hgi hgs hex hmr hgd hfk hbr hxm (fun d x f fd e F ok => by
   have ec : callN defs (n + 1) d.name = d.run (callN defs n) := by
    funext args
    rw [callN, e]
   rw [ec]
   exact ⟨fn_ok F ok (wk_all hd hw hbi hgi hgs hex hmr hgd hfk hbr hxm n) (by omega), d.ran _⟩) (by omega) (by omega)
noncomputable def boxV (cells : List Int) (i l t s : Int) : OV := .l [.d (.list (cells.map .int)), .d (.int i), .d (.int l), .d (.int t), .d (.int s)]
theorem law_ok {st : Stmt} {fa : Addr} {fd : FuncData} {N : List Str} {x : Str} {kb : Nat} {body : IB} {rest : List Stmt} {pos' p3 p2 p pos : Pos} (Fn : Fun K "law" "law" st fa fd) (hS : scopeB N ["_law_script"] (defScope st) = true) (hkb : Kn P w K mg base CX0 "_law_box" kb (spBox K)) (hkb2 : kb ≤ k) (T : WK P w K mg base cf W k) (hk : 1 ≤ k)
  (hb : defBody st = .Assign [.Name x pos'] (.Call (.Name "_law_box" p3) [.Name "_law_script" p2] [] p) pos :: rest) (hN0 : N[0]? = some ("_law_script" : Str)) (hN1 : N[1]? = some x) (hv0 : (defScope st).names.lookup ("_law_script" : Str) = some .local) (hx : Loc (defScope st) x) (hg : (defScope st).names.lookup ("_law_box" : Str) = some .globalImplicit)
  (hchk : body.chk W (defScope st) N (List.range N.length) N.length 0 rest = true)
  (hrun : ∀ (cells : List Int) (i l t s : Int), 0 ≤ i → ∃ Γ', body.ex cf [] (none :: some (boxV cells i l t s) :: List.replicate (N.length - 2) none) = .ok (.ret (.d (.bool true)), Γ')) : FnOk P w K mg base CX0 (k + 1) fa fd ["_law_script"] (spLaw K) := by
 have S := scope_of hS
 refine Fn.law S fun cdv A outer s H Q E a ns hr hSq hlen kk => ?_
 have hl2 : 2 ≤ N.length := by have := (List.getElem?_eq_some_iff.mp hN1).1; omega
 rw [hb]
 refine wb_box (X := (cxOf CX0 P w K mg base N "law" (defScope st) fa cdv A outer s H E).nox) (N := N) S.nd hkb (hr.mono hkb2) hSq hlen (fun b σ1 H1 s1 nb hB rs1 l1 => ?_) rfl hN0 hN1 (.inl hv0) hx (.inl rfl) hg rfl rfl
 obtain ⟨c, cells, i, l, t, sd, B⟩ := hB
 have hσ : σ1[1]? = some (some (.ref b)) := rs1.av 1 (.ref b) (by
  rw [List.getElem?_set_self]
  simp
  exact hl2)
 have hF : ∀ j a, a ∈ fset (fun _ => []) 1 [b] j → j = 1 ∧ a = b := fun j a h => by
  by_cases hj : j = 1
  ·subst hj; rw [fset_same] at h; exact ⟨rfl, by simpa using h⟩
  ·rw [fset_ne hj] at h; cases h
 have hM : ∀ a, MM Nothing (fset (fun _ => []) 1 [b]) a → a = b := fun a h => by
  rcases h with h | ⟨j, h⟩
  ·exact h.elim
  ·exact (hF j a h).2
 have rs : RS Nothing (fset (fun _ => []) 1 [b]) (none :: some (boxV cells i l t sd) :: List.replicate (N.length - 2) none) (none :: some (.ref b) :: List.replicate (N.length - 2) none) H1 := by
  refine ⟨fun a h => h.elim, fun j a h z => z, fun j => ?_, fun j k a h1 h2 => by rw [(hF j a h1).1, (hF k a h2).1], fun j o e => ?_, fun j h => ?_, by simp⟩
  ·by_cases hj : j = 1
   ·subst hj; rw [fset_same]; exact List.nodup_cons.mpr ⟨(fun z => nomatch z), .nil⟩
   ·rw [fset_ne hj]; exact .nil
  ·match j, e with
   | 0, e => simp at e
   | 1, e =>
    have e' : boxV cells i l t sd = o := by simpa using e
    subst e'
    refine ⟨.ref b, rfl, ?_⟩
    rw [fset_same]
    refine .l B.hb (.cons (A := []) (.d (B.hc.less fun a ha _ => hM a ha)) (.cons (A := []) (.d (.int _)) (.cons (A := []) (.d (.int _)) (.cons (A := []) (.d (.int _)) (.cons (A := []) (.d (.int _)) .nil)))))
   | j + 2, e =>
    rw [List.getElem?_cons_succ, List.getElem?_cons_succ, List.getElem?_replicate] at e
    split at e <;> cases e
  ·by_cases hj : j = 1
   ·subst hj; exact absurd rfl (h (boxV cells i l t sd))
   ·rw [fset_ne hj]
 have sees : Sees (List.range N.length) (none :: some (.ref b) :: List.replicate (N.length - 2) none) σ1 := fun s' j v e1 e2 => by
  have hs : s' < N.length := by
   have := (List.getElem?_eq_some_iff.mp e1).1
   simpa using this
  rw [List.getElem?_range hs] at e1
  cases e1
  match s', e2 with
  | 0, e2 => simp at e2
  | 1, e2 =>
   have : V.ref b = v := by simpa using e2
   subst this; exact hσ
  | j + 2, e2 =>
   rw [List.getElem?_cons_succ, List.getElem?_cons_succ, List.getElem?_replicate] at e2
   split at e2 <;> cases e2
 obtain ⟨Γ', er⟩ := hrun cells i l t sd B.hi
 refine snd_B cf W body (cxOf CX0 P w K mg base N "law" (defScope st) fa cdv A outer s H E).nox XP0 k (defScope st) N (List.range N.length) N.length 0 [] xsc_fn ⟨T.bi, T.gi, T.gs, T.fn, hr, hk, rfl, T.ex, T.mr, T.gd, fun c f h => ⟨(T.fk c f h).1, (T.fk c f h).2⟩, T.mc, T.ml, px_none, ⟨_, _, _, rfl, rfl, rfl⟩, T.br, T.xm⟩ ⟨PassesOwn.never, S.nd, List.nodup_range, (fun i hi => nomatch hi), (fun _ _ _ _ _ _ _ h => h.elim), (fun _ _ _ _ _ _ _ _ _ h => h.elim), rfl, rfl⟩ rest hchk Nothing _ _ _ σ1 H1 _ rs sees l1 ?_
 rw [er]
 intro F' ν' v H' r' s' hn
 obtain ⟨w', ew, q⟩ := r'.at' Γ'.length (.d (.bool true)) (by rw [List.getElem?_append_right (Nat.le_refl _)]; simp)
 have hlen := r'.len
 have hνl : ν'.length = Γ'.length := by simpa using hlen
 rw [List.getElem?_append_right (by omega), hνl] at ew
 have : v = w' := by simpa using ew
 subst this
 generalize F' Γ'.length = Az at q
 cases q with
 | d q => cases q; exact kk H'
end
noncomputable def csOf (mg : Str → Option Value) : Cs := ⟨fun x => match mg x with
 | some (.ref C) => C
 | _ => 0⟩
theorem csOf_at {mg : Str → Option Value} {c : Str} {C : Addr} (h : mg c = some (.ref C)) : (csOf mg).adr c = C := by
 show (match mg c with
  | some (.ref C) => C
  | _ => 0) = C
 rw [h]
section
variable {K : PySem.W.Frag} {mg : Str → Option Value} {h : Heap} {d : DefI}
theorem dx_fn (hk : d.kd = .fn) (D : Df K mg d.name d.st d.ps) : @Dx (csOf mg) K mg d := by
 obtain ⟨f, fd, F, hm, hb⟩ := D.ex
 exact @Dx.mk (csOf mg) _ _ _ ⟨d.name, f, fd, F, hb, by rw [hk]; exact hm⟩
structure ClsOf (K : PySem.W.Frag) (c : Str) (C : Addr) : Prop where
 n : PySem.W.nsIn K mainGlobals c = some (some (.ref C))
 cl : Cls K C
structure Dm (K : PySem.W.Frag) (q c m : Str) (st : Stmt) (ps : List Str) : Prop where
 ex : ∃ (C f : Addr) (fd : FuncData), ClsOf K c C ∧ Fun K m q st f fd ∧ Binds K fd ps [] ∧ Meth K C m f
structure Di (K : PySem.W.Frag) (q c : Str) (st : Stmt) (ps : List Str) : Prop where
 ex : ∃ (C f : Addr) (fd : FuncData), ClsOf K c C ∧ Fun K "__init__" q st f fd ∧ Binds K fd ps [] ∧ Mk K C f
theorem Dm.of {q c m : Str} {st : Stmt} {ps : List Str} {C f : Addr} {oc : Value} {od an : Option Addr} {sl : Array (Option Value)} {kV dc pm cd ct : Value} (o : ClsOf K c C) (a : PySem.W.findIn K (.ref C) m = some (some (.ref f))) (fn : PySem.W.isFn K (.ref f) = true)
  (l : K.lookup f = some ⟨oc, od, .func (PySem.W.fnOf m q (defArgs st) (defBody st) (defScope st) .none kV dc pm an cd ct), sl⟩) (e : PySem.W.codeIn K cd q = true) (k : PySem.W.keepIn K (.ref f) = true)
  (hb : ∀ (kV doc pm : Value) (an : Option Addr) (cdv ct : Value) (us : List Value), us.length = ps.length → bindArgs (PySem.W.fnOf m q (defArgs st) (defBody st) (defScope st) .none kV doc pm an cdv ct) ⟨us, []⟩ = pure (ps.zip us)) : Dm K q c m st ps :=
 ⟨C, f, _, o, fun_mk (st := st) l e k, (fun_mk (st := st) l e k).binds hb, a, fn, k⟩
theorem Di.of {q c : Str} {st : Stmt} {ps : List Str} {C f : Addr} {oc : Value} {od an : Option Addr} {sl : Array (Option Value)} {kV dc pm cd ct : Value} (o : ClsOf K c C) (mk : PySem.W.makesIn K C = true) (a : PySem.W.findIn K (.ref C) "__init__" = some (some (.ref f))) (fn : PySem.W.isFn K (.ref f) = true) (kc : PySem.W.keepIn K (.ref C) = true)
  (l : K.lookup f = some ⟨oc, od, .func (PySem.W.fnOf "__init__" q (defArgs st) (defBody st) (defScope st) .none kV dc pm an cd ct), sl⟩) (e : PySem.W.codeIn K cd q = true) (k : PySem.W.keepIn K (.ref f) = true)
  (hb : ∀ (kV doc pm : Value) (an : Option Addr) (cdv ct : Value) (us : List Value), us.length = ps.length → bindArgs (PySem.W.fnOf "__init__" q (defArgs st) (defBody st) (defScope st) .none kV doc pm an cdv ct) ⟨us, []⟩ = pure (ps.zip us)) : Di K q c st ps :=
 ⟨C, f, _, o, fun_mk (st := st) l e k, (fun_mk (st := st) l e k).binds hb, mk, a, fn, kc⟩
theorem fk_of {c f : Str} {C : Addr} (X : K.In h) (G : h.Ns mainGlobals mg) (o : ClsOf K c C) (n : NoAttr K C f) : Cls K ((csOf mg).adr c) ∧ NoAttr K ((csOf mg).adr c) f := by
 rw [csOf_at (PySem.W.mg_of X G o.n)]
 exact ⟨o.cl, n⟩
end
end L3
namespace Wx
open PySem L2 L3
scoped instance noCs : L2.Cs := ⟨fun _ => 0⟩
noncomputable def b_law_mixed : IB := (.cons (.asg 2 2 (.dat (.bin .Mod (.bin .Add (.bin .Add (.bin .Mult (.var 0 0) (.cint 48271)) (.bin .Mult (.var 1 1) (.cint 69621))) (.cint 12345)) (.cint 2147483647)))) (.cons (.asg 3 3 (.dat (.bin .Mod (.bin .Add (.bin .Add (.bin .Mult (.var 2 2) (.bin .Add (.bin .Mod (.var 2 2) (.cint 65521)) (.cint 7))) (.bin .Mult (.var 1 1) (.cint 40692))) (.bin .Mod (.var 0 0) (.cint 104729))) (.cint 998244353)))) (.cons (.ret (.dat (.bin .FloorDiv (.var 3 3) (.cint 7)))) .nil)))
noncomputable def b_law_take : IB := (.cons (.set 0 0 (.cint 3) (.bin .Add (.ix (.var 0 0) (.cint 3)) (.cint 1))) (.cons (.ite (.cmp .Gt (.ix (.var 0 0) (.cint 2)) (.cint 0)) (.cons (.asg 2 2 (.dat (.ix (.var 0 0) (.cint 2)))) (.cons (.set 0 0 (.cint 2) (.bin .FloorDiv (.var 2 2) (.var 1 1))) (.cons (.ret (.dat (.bin .Mod (.var 2 2) (.var 1 1)))) .nil))) .nil) (.cons (.ite (.cmp .GtE (.ix (.var 0 0) (.cint 1)) (.len (.ix (.var 0 0) (.cint 0)))) (.cons (.ret (.dat (.bin .Mod (.call (.call "_law_mixed" 2 (.cons (.ix (.var 0 0) (.cint 4)) (.cons (.ix (.var 0 0) (.cint 3)) .nil)))) (.var 1 1)))) .nil) .nil) (.cons (.asg 3 3 (.dat (.ix (.ix (.var 0 0) (.cint 0)) (.ix (.var 0 0) (.cint 1))))) (.cons (.set 0 0 (.cint 1) (.bin .Add (.ix (.var 0 0) (.cint 1)) (.cint 1))) (.cons (.ite (.cmp .Lt (.var 3 3) (.bin .Pow (.cint 10) (.cint 18))) (.cons (.ret (.dat (.bin .Mod (.call (.call "_law_mixed" 2 (.cons (.var 3 3) (.cons (.ix (.var 0 0) (.cint 3)) .nil)))) (.var 1 1)))) .nil) .nil) (.cons (.set 0 0 (.cint 2) (.bin .FloorDiv (.var 3 3) (.var 1 1))) (.cons (.ret (.dat (.bin .Mod (.var 3 3) (.var 1 1)))) .nil))))))))
end Wx
set_option maxHeartbeats 4000000
namespace Wx
open PySem L2 L3
noncomputable def runI (n : Nat) (mask : List Bool) (io : List Nat) (body : IB) (cf : CF) (args : List OV) : RF := if args.length = mask.length then fin mask (body.ex cf io (args.map some ++ List.replicate (n - mask.length) none)) else .bad
end Wx
local macro_rules
  | `(tactic| simp! [$xs,*]) => `(tactic| simp [$xs,*, Wx.runI, L3.fin, L3.outs, L3.IB.ex, L3.IS.ex, L3.IE.ev, L3.IL.ev, L3.IA.ev, L3.IN.ev, L3.IP.ev, L3.II.ev, L3.IC.ev, L3.IO.ev, L3.sSeq, L3.sNext, L3.sAsg, L3.sIf, L3.sRet, L3.sRetN, L3.sSet, L3.sApp, L3.sFor, L3.sAsgT, L3.sExpr, L3.fVar, L3.fFrz, L3.fC, L3.fBin, L3.fCmp, L3.fB, L3.fTru, L3.fNotT, L3.fAndT, L3.fOrT, L3.fAndV, L3.fOrV, L3.fIf, L3.fIx, L3.f1, L3.f2, L3.fChain, L3.fTup, L3.fLst, L3.fCons, L3.fNil, L3.fNew, L3.fOwn, L3.fOD, L3.fD, L3.fMove, L3.fCall, L3.fCallW, L3.aNil, L3.aCons, L3.aIo, L3.toArg, L3.toArgs, L3.ios, L3.putBack, L3.derf, L3.derS, L3.derSs, L3.derL, L3.leaves, L3.derfs, L3.itemF, L3.binD, L3.cmpD, L3.truD, L3.R.bind, L3.isOwn, L3.fSeqL, L3.fSeqT, L3.fRange, L3.fEnum, L3.fYes, L3.fComp, L3.fListC, L3.fTupC, L3.gLen, L3.lenD, L3.gInt, L3.gAll, L3.gAny, L3.gMin, L3.gMax, L3.gNeg, L3.fIsi, L3.isiB, L2.tyD, L3.tgF, L3.tgFs, L2.noL])
namespace Wx
open PySem L2 L3
theorem mixed_ok (cf : CF) (a b : Int) : ∃ r, runI 4 [false, false] [] b_law_mixed cf [.d (.int a), .d (.int b)] = .ok (.d (.int r)) [none, none] := by
 simp! [b_law_mixed, OV.view, OV.views, seqF, ixN, atI]
 rw [if_pos]
 ·simp [outs]
 ·omega
noncomputable def MixedOk (cf : CF) : Prop := ∀ a b : Int, ∃ r, cf "_law_mixed" [.d (.int a), .d (.int b)] = .ok (.d (.int r)) [none, none]
noncomputable def IsBox (b : OV) : Prop := ∃ cells i l t s, 0 ≤ i ∧ b = boxV cells i l t s
noncomputable def TakeIs (b : OV) (n : Int) (x : RF) : Prop := ∃ (r : Int) (b' : OV), 0 ≤ r ∧ r < n ∧ IsBox b' ∧ x = .ok (.d (.int r)) [some b', none]
theorem take_ok (cf : CF) (hm : MixedOk cf) {b : OV} (hb : IsBox b) {n : Int} (h1 : 1 ≤ n) (h2 : n < 1073741824) : TakeIs b n (runI 4 [true, false] [0] b_law_take cf [b, .d (.int n)]) := by
 obtain ⟨cells, i, l, t, s, hi, rfl⟩ := hb
 have h0 : 0 < n := by omega
 have hp : ((10 : Int) ^ 18) = 1000000000000000000 := by decide
 by_cases hl : 0 < l
 ·refine ⟨l % n, boxV cells i (l / n) (t + 1) s, Int.emod_nonneg _ (by omega), Int.emod_lt_of_pos _ h0, ⟨_, _, _, _, _, hi, rfl⟩, ?_⟩
  simp! [b_law_take, boxV, hl, h0, h2, OV.view, OV.views, seqF, ixN, atI]
 ·by_cases hc : (cells.length : Int) ≤ i
  ·obtain ⟨r, er⟩ := hm s (t + 1)
   refine ⟨r % n, boxV cells i l (t + 1) s, Int.emod_nonneg _ (by omega), Int.emod_lt_of_pos _ h0, ⟨_, _, _, _, _, hi, rfl⟩, ?_⟩
   simp! [b_law_take, boxV, hl, hc, h0, h2, er, OV.view, OV.views, seqF, ixN, atI]
  ·have hix : i.toNat < cells.length := by omega
   have hlt : i < (cells.length : Int) := by omega
   have hg : cells[i.toNat]? = some cells[i.toNat] := List.getElem?_eq_getElem hix
   by_cases hs : cells[i.toNat] < 1000000000000000000
   ·obtain ⟨r, er⟩ := hm cells[i.toNat] (t + 1)
    refine ⟨r % n, boxV cells (i + 1) l (t + 1) s, Int.emod_nonneg _ (by omega), Int.emod_lt_of_pos _ h0, ⟨_, _, _, _, _, by omega, rfl⟩, ?_⟩
    simp! [b_law_take, boxV, hl, hc, h0, h2, hi, hlt, hg, hs, hp, er, OV.view, OV.views, seqF, ixN, atI]
   ·refine ⟨cells[i.toNat] % n, boxV cells (i + 1) (cells[i.toNat] / n) (t + 1) s, Int.emod_nonneg _ (by omega), Int.emod_lt_of_pos _ h0, ⟨_, _, _, _, _, by omega, rfl⟩, ?_⟩
    simp! [b_law_take, boxV, hl, hc, h0, h2, hi, hlt, hg, hs, hp, OV.view, OV.views, seqF, ixN, atI]
theorem loop_inv {t : IT} {body : SM} (I : List PyData → Gv → Prop) {ds : List PyData} {Γ : Gv} (h0 : I [] Γ)
  (hs : ∀ pre d post, ds = pre ++ d :: post → ∀ Γ, I pre Γ → ∃ Γ1 Γ2, tgF t d Γ = some Γ1 ∧ body Γ1 = .ok (.next, Γ2) ∧ I (pre ++ [d]) Γ2) : ∃ Γ', loopF t body ds Γ = .ok (.next, Γ') ∧ I ds Γ' := by
 suffices H : ∀ post pre Γ, ds = pre ++ post → I pre Γ → ∃ Γ', loopF t body post Γ = .ok (.next, Γ') ∧ I ds Γ' from H ds [] Γ rfl h0
 intro post
 induction post with
 | nil => intro pre Γ e h; rw [List.append_nil] at e; subst e; exact ⟨Γ, rfl, h⟩
 | cons d post ih =>
  intro pre Γ e h
  obtain ⟨Γ1, Γ2, e1, e2, h2⟩ := hs pre d post e Γ h
  obtain ⟨Γ', e3, h3⟩ := ih (pre ++ [d]) Γ2 (by rw [e]; simp) h2
  exact ⟨Γ', by rw [loopF, e1]; simp only [e2]; exact e3, h3⟩
theorem comp_inv {k : Nat} {t : IT} {cond : EM Bool} {elt : EM FV} (I : List PyData → List PyData → Gv → Prop) {ds : List PyData} {Γ : Gv} (h0 : I [] [] Γ)
  (hs : ∀ pre d post, ds = pre ++ d :: post → ∀ ys Γ, I pre ys Γ → ∃ Γ2 c Γ3, tgF t d (Γ ++ List.replicate k none) = some Γ2 ∧ cond Γ2 = .ok (c, Γ3) ∧ (c = true → ∃ u Γ4 y, elt Γ3 = .ok (u, Γ4) ∧ derS Γ4 u = some y ∧ I (pre ++ [d]) (ys ++ [y]) (Γ4.take Γ.length)) ∧ (c = false → I (pre ++ [d]) ys (Γ3.take Γ.length))) :
  ∃ ys Γ', loopC k t cond elt ds [] Γ = .ok (ys, Γ') ∧ I ds ys Γ' := by
 suffices H : ∀ post pre ys Γ, ds = pre ++ post → I pre ys Γ → ∃ ys' Γ', loopC k t cond elt post ys Γ = .ok (ys', Γ') ∧ I ds ys' Γ' from H ds [] [] Γ rfl h0
 intro post
 induction post with
 | nil => intro pre ys Γ e h; rw [List.append_nil] at e; subst e; exact ⟨ys, Γ, rfl, h⟩
 | cons d post ih =>
  intro pre ys Γ e h
  obtain ⟨Γ2, c, Γ3, e1, e2, ht, hf⟩ := hs pre d post e ys Γ h
  cases c with
  | true =>
   obtain ⟨u, Γ4, y, e3, e4, h5⟩ := ht rfl
   obtain ⟨ys', Γ', e6, h6⟩ := ih (pre ++ [d]) _ _ (by rw [e]; simp) h5
   have hit : itL elt Γ3 = .ok (y, Γ4) := by simp only [itL, e3, R.bind, e4]
   exact ⟨ys', Γ', by unfold loopC; rw [loopG, e1]; simp only [e2, hit]; exact e6, h6⟩
  | false =>
   obtain ⟨ys', Γ', e6, h6⟩ := ih (pre ++ [d]) _ _ (by rw [e]; simp) (hf rfl)
   exact ⟨ys', Γ', by unfold loopC; rw [loopG, e1]; simp only [e2]; exact e6, h6⟩
theorem comp_pure {k : Nat} {t : IT} {cond : EM Bool} {elt : EM FV} (p : PyData → Bool) (f : PyData → PyData) {ds : List PyData} {Γ : Gv}
  (hs : ∀ d ∈ ds, ∃ Γ2 Γ3, tgF t d (Γ ++ List.replicate k none) = some Γ2 ∧ cond Γ2 = .ok (p d, Γ3) ∧ Γ3.take Γ.length = Γ ∧ (p d = true → ∃ u Γ4, elt Γ3 = .ok (u, Γ4) ∧ derS Γ4 u = some (f d) ∧ Γ4.take Γ.length = Γ)) :
  loopC k t cond elt ds [] Γ = .ok ((ds.filter p).map f, Γ) := by
 obtain ⟨ys, Γ', e, hy, rfl⟩ := comp_inv (k := k) (t := t) (cond := cond) (elt := elt) (fun pre ys Γ' => ys = (pre.filter p).map f ∧ Γ' = Γ) (ds := ds) (Γ := Γ) ⟨rfl, rfl⟩ (by
  rintro pre d post e ys Γ' ⟨rfl, rfl⟩
  obtain ⟨Γ2, Γ3, e1, e2, e3, h⟩ := hs d (by rw [e]; simp)
  refine ⟨Γ2, p d, Γ3, e1, e2, fun hp => ?_, fun hp => ⟨by simp [List.filter_append, hp], e3⟩⟩
  obtain ⟨u, Γ4, e4, e5, e6⟩ := h hp
  exact ⟨u, Γ4, _, e4, e5, by simp [List.filter_append, hp], e6⟩)
 rw [e, hy]
noncomputable def TakeOk (cf : CF) : Prop := ∀ b, IsBox b → ∀ n : Int, 1 ≤ n → n < 1073741824 → TakeIs b n (cf "_law_take" [b, .d (.int n)])
end Wx
set_option maxHeartbeats 4000000
namespace Wx
open PySem L2 L3
noncomputable def intsD (xs : List Int) : PyData := .tuple (xs.map .int)
noncomputable def cellD (st : List Int) (w : Bool) (wi : List Int) : PyData := .tuple [intsD st, .bool w, intsD wi]
noncomputable def In9 (xs : List Int) : Prop := ∀ x ∈ xs, 0 ≤ x ∧ x ≤ 9
theorem In9.snoc {xs : List Int} {x : Int} (h : In9 xs) (h1 : 0 ≤ x) (h2 : x ≤ 9) : In9 (xs ++ [x]) := by
 intro y hy
 rcases List.mem_append.mp hy with hy | hy
 ·exact h y hy
 ·have : y = x := by simpa using hy
  subst this; exact ⟨h1, h2⟩
structure Cl where
 st : List Int
 w : Bool
 wi : List Int
noncomputable def Cl.D (c : Cl) : PyData := cellD c.st c.w c.wi
end Wx
set_option maxHeartbeats 4000000
namespace Wx
open PySem L2 L3
theorem lay_int (n : Nat) (i : Int) : lay n (.int i) = true := by cases n <;> rfl
theorem lay_bool (n : Nat) (i : Bool) : lay n (.bool i) = true := by cases n <;> rfl
theorem lay_list {n : Nat} {xs : List PyData} (h : ∀ x ∈ xs, lay n x = true) : lay (n + 1) (.list xs) = true := by rw [lay]; exact List.all_eq_true.mpr h
theorem eqv_lay {n : Nat} {d : PyData} (h : lay n d = true) : PyData.eqv d d = true := PySem.SeqAt.eqv_refl d (lay_ok n d h).1
theorem eqv_int (i j : Int) : PyData.eqv (.int i) (.int j) = (i == j) := rfl
noncomputable def lk (cs : List Cl) (d i : Nat) : Bool := match cs[i]? with
 | some c => decide (c.st.getD d 0 < c.wi.getD d 0)
 | none => false
theorem filter_tt {α : Type} (l : List α) : l.filter (fun _ => true) = l := List.filter_eq_self.mpr fun _ _ => rfl
end Wx
namespace Wx
open PySem L2 L3
noncomputable def xks : List Str := ["Barred", "NoDye", "Twice", "BadWish", "NoCell", "NoCloth", "BadSize", "Taken", "NoName", "NoChart", "NoHouse", "NoDeed", "NoMark", "NothingLeft", "TooDeep", "StillFresh", "Spent"]
noncomputable def b_law_kinds : IB := (.cons (.asg 1 1 (.dat (.new (.lst (.cons (.isx "NoName" xks false (.var 0 0)) (.cons (.isx "Taken" xks false (.var 0 0)) (.cons (.isx "BadSize" xks false (.var 0 0)) (.cons (.isx "NoCloth" xks false (.var 0 0)) (.cons (.isx "NoCell" xks false (.var 0 0)) (.cons (.isx "BadWish" xks false (.var 0 0)) .nil)))))))))) (.cons (.asg 2 2 (.dat (.new (.lst (.cons (.isx "Twice" xks false (.var 0 0)) (.cons (.isx "NoDye" xks false (.var 0 0)) (.cons (.isx "Spent" xks false (.var 0 0)) (.cons (.isx "StillFresh" xks false (.var 0 0)) (.cons (.isx "TooDeep" xks false (.var 0 0)) .nil))))))))) (.cons (.asg 3 3 (.dat (.new (.lst (.cons (.isx "NothingLeft" xks false (.var 0 0)) (.cons (.isx "NoMark" xks false (.var 0 0)) (.cons (.isx "NoDeed" xks false (.var 0 0)) (.cons (.isx "NoHouse" xks false (.var 0 0)) (.cons (.isx "NoChart" xks false (.var 0 0)) .nil))))))))) (.cons (.ret (.own (.cat (.new (.cat (.new (.cat (.var 1 1) (.var 2 2))) (.var 3 3))) (.new (.lst (.cons (.isx "Barred" xks false (.var 0 0)) .nil)))))) .nil))))
end Wx
set_option maxHeartbeats 4000000
namespace Wx
open PySem L2 L3
noncomputable def ks17 : List Str := ["NoName", "Taken", "BadSize", "NoCloth", "NoCell", "BadWish", "Twice", "NoDye", "Spent", "StillFresh", "TooDeep", "NothingLeft", "NoMark", "NoDeed", "NoHouse", "NoChart", "Barred"]
noncomputable def kd (c : Str) : List PyData := ks17.map fun x => .bool (decide (c = x))
noncomputable def KindsOk (cf : CF) : Prop := ∀ c ∈ xks, ∀ ds, cf "_law_kinds" [.d (excD c ds)] = .ok (.l ((kd c).map .d)) [none]
theorem isx_ok {c : Str} (hc : c ∈ xks) (ds : List (Str × PyData)) (x : Str) (b : Bool) : xcD xks x b (excD c ds) = some (b || decide (c = x)) := by
 unfold excD xcD
 simp [hc]
theorem kinds_ok (cf : CF) {c : Str} (hc : c ∈ xks) (ds : List (Str × PyData)) : runI 4 [false] [] b_law_kinds cf [.d (excD c ds)] = .ok (.l ((kd c).map .d)) [none] := by
 have h := isx_ok hc ds
 generalize excD c ds = d at h
 simp! [b_law_kinds, h, fIsx, fCat, kd, ks17]
theorem ks_range : ∀ k, k < 17 → (ks17.map fun x => PyData.bool (decide (ks17[k]? = some x))) = (List.range 17).map fun j => PyData.bool (decide (j = k)) := by
 intro k hk
 have : ∀ k : Fin 17, (ks17.map fun x => decide (ks17[k.val]? = some x)) = (List.range 17).map fun j => decide (j = k.val) := by decide +kernel
 have := congrArg (List.map PyData.bool) (this ⟨k, hk⟩)
 rw [List.map_map, List.map_map] at this
 exact this
theorem ks_kd {k : Nat} {c : Str} (h : ks17[k]? = some c) : kd c = (List.range 17).map fun j => PyData.bool (decide (j = k)) := by
 have hk : k < 17 := (List.getElem?_eq_some_iff.mp h).1
 rw [← ks_range k hk]
 unfold kd
 simp [h]
theorem view_dl (xs : List PyData) : (OV.l (xs.map .d)).view = .list xs := by rw [OV.view, OV.views_d]
theorem view_d1 (x : PyData) : (OV.d x).view = x := by rw [OV.view]
theorem ks_sub : ∀ c ∈ ks17, c ∈ xks := by decide +kernel
end Wx
namespace L3
open PySem L2
section
variable [Cs] {K : PySem.W.Frag} {mg : Str → Option Value} {h : Heap} {d : DefI}
theorem el1 {α : Type} {P : List α → Prop} (h : ∀ a0, P [a0]) : ∀ us : List α, us.length = 1 → P us := fun us e => by
 match us, e with
 | [a0], _ => exact h a0
theorem el2 {α : Type} {P : List α → Prop} (h : ∀ a0 a1, P [a0, a1]) : ∀ us : List α, us.length = 2 → P us := fun us e => by
 match us, e with
 | [a0, a1], _ => exact h a0 a1
noncomputable def biOk (K : PySem.W.Frag) (L : List Str) : Bool := L.all fun x => match PySem.W.nsIn K mainGlobals x with
 | some none => true
 | _ => false
theorem bi_all {L : List Str} (X : K.In h) (G : h.Ns mainGlobals mg) (hk : biOk K L = true) (x : Str) (hx : L.contains x = true) : mg x = none := by
 have := List.all_eq_true.mp hk x (List.elem_iff.mp hx)
 split at this
 ·exact PySem.W.mg_none_of X G (by assumption)
 ·cases this
noncomputable def giOk (K : PySem.W.Frag) (L : List (Str × Int)) : Bool := L.all fun p => match PySem.W.nsIn K mainGlobals p.1 with
 | some (some (.int i _)) => decide (i = p.2)
 | _ => false
theorem gi_of {L : List (Str × Int)} (X : K.In h) (G : h.Ns mainGlobals mg) (hk : giOk K L = true) (x : Str) (i : Int) (hx : L.contains (x, i) = true) : ∃ t, mg x = some (.int i t) := by
 have := List.all_eq_true.mp hk _ (List.elem_iff.mp hx)
 split at this
 ·rename_i e
  exact ⟨_, (PySem.W.mg_of X G e).trans (by rw [of_decide_eq_true this])⟩
 ·cases this
noncomputable def gsOk (K : PySem.W.Frag) (L : List (Str × Str)) : Bool := L.all fun p => match PySem.W.nsIn K mainGlobals p.1 with
 | some (some (.str i _)) => decide (i = p.2)
 | _ => false
theorem gs_of {L : List (Str × Str)} (X : K.In h) (G : h.Ns mainGlobals mg) (hk : gsOk K L = true) (x : Str) (i : Str) (hx : L.contains (x, i) = true) : ∃ t, mg x = some (.str i t) := by
 have := List.all_eq_true.mp hk _ (List.elem_iff.mp hx)
 split at this
 ·rename_i e
  exact ⟨_, (PySem.W.mg_of X G e).trans (by rw [of_decide_eq_true this])⟩
 ·cases this
noncomputable def exOk (K : PySem.W.Frag) (L : List Str) : Bool := L.all fun x => match PySem.W.nsIn K mainGlobals x with
 | some (some (.ref a)) => PySem.W.excIn K a bmV "ValueError.__new__" && L.all fun y => match PySem.W.nsIn K mainGlobals y with
  | some (some (.ref b)) => decide ((mroIn K a).contains (.ref b) = decide (x = y))
  | _ => false
 | _ => false
theorem ex_of {L : List Str} (X : K.In h) (G : h.Ns mainGlobals mg) (hk : exOk K L = true) : (∀ x, L.contains x = true → ∃ C, mg x = some (.ref C) ∧ PySem.W.excIn K C bmV "ValueError.__new__" = true) ∧ ∀ x C y C2, L.contains x = true → mg x = some (.ref C) → L.contains y = true → mg y = some (.ref C2) → (mroIn K C).contains (.ref C2) = decide (x = y) := by
 have hk := List.all_eq_true.mp hk
 refine ⟨fun x hx => ?_, fun x C y C2 hx e1 hy e2 => ?_⟩
 ·have := hk x (List.elem_iff.mp hx)
  split at this
  ·rename_i e
   simp only [Bool.and_eq_true] at this
   exact ⟨_, PySem.W.mg_of X G e, this.1⟩
  ·cases this
 ·have := hk x (List.elem_iff.mp hx)
  split at this
  ·rename_i e
   simp only [Bool.and_eq_true] at this
   have h2 := List.all_eq_true.mp this.2 y (List.elem_iff.mp hy)
   split at h2
   ·rename_i e'
    rw [PySem.W.mg_of X G e] at e1
    rw [PySem.W.mg_of X G e'] at e2
    cases e1
    cases e2
    exact of_decide_eq_true h2
   ·cases h2
  ·cases this
noncomputable def fkOk (K : PySem.W.Frag) (L : List (Str × Str)) : Bool := L.all fun p => match PySem.W.nsIn K mainGlobals p.1 with
 | some (some (.ref C)) => PySem.W.plainGet K C Str.empty && (PySem.W.hasDictIn K C && (PySem.W.plainOver K C && ((match PySem.W.findIn K (.ref C) "__setattr__" with
   | some (some (.builtin b)) => decide (b = "object.__setattr__")
   | _ => false) && match PySem.W.findIn K (.ref C) p.2 with
   | some none => true
   | _ => false)))
 | _ => false
theorem fk_all {L : List (Str × Str)} (X : K.In h) (G : h.Ns mainGlobals mg) (hk : fkOk K L = true) (c f : Str) (hx : L.contains (c, f) = true) : Cls K ((csOf mg).adr c) ∧ NoAttr K ((csOf mg).adr c) f := by
 have := List.all_eq_true.mp hk _ (List.elem_iff.mp hx)
 split at this
 ·rename_i e
  simp only [Bool.and_eq_true] at this
  obtain ⟨a1, a2, a3, a4, a5⟩ := this
  refine fk_of X G ⟨e, a1, a2, a3, ?_⟩ ?_
  ·split at a4
   ·rename_i e2
    rw [e2, of_decide_eq_true a4]
   ·cases a4
  ·split at a5
   ·assumption
   ·cases a5
 ·cases this
noncomputable def bar1B (wn sf : Str) (s : Stmt) : Bool := okO (usExpr s) fun z => okO (unMo z.1) fun (o, i, p2, xs, p5) => decide (i = "__init__") && (p2.endLine == p5.line) && okO (unName o) (fun w => decide (w.1 = wn)) && okO (two2 xs) fun ab => okO (unName ab.1) (fun q => decide (q.1 = sf)) && okO (unCon ab.2) fun cc => okO (cStr cc.1) fun _ => true
noncomputable def bar2B (sf a x : Str) (s : Stmt) : Bool := okO (unAs1 s) fun z => okO (unAtt z.1) (fun t => decide (t.2.1 = a) && okO (unName t.1) fun q => decide (q.1 = sf)) && okO (un1 z.2.1) fun (l, _, b, _) => decide (l = "list") && okO (unName b) fun q => decide (q.1 = x)
noncomputable def barTB (sc : Scope) (N : List Str) (wn a : Str) (body : List Stmt) : Bool := okO (two2 body) fun st => okO (N[0]?) fun sf => okO (N[1]?) fun x => bar1B wn sf st.1 && bar2B sf a x st.2 && visB sc sf && visB sc x && !(sf == ("__debug__" : Str)) && !(sf == ("__classdict__" : Str)) && !(x == ("__debug__" : Str)) && !(x == ("__classdict__" : Str)) && gloB sc wn && gloB sc "list" && !(wn == ("__debug__" : Str))
theorem bar1_inv {wn sf : Str} {s : Stmt} (h : bar1B wn sf s = true) : ∃ z j p1 p2 p3 p4 p5 p6, s = .Expr (.Call (.Attribute (.Name wn p1) "__init__" p2) [.Name sf p3, .Constant (.str z) j p4] [] p5) p6 ∧ (p2.endLine == p5.line) = true := by
 obtain ⟨⟨e, p6⟩, eu, g⟩ := okO_inv h
 clear h
 cases usExpr_inv eu
 have gz := okO_inv g
 clear g
 obtain ⟨⟨o, i, p2, xs, p5⟩, em, g⟩ := gz
 cases unMo_inv em
 simp only [Bool.and_eq_true, decide_eq_true_eq] at g
 obtain ⟨⟨⟨rfl, q⟩, g1⟩, g2⟩ := g
 have gz := okO_inv g1
 clear g1
 obtain ⟨⟨w, p1⟩, ew, g1⟩ := gz
 cases unName_inv ew
 obtain rfl : w = wn := of_decide_eq_true g1
 have gz := okO_inv g2
 clear g2
 obtain ⟨⟨a, b⟩, e2, g2⟩ := gz
 cases two2_inv e2
 simp only [Bool.and_eq_true] at g2
 obtain ⟨g2, g3⟩ := g2
 have gz := okO_inv g2
 clear g2
 obtain ⟨⟨s', p3⟩, es, g2⟩ := gz
 cases unName_inv es
 obtain rfl : s' = sf := of_decide_eq_true g2
 have gz := okO_inv g3
 clear g3
 obtain ⟨⟨cc, j, p4⟩, ec, g3⟩ := gz
 cases unCon_inv ec
 obtain ⟨z, ez, _⟩ := okO_inv g3
 cases cStr_inv ez
 exact ⟨z, j, p1, p2, p3, p4, p5, p6, rfl, q⟩
theorem bar2_inv {sf a x : Str} {s : Stmt} (h : bar2B sf a x s = true) : ∃ p7 p8 p9 p10 p11 p12, s = .Assign [.Attribute (.Name sf p7) a p8] (.Call (.Name "list" p9) [.Name x p10] [] p11) p12 := by
 obtain ⟨⟨tg, e, p12⟩, eu, g⟩ := okO_inv h
 clear h
 cases unAs1_inv eu
 simp only [Bool.and_eq_true] at g
 obtain ⟨g1, g2⟩ := g
 have gz := okO_inv g1
 clear g1
 obtain ⟨⟨o, f, p8⟩, eo, g1⟩ := gz
 cases unAtt_inv eo
 simp only [Bool.and_eq_true, decide_eq_true_eq] at g1
 obtain ⟨rfl, g1⟩ := g1
 have gz := okO_inv g1
 clear g1
 obtain ⟨⟨q, p7⟩, eq, g1⟩ := gz
 cases unName_inv eq
 obtain rfl : q = sf := of_decide_eq_true g1
 have gz := okO_inv g2
 clear g2
 obtain ⟨⟨l, p9, b, p11⟩, el, g2⟩ := gz
 cases un1_inv el
 simp only [Bool.and_eq_true, decide_eq_true_eq] at g2
 obtain ⟨rfl, g2⟩ := g2
 have gz := okO_inv g2
 clear g2
 obtain ⟨⟨y, p10⟩, ey, g2⟩ := gz
 cases unName_inv ey
 obtain rfl : y = x := of_decide_eq_true g2
 exact ⟨p7, p8, p9, p10, p11, p12, rfl⟩
theorem vis_of {sc : Scope} {x : Str} (h : visB sc x = true) : Vis sc x := by
 unfold visB at h
 simp only [Bool.or_eq_true, decide_eq_true_eq] at h
 rcases h with (h | h) | h
 ·exact .inl h
 ·exact .inr (.inl h)
 ·exact .inr (.inr h)
theorem BarT.of {sc : Scope} {N : List Str} {wn a : Str} {body : List Stmt} (h : barTB sc N wn a body = true) : BarT sc N wn a body := by
 obtain ⟨⟨s1, s2⟩, eb, g⟩ := okO_inv h
 clear h
 cases two2_inv eb
 have gz := okO_inv g
 clear g
 obtain ⟨sf, n0, g⟩ := gz
 have gz := okO_inv g
 clear g
 obtain ⟨x, n1, g⟩ := gz
 simp only [Bool.and_eq_true, Bool.not_eq_true'] at g
 obtain ⟨⟨⟨⟨⟨⟨⟨⟨⟨⟨b1, b2⟩, v0⟩, v1⟩, d0⟩, c0⟩, d1⟩, c1⟩, g1⟩, g2⟩, nd⟩ := g
 obtain ⟨z, j, p1, p2, p3, p4, p5, p6, rfl, q⟩ := bar1_inv b1
 obtain ⟨p7, p8, p9, p10, p11, p12, rfl⟩ := bar2_inv b2
 unfold gloB at g1 g2
 exact ⟨⟨sf, x, z, j, p1, p2, p3, p4, p5, p6, p7, p8, p9, p10, p11, p12, rfl, q, n0, n1, vis_of v0, vis_of v1, d0, c0, d1, c1⟩, of_decide_eq_true g1, of_decide_eq_true g2, nd⟩
structure Db (K : PySem.W.Frag) (c wn a : Str) : Prop where
 ex : ∃ (C f A : Addr) (fd : FuncData) (ps : List Str) (q : Str) (st : Stmt), PySem.W.nsIn K mainGlobals c = some (some (.ref C)) ∧ PySem.W.nsIn K mainGlobals wn = some (some (.ref A)) ∧ Fun K "__init__" q st f fd ∧ Binds K fd ps [] ∧ scopeB ps ps (defScope st) = true ∧ ps.length = 2 ∧ barIn K C f A a = true ∧ barTB (defScope st) ps wn a (defBody st) = true
theorem Db.of {c wn a q : Str} {st : Stmt} {ps : List Str} {C f A : Addr} {oc : Value} {od an : Option Addr} {sl : Array (Option Value)} {kV dc pm cd ct : Value} (n1 : PySem.W.nsIn K mainGlobals c = some (some (.ref C))) (n2 : PySem.W.nsIn K mainGlobals wn = some (some (.ref A))) (ff : PySem.W.findIn K (.ref C) "__init__" = some (some (.ref f)))
  (l : K.lookup f = some ⟨oc, od, .func (PySem.W.fnOf "__init__" q (defArgs st) (defBody st) (defScope st) .none kV dc pm an cd ct), sl⟩) (e : PySem.W.codeIn K cd q = true) (k : PySem.W.keepIn K (.ref f) = true)
  (hb : ∀ (kV doc pm : Value) (an : Option Addr) (cdv ct : Value) (us : List Value), us.length = ps.length → bindArgs (PySem.W.fnOf "__init__" q (defArgs st) (defBody st) (defScope st) .none kV doc pm an cdv ct) ⟨us, []⟩ = pure (ps.zip us)) (hs : scopeB ps ps (defScope st) = true) (hp : ps.length = 2) (b : barIn K C f A a = true) (t : barTB (defScope st) ps wn a (defBody st) = true) : Db K c wn a :=
 ⟨C, f, A, _, ps, q, st, n1, n2, fun_mk (st := st) l e k, (fun_mk (st := st) l e k).binds hb, hs, hp, b, t⟩
theorem br_of {P : Program} {w : World} {base : Heap} {c wn a : Str} (X : K.In h) (G : h.Ns mainGlobals mg) (hl : mg "list" = none) (D : Db K c wn a) : ∃ C f A, KnB P w K mg base c a 2 C f A := by
 obtain ⟨C, f, A, fd, ps, q, st, n1, n2, F, hb, hs, hp, b, t⟩ := D.ex
 exact ⟨C, f, A, PySem.W.mg_of X G n1, .of b, 1, fd, ps, by omega, hp, bar_fn (k := 0) F (scope_of hs) hp (.of b) (BarT.of t) (PySem.W.mg_of X G n2) hl, hb⟩
noncomputable def xmOk (K : PySem.W.Frag) (L : List Str) (T : List (Str × Bool)) : Bool := L.all (fun c => match PySem.W.nsIn K mainGlobals c with
  | some (some (.ref C)) => xcIn K C
  | _ => false) && T.all fun p => match PySem.W.nsIn K mainGlobals p.1 with
  | some (some (.ref C)) => L.all fun c0 => match PySem.W.nsIn K mainGlobals c0 with
   | some (some (.ref C0)) => decide (PySem.W.kitOne K (.ref C0) (.ref C) = some (p.2 || decide (c0 = p.1)))
   | _ => false
  | some none => decide (p.1 = "ValueError") && L.all fun c0 => match PySem.W.nsIn K mainGlobals c0 with
   | some (some (.ref C0)) => decide (PySem.W.kitOne K (.ref C0) (.type "ValueError") = some (p.2 || decide (c0 = p.1)))
   | _ => false
  | _ => false
theorem boot_ve : bootBuiltins "ValueError" = some (.type "ValueError") := by decide +kernel
theorem xm_of {W : Wd} (X : K.In h) (G : h.Ns mainGlobals mg) (hk : xmOk K W.xm W.xt = true) : @XmK (csOf mg) K mg W := by
 letI := csOf mg
 unfold xmOk at hk
 rw [Bool.and_eq_true] at hk
 obtain ⟨h1, h2⟩ := hk
 have cl : ∀ c, c ∈ W.xm → ∃ C, PySem.W.nsIn K mainGlobals c = some (some (.ref C)) ∧ mg c = some (.ref C) ∧ (csOf mg).adr c = C ∧ XcK K C := fun c hc => by
  have := List.all_eq_true.mp h1 c hc
  split at this
  ·rename_i C e
   have hm := PySem.W.mg_of X G e
   exact ⟨C, e, hm, csOf_at hm, .of this⟩
  ·cases this
 refine ⟨fun c hc => ?_, fun c b hc => ?_⟩
 ·obtain ⟨C, _, hm, ha, k⟩ := cl c (List.elem_iff.mp hc)
  rw [ha]
  exact ⟨hm, k⟩
 ·have := List.all_eq_true.mp h2 (c, b) (List.elem_iff.mp hc)
  split at this
  ·rename_i C e
   refine ⟨.ref C, .inl ⟨C, PySem.W.mg_of X G e, rfl⟩, fun c0 h0 => ?_⟩
   obtain ⟨C0, e0, _, ha, k⟩ := cl c0 h0
   have t := List.all_eq_true.mp this c0 h0
   rw [e0] at t
   rw [ha]
   exact ⟨k, of_decide_eq_true t⟩
  ·rename_i e
   rw [Bool.and_eq_true] at this
   obtain ⟨t1, t2⟩ := this
   have e1 : c = "ValueError" := of_decide_eq_true t1
   subst e1
   refine ⟨.type "ValueError", .inr ⟨PySem.W.mg_none_of X G e, by decide, _, boot_ve, rfl⟩, fun c0 h0 => ?_⟩
   obtain ⟨C0, e0, _, ha, k⟩ := cl c0 h0
   have t := List.all_eq_true.mp t2 c0 h0
   rw [e0] at t
   rw [ha]
   exact ⟨k, of_decide_eq_true t⟩
  ·cases this
noncomputable def AllX (K : PySem.W.Frag) (mg : Str → Option Value) : List DefI → Prop
 | [] => True
 | d :: r => @Dx (csOf mg) K mg d ∧ AllX K mg r
theorem dx_all {W : Wd} : {L : List DefI} → AllX K mg L → (L.all fun d => d.ok W) = true → ∀ d ∈ L, @Dx (csOf mg) K mg d ∧ d.ok W = true
 | [], _, _ => fun d hd => nomatch hd
 | e :: r, a, ok => fun d hd => by
  simp only [List.all_cons, Bool.and_eq_true] at ok
  rcases List.mem_cons.mp hd with rfl | hd
  ·exact ⟨a.1, ok.1⟩
  ·exact dx_all a.2 ok.2 d hd
end
end L3
set_option maxHeartbeats 4000000
namespace Wx
open PySem L2 L3
noncomputable def top (i : Nat) : Stmt := PySem.Challenge.pw_waxcloth_k06_refusals_apart.main.body.getD i (.Pass ⟨0, 0, 0, 0⟩)
noncomputable def mtop (i j : Nat) : Stmt := match top i with
 | .ClassDef _ _ _ b _ _ _ _ _ _ _ => b.getD j (.Pass ⟨0, 0, 0, 0⟩)
 | s => s
noncomputable def d_law_mixed : DefI := ⟨"_law_mixed", top 21, ["_law_number", "_law_turn"], ["_law_number", "_law_turn", "_law_one", "_law_two"], [false, false], [], b_law_mixed, .fn⟩
noncomputable def d_law_take : DefI := ⟨"_law_take", top 22, ["_law_box_here", "_law_many"], ["_law_box_here", "_law_many", "_law_left", "_law_cell"], [true, false], [0], b_law_take, .fn⟩
noncomputable def d_law_kinds : DefI := ⟨"_law_kinds", top 23, ["_law_e"], ["_law_e", "_law_first", "_law_second", "_law_third"], [false], [], b_law_kinds, .fn⟩
noncomputable def lawB_1 : IE := (.tup (.cons (.cstr "spare") (.cons (.call (.call "_law_take" 2 (.io 1 1 (.cons (.cint 41) .nil)))) (.cons (.call (.call "_law_take" 2 (.io 1 1 (.cons (.cint 12) .nil)))) .nil))))
noncomputable def lawB_2 : IE := (.cmp .Eq (.var 0 8) (.var 1 6))
noncomputable def lawB_3 : IB := (.cons (.ite (.or (.not (.isx "WaxError" xks true (.var 7 7))) (.not (.isx "ValueError" xks true (.var 7 7)))) (.cons (.ret (.dat (.cbool false))) .nil) .nil) (.cons (.ite (.cmp .NotEq (.call (.call "_law_kinds" 1 (.cons (.var 7 7) .nil))) (.new (.comp 8 1 [6] ["_law_j", "_law_k"] (.nm 0 8) (.range (.cint 17)) .yes lawB_2))) (.cons (.ret (.dat (.cbool false))) .nil) .nil) .nil))
noncomputable def defs : List DefI := [d_law_mixed, d_law_take, d_law_kinds]
noncomputable def lawB : IB := (.cons (.asg 2 2 (.dat (.new (.comp 8 1 [1] ["_law_k", "_law_box_here"] (.nm 0 8) (.range (.call (.call "_law_take" 2 (.io 1 1 (.cons (.cint 6) .nil))))) .yes lawB_1)))) (.cons (.asg 3 3 (.own (.list (.var 2 2)))) (.cons (.asg 4 4 (.dat (.mkb "Barred" "bars" (.var 3 3)))) (.cons (.app 3 3 (.tup (.cons (.cstr "deep") (.cons (.cint 0) (.cons (.cint 0) .nil))))) (.cons (.asg 5 5 (.dat (.new (.lst (.cons (.mkx "NoName") (.cons (.mkx "Taken") (.cons (.mkx "BadSize") (.cons (.mkx "NoCloth") (.cons (.mkx "NoCell") (.cons (.mkx "BadWish") (.cons (.mkx "Twice") (.cons (.mkx "NoDye") .nil)))))))))))) (.cons (.asg 5 5 (.dat (.new (.cat (.var 5 5) (.new (.lst (.cons (.mkx "Spent") (.cons (.mkx "StillFresh") (.cons (.mkx "TooDeep") (.cons (.mkx "NothingLeft") (.cons (.mkx "NoMark") (.cons (.mkx "NoDeed") (.cons (.mkx "NoHouse") (.cons (.mkx "NoChart") .nil)))))))))))))) (.cons (.asg 5 5 (.dat (.new (.cat (.var 5 5) (.new (.lst (.cons (.var 4 4) .nil))))))) (.cons (.loop (.tp (.cons (.nm 6 6) (.cons (.nm 7 7) .nil))) (.enum (.var 5 5)) lawB_3) (.cons (.ret (.dat (.and (.isi "list" (.atx "Barred" "bars" (.var 4 4))) (.cmp .Eq (.atx "Barred" "bars" (.var 4 4)) (.var 2 2))))) .nil)))))))))
noncomputable def W : Wd := ⟨["enumerate", "isinstance", "len", "list", "range"], [], [], [("_law_mixed", 2), ("_law_take", 2), ("_law_kinds", 1)], ["BadSize", "BadWish", "NoCell", "NoChart", "NoCloth", "NoDeed", "NoDye", "NoHouse", "NoMark", "NoName", "NothingLeft", "Spent", "StillFresh", "Taken", "TooDeep", "Twice"], [], [], [], [], [("Barred", "bars")], xks, [("BadSize", false), ("BadWish", false), ("Barred", false), ("NoCell", false), ("NoChart", false), ("NoCloth", false), ("NoDeed", false), ("NoDye", false), ("NoHouse", false), ("NoMark", false), ("NoName", false), ("NothingLeft", false), ("Spent", false), ("StillFresh", false), ("Taken", false), ("TooDeep", false), ("Twice", false), ("ValueError", true), ("WaxError", true)]⟩
noncomputable abbrev sBox : Stmt := top 20
noncomputable abbrev sLaw : Stmt := top 24
noncomputable def LN : List Str := ["_law_script", "_law_box_here", "_law_rows", "_law_handed", "_law_barred", "_law_made", "_law_k", "_law_one"]
theorem okLaw : lawB.chk W (defScope sLaw) LN (List.range LN.length) LN.length 0 (defBody sLaw).tail = true := by kernel_rfl
structure Ok06 (cf : CF) : Prop where
 take : TakeOk cf
 kinds : KindsOk cf
theorem ok06 (n : Nat) : Ok06 (callN defs (n + 20)) := by
 have hmixed : ∀ k, MixedOk (callN defs (k + 1)) := fun k a b => mixed_ok (callN defs k) a b
 have htake : ∀ k, TakeOk (callN defs (k + 2)) := fun k b hb n h1 h2 => take_ok (callN defs (k + 1)) (hmixed k) hb h1 h2
 have hkinds : ∀ k, KindsOk (callN defs (k + 1)) := fun k c hc ds => kinds_ok (callN defs k) hc ds
 exact ⟨htake (n + 18), hkinds (n + 19)⟩
theorem rows06 (cf : CF) (ht : TakeOk cf) {b : OV} (hb : IsBox b) {n : Nat} :
  ∃ (rows : List (Int × Int)) (b' : OV), rows.length = n ∧ IsBox b' ∧ loopC 1 (.nm 0 8) fYes (lawB_1.ev cf).1 (rangeD n) [] [none, some b, none, none, none, none, none, none] = .ok (rows.map fun p => .tuple [.str "spare", .int p.1, .int p.2], [none, some b', none, none, none, none, none, none]) := by
 obtain ⟨ys, Γ', e, ⟨rows, b', hp, hb', rfl, rfl⟩⟩ := comp_inv (k := 1) (t := .nm 0 8) (cond := fYes) (elt := (lawB_1.ev cf).1) (ds := rangeD n) (Γ := [none, some b, none, none, none, none, none, none])
  (fun pre ys Γ => ∃ (rows : List (Int × Int)) (b' : OV), rows.length = pre.length ∧ IsBox b' ∧ ys = rows.map (fun p => .tuple [.str "spare", .int p.1, .int p.2]) ∧ Γ = [none, some b', none, none, none, none, none, none]) ⟨[], b, rfl, hb, rfl, rfl⟩ (by
   rintro pre d post e ys Γ ⟨rows, b1, hp, hb1, rfl, rfl⟩
   refine ⟨_, true, _, by simp [tgF]; rfl, rfl, fun _ => ?_, fun z => nomatch z⟩
   obtain ⟨r1, b2, h1, h1', hb2, e2⟩ := ht b1 hb1 41 (by decide) (by decide)
   obtain ⟨r2, b3, h2, h2', hb3, e3⟩ := ht b2 hb2 12 (by decide) (by decide)
   refine ⟨.dat (.tuple [.str "spare", .int r1, .int r2]), [none, some b3, none, none, none, none, none, none, some (.d d)], _, ?_, rfl, rows ++ [(r1, r2)], b3, by simp [hp], hb3, by simp, by simp⟩
   simp! [lawB_1, e2, e3, OV.view, OV.views, seqF, ixN, atI])
 rw [rangeD_length] at hp
 exact ⟨rows, b', hp, hb', e⟩
theorem same06 (cf : CF) {k : Nat} {o0 o1 o2 o3 o4 o5 o7 : Option OV} : loopC 1 (.nm 0 8) fYes (lawB_2.ev cf).1 (rangeD 17) [] [o0, o1, o2, o3, o4, o5, some (.d (.int k)), o7] = .ok ((List.range 17).map (fun j => .bool (decide (j = k))), [o0, o1, o2, o3, o4, o5, some (.d (.int k)), o7]) := by
 have e := comp_pure (k := 1) (t := .nm 0 8) (cond := fYes) (elt := (lawB_2.ev cf).1) (ds := rangeD 17) (Γ := [o0, o1, o2, o3, o4, o5, some (.d (.int k)), o7]) (fun _ => true) (fun d => match d with
  | .int j => .bool (decide (j = (k : Int)))
  | _ => .none) (by
  intro x hx
  obtain ⟨j, _, rfl⟩ := List.mem_map.mp hx
  refine ⟨_, _, by simp [tgF]; rfl, rfl, by simp, fun _ => ⟨.dat (.bool (decide ((j : Int) = (k : Int)))), [o0, o1, o2, o3, o4, o5, some (.d (.int k)), o7, some (.d (.int j))], ?_, rfl, by simp⟩⟩
  simp! [lawB_2, lay_int, eqv_int, OV.view, OV.views, seqF]
  rfl)
 have e2 : ((rangeD 17).map fun d => match d with
  | .int j => PyData.bool (decide (j = (k : Int)))
  | _ => .none) = (List.range 17).map (fun j => .bool (decide (j = k))) := by
  unfold rangeD
  rw [List.map_map]
  refine List.map_congr_left fun j _ => ?_
  show PyData.bool (decide ((j : Int) = (k : Int))) = _
  rw [decide_eq_decide.mpr (Int.ofNat_inj (m := j) (n := k))]
 rw [e, filter_tt, e2]
theorem step06 (cf : CF) (hk : KindsOk cf) {c : Str} {ds : List (Str × PyData)} {k : Nat} (h : ks17[k]? = some c) {o0 o1 o2 o3 o4 o5 : Option OV} :
  lawB_3.ex cf [] [o0, o1, o2, o3, o4, o5, some (.d (.int k)), some (.d (excD c ds))] = .ok (.next, [o0, o1, o2, o3, o4, o5, some (.d (.int k)), some (.d (excD c ds))]) := by
 have hc := ks_sub c (List.mem_of_getElem? h)
 have e1 := isx_ok hc ds
 have e2 := hk c hc ds
 rw [ks_kd h] at e2
 have e3 := same06 cf (k := k) (o0 := o0) (o1 := o1) (o2 := o2) (o3 := o3) (o4 := o4) (o5 := o5) (o7 := some (.d (excD c ds)))
 have hy : lay 20 (.list ((List.range 17).map fun j => PyData.bool (decide (j = k)))) = true := lay_list fun x hx => by
  obtain ⟨i, _, rfl⟩ := List.mem_map.mp hx
  exact lay_bool _ _
 have hq := eqv_lay hy
 generalize (List.range 17).map (fun j => PyData.bool (decide (j = k))) = L at *
 generalize excD c ds = d at *
 unfold lawB_3
 generalize lawB_2 = E2 at *
 simp! [e1, e2, e3, hy, hq, fIsx, rangeD_length, view_dl]
noncomputable def mk06 (rows : List PyData) : List PyData := ks17.map fun c => if c = ("Barred" : Str) then excD c [("bars", .list rows)] else excD c []
theorem mk_at {rows : List PyData} {k : Nat} {d : PyData} (h : (mk06 rows)[k]? = some d) : ∃ c ds, ks17[k]? = some c ∧ d = excD c ds := by
 unfold mk06 at h
 rw [List.getElem?_map] at h
 cases q : ks17[k]? with
 | none => rw [q] at h; cases h
 | some c =>
  rw [q] at h
  simp only [Option.map_some, Option.some.injEq] at h
  by_cases hc : c = ("Barred" : Str)
  ·rw [if_pos hc] at h; exact ⟨c, _, rfl, h.symm⟩
  ·rw [if_neg hc] at h; exact ⟨c, _, rfl, h.symm⟩
theorem loop06 (cf : CF) (hk : KindsOk cf) (rows : List PyData) {o0 o1 o2 o3 o4 o5 : Option OV} : ∃ o6 o7, loopF (.tp (.cons (.nm 6 6) (.cons (.nm 7 7) .nil))) (lawB_3.ex cf []) (enumD (mk06 rows)) [o0, o1, o2, o3, o4, o5, none, none] = .ok (.next, [o0, o1, o2, o3, o4, o5, o6, o7]) := by
 obtain ⟨Γ', e, ⟨o6, o7, rfl⟩⟩ := loop_inv (t := .tp (.cons (.nm 6 6) (.cons (.nm 7 7) .nil))) (body := lawB_3.ex cf []) (ds := enumD (mk06 rows)) (Γ := [o0, o1, o2, o3, o4, o5, none, none])
  (fun pre Γ => ∃ o6 o7, Γ = [o0, o1, o2, o3, o4, o5, o6, o7]) ⟨none, none, rfl⟩ (by
   rintro pre d post e Γ ⟨o6, o7, rfl⟩
   have hd : (enumD (mk06 rows))[pre.length]? = some d := by rw [e]; simp
   obtain ⟨x, hx, rfl⟩ := enumD_get hd
   obtain ⟨c, ds, hc, rfl⟩ := mk_at hx
   refine ⟨[o0, o1, o2, o3, o4, o5, some (.d (.int pre.length)), some (.d (excD c ds))], _, ?_, step06 cf hk hc, _, _, rfl⟩
   simp [tgF, tgFs])
 exact ⟨o6, o7, e⟩
theorem law_run (cf : CF) (h : Ok06 cf) (cells : List Int) (i l t s : Int) (hi : 0 ≤ i) : ∃ Γ', lawB.ex cf [] (none :: some (boxV cells i l t s) :: List.replicate (LN.length - 2) none) = .ok (.ret (.d (.bool true)), Γ') := by
 have hB : IsBox (boxV cells i l t s) := ⟨_, _, _, _, _, hi, rfl⟩
 generalize boxV cells i l t s = b at hB
 obtain ⟨r1, b1, h1, h1', hb1, e1⟩ := h.take b hB 6 (by decide) (by decide)
 obtain ⟨n, rfl⟩ := Int.eq_ofNat_of_zero_le h1
 obtain ⟨rows, b2, hl, hb2, e2⟩ := rows06 cf h.take hb1 (n := n)
 have zr : -1000000 ≤ (n : Int) ∧ (n : Int) ≤ 1000000 := by omega
 have zn : n ≤ 1000000 := by omega
 have hy : lay 20 (.list (rows.map fun p => .tuple [.str "spare", .int p.1, .int p.2])) = true := lay_list fun x hx => by
  obtain ⟨p, _, rfl⟩ := List.mem_map.mp hx
  simp [lay]
  decide +kernel
 have hq := eqv_lay hy
 have hlR : (rows.map fun p => PyData.tuple [.str "spare", .int p.1, .int p.2]).length = n := by simp [hl]
 have hl2 : (rows.map fun p => PyData.tuple [.str "spare", .int p.1, .int p.2]).length ≤ 1000000 := by simp; omega
 generalize rows.map (fun p => PyData.tuple [.str "spare", .int p.1, .int p.2]) = RR at *
 have lv := leaves_d RR
 obtain ⟨o6, o7, e3⟩ := loop06 cf h.kinds RR (o0 := none) (o1 := some b2) (o2 := some (.d (.list RR))) (o3 := some (.l (RR.map .d ++ [.d (.tuple [.str "deep", .int 0, .int 0])]))) (o4 := some (.d (excD "Barred" [("bars", .list RR)]))) (o5 := some (.d (.list (mk06 RR))))
 have em : [excD "NoName" [], excD "Taken" [], excD "BadSize" [], excD "NoCloth" [], excD "NoCell" [], excD "BadWish" [], excD "Twice" [], excD "NoDye" [], excD "Spent" [], excD "StillFresh" [], excD "TooDeep" [], excD "NothingLeft" [], excD "NoMark" [], excD "NoDeed" [], excD "NoHouse" [], excD "NoChart" [], excD "Barred" [("bars", .list RR)]] = mk06 RR := rfl
 have ax : atxD "Barred" "bars" (excD "Barred" [("bars", .list RR)]) = some (.list RR) := rfl
 have hm : (mk06 RR).length ≤ 1000000 := by simp [mk06, ks17]
 have hm' : (enumD (mk06 RR)).length ≤ 1000000 := by rw [enumD_len]; exact hm
 have hl3 : RR.length < 1000000 := by rw [hlR]; omega
 have g1 : ∀ Γ, seqF Γ (.dat (.list RR)) = some RR := fun _ => rfl
 generalize mk06 RR = MK at *
 unfold lawB
 generalize lawB_1 = L1 at *
 generalize lawB_3 = BB3 at *
 simp only [LN, List.length_cons, List.length_nil]
 simp! [e1, e2, e3, em, g1, hl3, ax, hm, hm', hy, hq, hl2, lv, zr, zn, rangeD_length, fMkb, fAtx, fCat, lay_int, eqv_int, view_d1]
section
variable [L2.Cs] {P : Program} {w : World} {K : PySem.W.Frag} {mg : Str → Option Value} {base : Heap}
theorem cutV_map (ns : List Int) (lo hi : Option Int) : ∃ ms : List Int, cutV (ns.map V.int) lo hi = ms.map V.int ∧ ms.length ≤ ns.length := by
 refine ⟨(ns.drop (HT.sIx (ns.map V.int).length 0 lo)).take (HT.sIx (ns.map V.int).length (ns.map V.int).length hi - HT.sIx (ns.map V.int).length 0 lo), ?_, ?_⟩
 ·unfold cutV
  rw [List.map_take, List.map_drop]
 ·rw [List.length_take, List.length_drop]; omega
theorem scBox : FnScope ["_law_script", "_law_seed", "_law_cell"] ["_law_script"] (defScope sBox) := ⟨rfl, rfl, rfl, by decide +kernel, rfl, by decide +kernel, by decide +kernel⟩
theorem kn_box (D : Df K mg "_law_box" sBox ["_law_script"]) (B : mg "list" = none) : Kn P w K mg base CX0 "_law_box" 1 (spBox K) :=
 D.kn (k := 0) scBox (fun vs H Q E ⟨a, ns, e, _⟩ => by rw [e]; rfl) fun f cdv A outer s H vs Q E hr ⟨a, ns, e, hS, hlen, kk⟩ => by
  subst e
  refine PSs.wp (pss_cons (ps_set (i := 1) scBox.nd rfl (Or.inl rfl) pe_int)
   (pss_cons (ps_for PassesOwn.never rfl (pi_list (pe_slice sl_list (pv 0) po_none (po_some pe_int))) (pg_name (i := 2) scBox.nd rfl (Or.inl rfl))
    (pss_one (ps_set (i := 1) scBox.nd rfl (Or.inl rfl) (pe_op op_mod (pe_op op_add (pe_op op_add (pe_op op_mul (pv 1) pe_int) (pv 2)) pe_int) pe_int))))
   (pss_one (ps_ret (pe_lst (pa_cons (pe_callTy call_list_of rfl B boot_listW (pa_cons (pe_slice sl_list (pv 0) po_none (po_some pe_int)) pa_nil)) (pa_cons pe_int (pa_cons pe_int (pa_cons pe_int (pa_cons (pv 1) pa_nil)))))))))) ?_
  obtain ⟨ms, ems, hms⟩ := cutV_map ns none (some 63)
  refine ⟨_, rfl, _, rfl, a, _, rfl, hS, fun q nq => ⟨q, rfl, ⟨_, SqL.of upd_same⟩, for_list (K := K) (a := q) (xs := cutV (ns.map V.int) none (some 63)) (fun i σ H2 => H2 = upd H q (.lst (cutV (ns.map V.int) none (some 63))) ∧ ∃ sd v, σ = [some (.ref a), some (.int sd), v])
   ⟨rfl, 0, none, rfl⟩ (fun i σ H2 _ ⟨e, _⟩ => by rw [e]; exact SqL.of upd_same) ?_ ?_⟩⟩
  ·rintro i x σ H2 hx ⟨rfl, sd, v, rfl⟩
   obtain ⟨z, rfl⟩ : ∃ z, x = V.int z := by
    rw [ems] at hx
    have := List.mem_of_getElem? hx
    obtain ⟨z, _, rfl⟩ := List.mem_map.mp this
    exact ⟨z, rfl⟩
   refine ⟨_, rfl, _, _, rfl, rfl, .inr (by decide), _, rfl, _, _, rfl, rfl, _, _, rfl, rfl, _, _, rfl, rfl, (by show (0 : Int) < 2147483647; decide), ?_⟩
   exact ⟨rfl, _, _, rfl⟩
  ·rintro σ H2 ⟨rfl, sd, v, rfl⟩
   have s1 : Same H (upd H q (.lst (cutV (ns.map V.int) none (some 63)))) := upd_new nq
   refine ⟨_, rfl, _, rfl, a, _, rfl, s1.seq hS, fun q2 nq2 => ⟨q2, _, rfl, .inl (SqL.of upd_same), fun l nl => ⟨_, rfl, (by show 5 ≤ sizeLine; decide), fun b nb => ?_⟩⟩⟩
   have s2 := s1.trans (upd_new (o := .lst (cutV (ns.map V.int) none (some 63))) nq2)
   have s3 := s2.trans (upd_new (o := .lst (cutV (ns.map V.int) none (some 63))) nl)
   have hlb : l ≠ b := fun e => by rw [← e, upd_same] at nb; cases nb
   refine kk b _ (s3.trans (upd_new nb)) (s3.free nb) (by rw [upd_same]; exact fun z => nomatch z) ⟨l, ms, 0, 0, 0, sd, rfl, upd_same, ?_, Int.le_refl 0⟩
   refine .list (vs := ms.map V.int) (by rw [upd_ne hlb, upd_same, ems]) hlb (RepL.ints ms)
theorem hw : wOk defs W = true := by kernel_rfl
theorem hgd : ∀ x kf, W.gd.contains (x, kf) = true → GD w K mg x kf := fun x kf h => nomatch h
theorem hbr (B0 : ∃ C f A, KnB P w K mg base "Barred" "bars" 2 C f A) : ∀ c a, W.br.contains (c, a) = true → ∃ C f A, KnB P w K mg base c a 2 C f A := by
 intro x kf h
 have h2 := List.elem_iff.mp h
 simp only [W, List.mem_cons, List.not_mem_nil, or_false, Prod.mk.injEq] at h2
 obtain ⟨rfl, rfl⟩ := h2
 ·exact B0
theorem okS : scopeB LN ["_law_script"] (defScope sLaw) = true := by kernel_rfl
theorem oks : (defs.all fun d => d.ok W) = true := by kernel_rfl
theorem hdd {h : Heap} (X : K.In h) (G : h.Ns mainGlobals mg) (D0 : Df K mg "_law_mixed" (top 21) ["_law_number", "_law_turn"]) (D1 : Df K mg "_law_take" (top 22) ["_law_box_here", "_law_many"]) (D2 : Df K mg "_law_kinds" (top 23) ["_law_e"]) : AllX K mg defs := ⟨dx_fn rfl D0, dx_fn rfl D1, dx_fn rfl D2, trivial⟩
end
noncomputable def dP (s : Stmt) : Arguments := match s with
 | .FunctionDef _ a _ _ _ _ _ _ _ _ => a
 | _ => ⟨[], [], none, [], [], none, []⟩
noncomputable abbrev dB := L2.defBody
noncomputable abbrev dS := L2.defScope
noncomputable abbrev dE (P : PySem.Params) (n : Str) (t : Nat) (v : Value) : DictEntry := .mk (PySem.PyData.keyHash P n) (.str n t) v
noncomputable abbrev dR (P : PySem.Params) (n : Str) (t a : Nat) : DictEntry := .mk (PySem.PyData.keyHash P n) (.str n t) (.ref a)
noncomputable def v3 (c : Nat) : List (Nat × Nat) → List Value
 | [] => []
 | (l, a) :: r => .int l 0 :: .int c 0 :: .ref a :: v3 c r
noncomputable abbrev o3 (c : Nat) (l : List (Nat × Nat)) : Obj := .mk .none none (.fields (v3 c l).toArray) #[]
noncomputable def sL : Nat → List Str → List Value
 | _, [] => []
 | t, s :: r => .str s t :: sL (t + 1) r
noncomputable abbrev sN (t : Nat) (l : List Str) : Array Value := (sL t l).toArray
noncomputable def rL : List Nat → List Value
 | [] => []
 | a :: r => .ref a :: rL r
noncomputable abbrev rN (l : List Nat) : Array Value := (rL l).toArray
noncomputable abbrev oA : Obj := PySem.Obj.mk (.type "tuple") none (.seq #[] 0) #[]
noncomputable abbrev oB (P : PySem.Params) (s2 s5 : Str) (n0 n1 n3 n4 n6 n7 : Nat) : Obj := PySem.Obj.mk (.type "dict") none (.dict #[(dE P "__module__" n0 (.str "waxcloth.errors" 187)), (dE P "__firstlineno__" (n0 + 4) (.int ((n1 : Nat) : Int) (n0 + 3))), dR P s2 n3 n4, dR P s5 (n3 + 2) n6, (dE P "__doc__" (n3 + 3) .none)] n7) #[]
noncomputable abbrev oC : Obj := PySem.Obj.mk (.type "tuple") none (.seq #[(.ref 24)] 0) #[]
noncomputable abbrev oD (P : PySem.Params) (n0 n1 n2 : Nat) : Obj := PySem.Obj.mk (.type "dict") none (.dict #[(dE P "__module__" n0 (.str "waxcloth.errors" 187)), (dE P "__firstlineno__" (n0 + 4) (.int ((n1 : Nat) : Int) (n0 + 3))), dR P "__static_attributes__" (n0 + 5) n2, (dE P "__doc__" (n0 + 6) .none)] 2) #[]
noncomputable abbrev oE (s0 : Str) (n1 n2 n3 n4 : Nat) : Obj := PySem.Obj.mk (.type "type") none (.cls (PySem.ClassData.mk s0 [(.ref 24)] [(.ref n1), (.ref 24), (.type "ValueError"), (.type "Exception"), (.type "BaseException"), (.type "object")] n2 s0 true [] [] false none false)) #[(some (.ref n3)), none, (some (.str s0 n4)), (some (.str s0 (n4 + 8))), (some (.builtin "ValueError.__new__")), (some (.bool true))]
noncomputable abbrev oF (s0 s2 : Str) (n1 n3 n4 n5 n6 : Nat) : Obj := PySem.Obj.mk (.type "code") none (.fields #[(.str s0 n1), (.str s2 (n1 + 1)), (.str "/claim/cut.py" (n1 + 2)), (.int ((n3 : Nat) : Int) 0), (.int ((n4 : Nat) : Int) 0), (.int 0 0), (.int 0 0), (.int 3 0), (.ref n5), (.bool true), (.int 181 0), (.ref (n5 + 1)), .none, (.ref (n5 + 2)), (.ref (n5 + 3)), (.ref (n5 + 4)), (.int ((n6 : Nat) : Int) 0), (.int ((n3 : Nat) : Int) 0), (.str "/claim/cut.py" (n6 + 1))]) #[]
noncomputable abbrev oG (s0 : Str) (n1 n2 : Nat) : Obj := PySem.Obj.mk (.type "function") none (.func (PySem.FuncData.mk s0 s0 (dP (top n1)) (.stmts (dB (top n1))) (dS (top n1)) 3 [] .none .none .none (.str "law_waxcloth_k06_refusals_apart" 488) none (.ref n2) .none 0)) #[]
noncomputable abbrev oH (s1 s2 s3 s4 : Str) (n0 : Nat) : Obj := PySem.Obj.mk (.type "tuple") none (.seq (sN n0 [s1, s2, s3, s4]) 0) #[]
noncomputable abbrev oI (s0 : Str) (n1 n2 n3 : Nat) : Obj := PySem.Obj.mk (.type "code") none (.fields #[(.str s0 n1), (.str s0 (n1 + 1)), (.str "/claim/cut.py" (n1 + 2)), (.int ((n2 : Nat) : Int) 0), (.int 0 0), (.int 0 0), (.int 0 0), (.int 0 0), (.ref n3), (.bool false), (.int 181 0), (.ref (n3 + 1)), .none, .none, .none, .none, (.int ((n1 + 3 : Nat) : Int) 0), (.int ((n2 : Nat) : Int) 0), (.str "/claim/cut.py" (n1 + 4))]) #[]
noncomputable abbrev oJ (s2 : Str) (n0 n1 n3 : Nat) : Obj := PySem.Obj.mk (.type "frame") none .plain #[(some (.ref n0)), (some (.ref 3)), (some (.ref n1)), none, (some (.str s2 n3)), none, (some (.ref 0))]
noncomputable abbrev oK : Obj := PySem.Obj.mk (.type "builtin_function_or_method") none (.fields #[(.builtin "type.__prepare__"), (.type "type")]) #[]
noncomputable abbrev oL (P : PySem.Params) (s1 : Str) (n0 n2 n3 : Nat) : Obj := PySem.Obj.mk (.type "dict") none (.dict #[(dE P "__module__" n0 (.str "waxcloth.errors" 187)), (dE P "__qualname__" (n0 + 2) (.str s1 (n0 + 1))), (dE P "__firstlineno__" (n0 + 4) (.int ((n2 : Nat) : Int) (n0 + 3))), dR P "__static_attributes__" (n0 + 5) n3] 4) #[]
noncomputable abbrev oM : Obj := PySem.Obj.mk .none none (.fields #[]) #[]
noncomputable abbrev oN (n0 : Nat) : Obj := PySem.Obj.mk (.type "super") none (.fields (rN [n0, n0, n0])) #[]
noncomputable abbrev oO (n0 : Nat) : Obj := PySem.Obj.mk (.type "builtin_function_or_method") none (.fields #[(.builtin "object.__init_subclass__"), (.ref n0)]) #[]
noncomputable abbrev oP (s0 : Str) (n1 : Nat) : Obj := PySem.Obj.mk .none none (.func (PySem.FuncData.mk s0 s0 (dP (top n1)) (.stmts (dB (top n1))) (dS (top n1)) 0 [] .none .none .none .none none .none .none 0)) #[]
noncomputable def K (P : PySem.Params) : PySem.W.Frag :=
 (nat_lit 2, (PySem.Obj.mk .none none (.dict #[] 0) #[])) ::
 (nat_lit 3, (PySem.Obj.mk (.type "dict") none (.dict #[(dE P "__name__" 165 (.str "law_waxcloth_k06_refusals_apart" 488)), (dE P "__doc__" 166 .none), (dE P "__package__" 167 .none), (dE P "__loader__" 168 (.builtin "__main__.__loader__#opaque")), (dE P "__spec__" 169 .none), dR P "__annotations__" 170 6, dR P "__builtins__" 171 4, (dE P "__file__" 173 (.str "/claim/cut.py" 172)), (dE P "__cached__" 174 .none), dR P "WaxError" 206 24, dR P "NoName" 222 37, dR P "Taken" 238 49, dR P "BadSize" 254 61, dR P "NoCloth" 270 73, dR P "NoCell" 286 85, dR P "BadWish" 302 97, dR P "Twice" 318 109, dR P "NoDye" 334 121, dR P "Spent" 350 133, dR P "StillFresh" 366 145, dR P "TooDeep" 382 157, dR P "NothingLeft" 398 169, dR P "NoMark" 414 181, dR P "NoDeed" 430 193, dR P "NoHouse" 446 205, dR P "NoChart" 462 217, dR P "Barred" 487 236, dR P "_law_box" 498 245, dR P "_law_mixed" 508 252, dR P "_law_take" 518 259, dR P "_law_kinds" 528 266, dR P "law" 534 271] 32) #[])) ::
 (nat_lit 6, (PySem.Obj.mk (.type "dict") none (.dict #[] 0) #[])) ::
 (nat_lit 15, (PySem.Obj.mk (.type "tuple") none (.seq #[(.type "ValueError")] 0) #[])) ::
 (nat_lit 22, oA) ::
 (nat_lit 23, (oB P "__static_attributes__" "__weakref__" 196 2 201 22 25 3)) ::
 (nat_lit 24, (PySem.Obj.mk (.type "type") none (.cls (PySem.ClassData.mk "WaxError" [(.type "ValueError")] [(.ref 24), (.type "ValueError"), (.type "Exception"), (.type "BaseException"), (.type "object")] 23 "WaxError" true [] (rL [37, 49, 61, 73, 85, 97, 109, 121, 133, 145, 157, 169, 181, 193, 205, 217, 236]) false none false)) #[(some (.ref 15)), none, (some (.str "WaxError" 189)), (some (.str "WaxError" 197)), (some (.builtin "ValueError.__new__")), (some (.bool true))])) ::
 (nat_lit 25, (PySem.Obj.mk (.type "getset_descriptor") none (.fields #[(.str "__weakref__" 202), (.ref 24), (.builtin "ExceptionGroup.__weakref__"), .none]) #[])) ::
 (nat_lit 28, oC) ::
 (nat_lit 35, oA) ::
 (nat_lit 36, (oD P 214 4 35)) ::
 (nat_lit 37, (oE "NoName" 37 36 28 207)) ::
 (nat_lit 40, oC) ::
 (nat_lit 47, oA) ::
 (nat_lit 48, (oD P 230 6 47)) ::
 (nat_lit 49, (oE "Taken" 49 48 40 223)) ::
 (nat_lit 52, oC) ::
 (nat_lit 59, oA) ::
 (nat_lit 60, (oD P 246 8 59)) ::
 (nat_lit 61, (oE "BadSize" 61 60 52 239)) ::
 (nat_lit 64, oC) ::
 (nat_lit 71, oA) ::
 (nat_lit 72, (oD P 262 10 71)) ::
 (nat_lit 73, (oE "NoCloth" 73 72 64 255)) ::
 (nat_lit 76, oC) ::
 (nat_lit 83, oA) ::
 (nat_lit 84, (oD P 278 12 83)) ::
 (nat_lit 85, (oE "NoCell" 85 84 76 271)) ::
 (nat_lit 88, oC) ::
 (nat_lit 95, oA) ::
 (nat_lit 96, (oD P 294 14 95)) ::
 (nat_lit 97, (oE "BadWish" 97 96 88 287)) ::
 (nat_lit 100, oC) ::
 (nat_lit 107, oA) ::
 (nat_lit 108, (oD P 310 16 107)) ::
 (nat_lit 109, (oE "Twice" 109 108 100 303)) ::
 (nat_lit 112, oC) ::
 (nat_lit 119, oA) ::
 (nat_lit 120, (oD P 326 18 119)) ::
 (nat_lit 121, (oE "NoDye" 121 120 112 319)) ::
 (nat_lit 124, oC) ::
 (nat_lit 131, oA) ::
 (nat_lit 132, (oD P 342 20 131)) ::
 (nat_lit 133, (oE "Spent" 133 132 124 335)) ::
 (nat_lit 136, oC) ::
 (nat_lit 143, oA) ::
 (nat_lit 144, (oD P 358 22 143)) ::
 (nat_lit 145, (oE "StillFresh" 145 144 136 351)) ::
 (nat_lit 148, oC) ::
 (nat_lit 155, oA) ::
 (nat_lit 156, (oD P 374 24 155)) ::
 (nat_lit 157, (oE "TooDeep" 157 156 148 367)) ::
 (nat_lit 160, oC) ::
 (nat_lit 167, oA) ::
 (nat_lit 168, (oD P 390 26 167)) ::
 (nat_lit 169, (oE "NothingLeft" 169 168 160 383)) ::
 (nat_lit 172, oC) ::
 (nat_lit 179, oA) ::
 (nat_lit 180, (oD P 406 28 179)) ::
 (nat_lit 181, (oE "NoMark" 181 180 172 399)) ::
 (nat_lit 184, oC) ::
 (nat_lit 191, oA) ::
 (nat_lit 192, (oD P 422 30 191)) ::
 (nat_lit 193, (oE "NoDeed" 193 192 184 415)) ::
 (nat_lit 196, oC) ::
 (nat_lit 203, oA) ::
 (nat_lit 204, (oD P 438 32 203)) ::
 (nat_lit 205, (oE "NoHouse" 205 204 196 431)) ::
 (nat_lit 208, oC) ::
 (nat_lit 215, oA) ::
 (nat_lit 216, (oD P 454 34 215)) ::
 (nat_lit 217, (oE "NoChart" 217 216 208 447)) ::
 (nat_lit 220, oC) ::
 (nat_lit 227, oA) ::
 (nat_lit 229, (PySem.Obj.mk (.type "tuple") none (.seq (sN 478 ["self", "bars"]) 0) #[])) ::
 (nat_lit 230, oA) ::
 (nat_lit 232, (oF "__init__" "Barred.__init__" 475 38 2 227 480)) ::
 (nat_lit 233, (PySem.Obj.mk (.type "function") none (.func (PySem.FuncData.mk "__init__" "Barred.__init__" (dP (mtop 18 0)) (.stmts (dB (mtop 18 0))) (dS (mtop 18 0)) 3 [] .none .none .none (.str "waxcloth.errors" 187) none (.ref 232) .none 0)) #[])) ::
 (nat_lit 234, (PySem.Obj.mk (.type "tuple") none (.seq (sN 483 ["bars"]) 0) #[])) ::
 (nat_lit 235, (oB P "__init__" "__static_attributes__" 470 36 482 233 234 2)) ::
 (nat_lit 236, (oE "Barred" 236 235 220 463)) ::
 (nat_lit 239, oA) ::
 (nat_lit 241, (PySem.Obj.mk (.type "tuple") none (.seq (sN 493 ["_law_script", "_law_seed", "_law_cell"]) 0) #[])) ::
 (nat_lit 242, oA) ::
 (nat_lit 244, (oF "_law_box" "_law_box" 490 42 1 239 496)) ::
 (nat_lit 245, (oG "_law_box" 20 244)) ::
 (nat_lit 246, oA) ::
 (nat_lit 248, (oH "_law_number" "_law_turn" "_law_one" "_law_two" 502)) ::
 (nat_lit 249, oA) ::
 (nat_lit 251, (oF "_law_mixed" "_law_mixed" 499 47 2 246 506)) ::
 (nat_lit 252, (oG "_law_mixed" 21 251)) ::
 (nat_lit 253, oA) ::
 (nat_lit 255, (oH "_law_box_here" "_law_many" "_law_left" "_law_cell" 512)) ::
 (nat_lit 256, oA) ::
 (nat_lit 258, (oF "_law_take" "_law_take" 509 51 2 253 516)) ::
 (nat_lit 259, (oG "_law_take" 22 258)) ::
 (nat_lit 260, oA) ::
 (nat_lit 262, (oH "_law_e" "_law_first" "_law_second" "_law_third" 522)) ::
 (nat_lit 263, oA) ::
 (nat_lit 265, (oF "_law_kinds" "_law_kinds" 519 65 1 260 526)) ::
 (nat_lit 266, (oG "_law_kinds" 23 265)) ::
 (nat_lit 267, oA) ::
 (nat_lit 270, (PySem.Obj.mk (.type "code") none (.fields #[(.str "law" 529), (.str "law" 530), (.str "/claim/cut.py" 531), (.int 70 0), (.int 1 0), (.int 0 0), (.int 0 0), (.int 3 0), (.ref 267), (.bool true), (.int 181 0), (.ref 268), .none, .none, .none, (.ref 269), (.int 532 0), (.int 70 0), (.str "/claim/cut.py" 533)]) #[])) ::
 (nat_lit 271, (oG "law" 24 270)) :: []
noncomputable abbrev RR : PySem.W.RowW := PySem.W.OpenRow.toRowW (PySem.W.OpenLaw.row PySem.Challenge.rw_waxcloth_k06_refusals_apart)
noncomputable def Q : Program := { RR.prog with main := { RR.prog.main with body := [top 1, top 2, top 3, top 4, top 5, top 6, top 7, top 8, top 9, top 10, top 11, top 12, top 13, top 14, top 15, top 16, top 17, top 18, top 20, top 21, top 22, top 23, top 24] } }
noncomputable def asL : List Nat := [2, 3, 6, 15, 22, 23, 24, 25, 28, 35, 36, 37, 40, 47, 48, 49, 52, 59, 60, 61, 64, 71, 72, 73, 76, 83, 84, 85, 88, 95, 96, 97, 100, 107, 108, 109, 112, 119, 120, 121, 124, 131, 132, 133, 136, 143, 144, 145, 148, 155, 156, 157, 160, 167, 168, 169, 172, 179, 180, 181, 184, 191, 192, 193, 196, 203, 204, 205, 208, 215, 216, 217, 220, 227, 229, 230, 232, 233, 234, 235, 236, 239, 241, 242, 244, 245, 246, 248, 249, 251, 252, 253, 255, 256, 258, 259, 260, 262, 263, 265, 266, 267, 270, 271]
theorem asE : ∀ P, asL = (K P).map (·.1) := fun _ => by kernel_rfl
noncomputable def oRest (P : PySem.Params) : List (Nat × Obj) :=
 (0, PySem.W.boot_o_0 P) ::
 (1, PySem.W.boot_o_1 P) ::
 (4, PySem.W.boot_o_4 P) ::
 (5, PySem.W.boot_o_5 P) ::
 (7, PySem.W.boot_o_7 P) ::
 (8, PySem.W.boot_o_8 P) ::
 (9, PySem.W.boot_o_9 P) ::
 (10, PySem.W.boot_o_10 P) ::
 (11, oA) ::
 (12, (o3 0 [(2, 20), (4, 33), (6, 45), (8, 57), (10, 69), (12, 81), (14, 93), (16, 105), (18, 117), (20, 129), (22, 141), (24, 153), (26, 165), (28, 177), (30, 189), (32, 201), (34, 213), (36, 225), (42, 244), (47, 251), (51, 258), (65, 265), (70, 270)])) ::
 (13, (oI "<module>" 182 1 11)) ::
 (14, (oJ "__main__" 13 3 164)) ::
 (16, oK) ::
 (17, (oL P "WaxError" 196 2 22)) ::
 (18, oA) ::
 (19, oM) ::
 (20, (oI "WaxError" 191 2 18)) ::
 (21, (oJ "waxcloth.errors" 20 17 187)) ::
 (26, (oN 24)) ::
 (27, (oO 24)) ::
 (29, oK) ::
 (30, (oL P "NoName" 214 4 35)) ::
 (31, oA) ::
 (32, oM) ::
 (33, (oI "NoName" 209 4 31)) ::
 (34, (oJ "waxcloth.errors" 33 30 187)) ::
 (38, (oN 37)) ::
 (39, (oO 37)) ::
 (41, oK) ::
 (42, (oL P "Taken" 230 6 47)) ::
 (43, oA) ::
 (44, oM) ::
 (45, (oI "Taken" 225 6 43)) ::
 (46, (oJ "waxcloth.errors" 45 42 187)) ::
 (50, (oN 49)) ::
 (51, (oO 49)) ::
 (53, oK) ::
 (54, (oL P "BadSize" 246 8 59)) ::
 (55, oA) ::
 (56, oM) ::
 (57, (oI "BadSize" 241 8 55)) ::
 (58, (oJ "waxcloth.errors" 57 54 187)) ::
 (62, (oN 61)) ::
 (63, (oO 61)) ::
 (65, oK) ::
 (66, (oL P "NoCloth" 262 10 71)) ::
 (67, oA) ::
 (68, oM) ::
 (69, (oI "NoCloth" 257 10 67)) ::
 (70, (oJ "waxcloth.errors" 69 66 187)) ::
 (74, (oN 73)) ::
 (75, (oO 73)) ::
 (77, oK) ::
 (78, (oL P "NoCell" 278 12 83)) ::
 (79, oA) ::
 (80, oM) ::
 (81, (oI "NoCell" 273 12 79)) ::
 (82, (oJ "waxcloth.errors" 81 78 187)) ::
 (86, (oN 85)) ::
 (87, (oO 85)) ::
 (89, oK) ::
 (90, (oL P "BadWish" 294 14 95)) ::
 (91, oA) ::
 (92, oM) ::
 (93, (oI "BadWish" 289 14 91)) ::
 (94, (oJ "waxcloth.errors" 93 90 187)) ::
 (98, (oN 97)) ::
 (99, (oO 97)) ::
 (101, oK) ::
 (102, (oL P "Twice" 310 16 107)) ::
 (103, oA) ::
 (104, oM) ::
 (105, (oI "Twice" 305 16 103)) ::
 (106, (oJ "waxcloth.errors" 105 102 187)) ::
 (110, (oN 109)) ::
 (111, (oO 109)) ::
 (113, oK) ::
 (114, (oL P "NoDye" 326 18 119)) ::
 (115, oA) ::
 (116, oM) ::
 (117, (oI "NoDye" 321 18 115)) ::
 (118, (oJ "waxcloth.errors" 117 114 187)) ::
 (122, (oN 121)) ::
 (123, (oO 121)) ::
 (125, oK) ::
 (126, (oL P "Spent" 342 20 131)) ::
 (127, oA) ::
 (128, oM) ::
 (129, (oI "Spent" 337 20 127)) ::
 (130, (oJ "waxcloth.errors" 129 126 187)) ::
 (134, (oN 133)) ::
 (135, (oO 133)) ::
 (137, oK) ::
 (138, (oL P "StillFresh" 358 22 143)) ::
 (139, oA) ::
 (140, oM) ::
 (141, (oI "StillFresh" 353 22 139)) ::
 (142, (oJ "waxcloth.errors" 141 138 187)) ::
 (146, (oN 145)) ::
 (147, (oO 145)) ::
 (149, oK) ::
 (150, (oL P "TooDeep" 374 24 155)) ::
 (151, oA) ::
 (152, oM) ::
 (153, (oI "TooDeep" 369 24 151)) ::
 (154, (oJ "waxcloth.errors" 153 150 187)) ::
 (158, (oN 157)) ::
 (159, (oO 157)) ::
 (161, oK) ::
 (162, (oL P "NothingLeft" 390 26 167)) ::
 (163, oA) ::
 (164, oM) ::
 (165, (oI "NothingLeft" 385 26 163)) ::
 (166, (oJ "waxcloth.errors" 165 162 187)) ::
 (170, (oN 169)) ::
 (171, (oO 169)) ::
 (173, oK) ::
 (174, (oL P "NoMark" 406 28 179)) ::
 (175, oA) ::
 (176, oM) ::
 (177, (oI "NoMark" 401 28 175)) ::
 (178, (oJ "waxcloth.errors" 177 174 187)) ::
 (182, (oN 181)) ::
 (183, (oO 181)) ::
 (185, oK) ::
 (186, (oL P "NoDeed" 422 30 191)) ::
 (187, oA) ::
 (188, oM) ::
 (189, (oI "NoDeed" 417 30 187)) ::
 (190, (oJ "waxcloth.errors" 189 186 187)) ::
 (194, (oN 193)) ::
 (195, (oO 193)) ::
 (197, oK) ::
 (198, (oL P "NoHouse" 438 32 203)) ::
 (199, oA) ::
 (200, oM) ::
 (201, (oI "NoHouse" 433 32 199)) ::
 (202, (oJ "waxcloth.errors" 201 198 187)) ::
 (206, (oN 205)) ::
 (207, (oO 205)) ::
 (209, oK) ::
 (210, (oL P "NoChart" 454 34 215)) ::
 (211, oA) ::
 (212, oM) ::
 (213, (oI "NoChart" 449 34 211)) ::
 (214, (oJ "waxcloth.errors" 213 210 187)) ::
 (218, (oN 217)) ::
 (219, (oO 217)) ::
 (221, oK) ::
 (222, (PySem.Obj.mk (.type "dict") none (.dict #[(dE P "__module__" 470 (.str "waxcloth.errors" 187)), (dE P "__qualname__" 472 (.str "Barred" 471)), (dE P "__firstlineno__" 474 (.int 36 473)), dR P "__init__" 482 233, dR P "__static_attributes__" 484 234] 5) #[])) ::
 (223, oA) ::
 (224, (o3 4 [(38, 232)])) ::
 (225, (oI "Barred" 465 36 223)) ::
 (226, (oJ "waxcloth.errors" 225 222 187)) ::
 (228, oM) ::
 (231, (PySem.Obj.mk .none none (.func (PySem.FuncData.mk "__init__" "Barred.__init__" (dP (mtop 18 0)) (.stmts (dB (mtop 18 0))) (dS (mtop 18 0)) 0 [] .none .none .none .none none .none .none 0)) #[])) ::
 (237, (oN 236)) ::
 (238, (oO 236)) ::
 (240, oM) ::
 (243, (oP "_law_box" 20)) ::
 (247, oM) ::
 (250, (oP "_law_mixed" 21)) ::
 (254, oM) ::
 (257, (oP "_law_take" 22)) ::
 (261, oM) ::
 (264, (oP "_law_kinds" 23)) ::
 (268, oM) ::
 (269, (oP "law" 24)) :: []
noncomputable def mix : Nat → Nat → List (Nat × Obj) → List (Nat × Obj) → List Obj
 | 0, _, _, _ => []
 | n + 1, i, (a, x) :: l, (b, y) :: r => match Nat.beq a i with
  | true => x :: mix n (i + 1) l ((b, y) :: r)
  | false => y :: mix n (i + 1) ((a, x) :: l) r
 | n + 1, i, (_, x) :: l, [] => x :: mix n (i + 1) l []
 | n + 1, i, [], (_, y) :: r => y :: mix n (i + 1) [] r
 | _ + 1, _, [], [] => []
noncomputable def ev : Bool → List Obj → List Obj
 | _, [] => []
 | true, x :: r => x :: ev false r
 | false, _ :: r => ev true r
noncomputable def bt : Nat → List Obj → PySem.W.BT
 | 0, _ => .nil
 | _ + 1, [] => .nil
 | n + 1, x :: r => .node x (bt n (ev true r)) (bt n (ev false r))
noncomputable def lf : Life := (.mk [] [] [] 0 [] [] false #[] [] 0 false false false 0 [2000, 10, 10] false 0 true [] [] 0 false)
noncomputable def oAll (P : PySem.Params) : List Obj := mix 272 0 (K P) (oRest P)
noncomputable def set1 : List Obj → Nat → Obj → List Obj
 | [], _, _ => []
 | x :: r, n, y => match n with
  | 0 => y :: r
  | n + 1 => x :: set1 r n y
noncomputable def envH : Env := { scope := RR.prog.main.scope, locals := mainNs, globals := mainNs, cells := [], code := .ref 13, frame := some 14 }
noncomputable def bH : List Stmt := PySem.W.behindTheImports RR.prog
noncomputable def cH : Code := .body bH envH
noncomputable abbrev BH : List Frame := [PySem.W.topFrame ⟨0, 0, 0, 0⟩]
noncomputable def oPre (P : PySem.Params) : List Obj := [PySem.W.boot_o_0 P, PySem.W.boot_o_1 P, PySem.W.boot_o_2 P, PySem.W.boot_o_3 P, PySem.W.boot_o_4 P, PySem.W.boot_o_5 P, PySem.W.boot_o_6 P, PySem.W.boot_o_7 P, PySem.W.boot_o_8 P, PySem.W.boot_o_9 P, PySem.W.boot_o_10 P, oA, oM, (oI "<module>" 182 1 11), (oJ "__main__" 13 3 164)]
set_option maxHeartbeats 0 in
theorem preH : ∀ w : World, (fun os => PySem.W.topGo treeTable RR.prog w 11 (some (.ref 6)) 12 ⟨PySem.W.boot_heap w.params, Array.mk [], PySem.W.boot_drawn, PySem.W.boot_toks, os⟩ (PySem.W.topStub RR.prog)) = fun os => some (⟨⟨(oPre w.params).toArray, lf⟩, Array.mk [], PySem.W.boot_drawn, 187, os⟩, ⟨denote treeTable cH, cH, ⟨0, 0, 0, 0⟩, BH⟩) := fun w => by kernel_rfl
noncomputable def tr0 (P : PySem.Params) : PySem.W.BT := bt 14 (oPre P)
set_option maxHeartbeats 0 in
theorem blockH : ∀ w : World, (fun os => PySem.W.segRun treeTable RR.prog w 11 (some (.ref 6)) 1 1 ⟨⟨(oPre w.params).toArray, lf⟩, Array.mk [], PySem.W.boot_drawn, 187, os⟩ (PySem.W.blockOf bH envH cH ⟨0, 0, 0, 0⟩ BH)) = fun os => some (.next, (PySem.W.SharedT.mk (tr0 w.params) 15 lf (Array.mk []) PySem.W.boot_drawn 187 os).abs, cH, ⟨0, 0, 0, 0⟩) := fun w => by kernel_rfl
noncomputable def tr1 (P : PySem.Params) : PySem.W.BT := bt 14 (set1 (set1 (set1 ((oAll P).take 160) 3 (PySem.Obj.mk (.type "dict") none (.dict #[(dE P "__name__" 165 (.str "waxcloth.errors" 187)), (dE P "__doc__" 166 .none), (dE P "__package__" 167 .none), (dE P "__loader__" 168 (.builtin "__main__.__loader__#opaque")), (dE P "__spec__" 169 .none), dR P "__annotations__" 170 6, dR P "__builtins__" 171 4, (dE P "__file__" 173 (.str "/claim/cut.py" 172)), (dE P "__cached__" 174 .none), dR P "WaxError" 206 24, dR P "NoName" 222 37, dR P "Taken" 238 49, dR P "BadSize" 254 61, dR P "NoCloth" 270 73, dR P "NoCell" 286 85, dR P "BadWish" 302 97, dR P "Twice" 318 109, dR P "NoDye" 334 121, dR P "Spent" 350 133, dR P "StillFresh" 366 145, dR P "TooDeep" 382 157] 21) #[])) 12 (o3 0 [(2, 20), (4, 33), (6, 45), (8, 57), (10, 69), (12, 81), (14, 93), (16, 105), (18, 117), (20, 129), (22, 141), (24, 153)])) 24 (PySem.Obj.mk (.type "type") none (.cls (PySem.ClassData.mk "WaxError" [(.type "ValueError")] [(.ref 24), (.type "ValueError"), (.type "Exception"), (.type "BaseException"), (.type "object")] 23 "WaxError" true [] (rL [37, 49, 61, 73, 85, 97, 109, 121, 133, 145, 157]) false none false)) #[(some (.ref 15)), none, (some (.str "WaxError" 189)), (some (.str "WaxError" 197)), (some (.builtin "ValueError.__new__")), (some (.bool true))]))
noncomputable def sts0 : List Stmt := (bH.drop 0).take 13
set_option maxHeartbeats 0 in
theorem runT0 : ∀ w : World, (fun os => PySem.W.segRunT treeTable RR.prog w 11 (some (.ref 6)) 1 2539 (PySem.W.SharedT.mk (tr0 w.params) 15 lf (Array.mk []) PySem.W.boot_drawn 187 os) (PySem.W.piecesOf sts0 envH cH ⟨0, 0, 0, 0⟩ BH)) = fun os => some (.next, (PySem.W.SharedT.mk (tr1 w.params) 160 lf (Array.mk []) PySem.W.boot_drawn 383 os), cH, ⟨24, 0, 25, 8⟩) := fun w => by kernel_rfl
noncomputable def tr2 (P : PySem.Params) : PySem.W.BT := bt 14 (oAll P)
noncomputable def sts1 : List Stmt := (bH.drop 13).take 12
set_option maxHeartbeats 0 in
theorem runT1 : ∀ w : World, (fun os => PySem.W.segRunT treeTable RR.prog w 11 (some (.ref 6)) 1 1473 (PySem.W.SharedT.mk (tr1 w.params) 160 lf (Array.mk []) PySem.W.boot_drawn 383 os) (PySem.W.piecesOf sts1 envH cH ⟨24, 0, 25, 8⟩ BH)) = fun os => some (.next, (PySem.W.SharedT.mk (tr2 w.params) 272 lf (Array.mk []) PySem.W.boot_drawn 535 os), cH, ⟨70, 0, 84, 79⟩) := fun w => by kernel_rfl
noncomputable def hE (P : PySem.Params) : Heap := ⟨(oAll P).toArray, lf⟩
set_option maxHeartbeats 0 in
theorem finH : ∀ w : World, (fun os => PySem.W.topRun treeTable RR.prog w 11 (some (.ref 6)) 2 (PySem.W.SharedT.mk (tr2 w.params) 272 lf (Array.mk []) PySem.W.boot_drawn 535 os).abs ⟨PySem.W.doneF .next, cH, ⟨70, 0, 84, 79⟩, BH⟩) = fun os => some ⟨hE w.params, Array.mk [], PySem.W.boot_drawn, 535, os⟩ := fun w => by kernel_rfl
theorem bodyH : bH = sts0 ++ (sts1 ++ ([])) := by kernel_rfl
theorem runH (w : World) (os : OsState) : PySem.W.topRun treeTable RR.prog w 11 (some (.ref 6)) (12 + (1 + (2539 + (1473 + 2)))) ⟨PySem.W.boot_heap w.params, Array.mk [], PySem.W.boot_drawn, PySem.W.boot_toks, os⟩ (PySem.W.topStub RR.prog) = some ⟨hE w.params, Array.mk [], PySem.W.boot_drawn, 535, os⟩ := by
 refine PySem.W.go_top (congrFun (preH w) os) (PySem.W.piece_block (congrFun (blockH w) os) ?_)
 rw [bodyH]
 exact PySem.W.piece_app (PySem.W.segRun_of (congrFun (runT0 w) os)) (PySem.W.piece_app (PySem.W.segRun_of (congrFun (runT1 w) os)) (PySem.W.piece_nil (congrFun (finH w) os)))
noncomputable abbrev XtH : Shared → Bool := fun s => PySem.W.xlAt Q [] s && PySem.W.recOk (PySem.W.RowW.records RR) s
set_option maxHeartbeats 0 in
theorem looksH : ∀ w : World, (fun os => ((PySem.W.staticsOk (importedModules RR.prog.main.body) (PySem.W.boot_heap w.params) (hE w.params) && PySem.W.namesBound RR.prog (hE w.params) && PySem.W.gensDone ⟨hE w.params, Array.mk [], PySem.W.boot_drawn, 535, os⟩ && PySem.W.laidKept (PySem.W.boot_heap w.params) (hE w.params)), PySem.W.openSeen Q [] (importedModules RR.prog.main.body) XtH true ⟨hE w.params, Array.mk [], PySem.W.boot_drawn, 535, os⟩, (PySem.W.Hook.obs (PySem.W.kHook K asL asE)) ⟨hE w.params, Array.mk [], PySem.W.boot_drawn, 535, os⟩)) = fun _ => (true, PySem.W.openGood Q [], PySem.W.Hook.val (PySem.W.kHook K asL asE) w) := fun w => by kernel_rfl
theorem openH : PySem.W.opening RR.prog = PySem.W.plainProg RR.prog.main.scope.names := by kernel_rfl
theorem fenceH : ∀ s, fenceModules? RR.prog s = some s := fun s => by kernel_rfl
theorem sizeH : ∀ w : World, ((PySem.W.boot_heap w.params).isNs mainGlobals && (Array.mk ([] : List GenState)).size == 0, (PySem.W.boot_heap w.params).objs.size, (PySem.W.boot_heap w.params).nsMap mainGlobals "__annotations__") = (true, 11, (some (.ref 6))) := fun w => by kernel_rfl
theorem left : PySem.W.LeftO RR.prog Q [] XtH (PySem.W.Hook.obs (PySem.W.kHook K asL asE)) (PySem.W.Hook.val (PySem.W.kHook K asL asE)) 8146 :=
 PySem.W.LeftO.of_pieces (PySem.W.boot_open openH (by decide +kernel) fenceH) sizeH runH (by decide +kernel) looksH
set_option maxHeartbeats 0 in
theorem saidL : PySem.W.OpenLaw.wellSaid PySem.Challenge.rw_waxcloth_k06_refusals_apart = true := by kernel_rfl
end Wx
open PySem PySem.W PyProof.Rows
set_option hygiene false in
local macro_rules
 | `(tactic| rotate_left 1) => `(tactic| (dsimp only [L2.KOf]; refine' L2.Df.of KX G ?a ?l ?c ?k (fun _ _ _ _ _ _ => L3.el1 fun _ => rfl); (case a => k_is); (case l => k_is); (case c => k_is); (case k => k_is)))
 | `(tactic| rotate_left 2) => `(tactic| (dsimp only [L2.KOf]; refine' L2.Df.of KX G ?a ?l ?c ?k (fun _ _ _ _ _ _ => L3.el2 fun _ _ => rfl); (case a => k_is); (case l => k_is); (case c => k_is); (case k => k_is)))
set_option maxHeartbeats 0 in
theorem PySem.Challenge.cw_waxcloth_k06_refusals_apart_holds : PySem.Challenge.rw_waxcloth_k06_refusals_apart.Holds := by
 w_on; refine PySem.W.holds_law Wx.saidL fun said => ?_
 refine PySem.W.holds_open (q := Wx.Q) (loose := []) (XP := PySem.W.XL Wx.Q []) (YP := PySem.W.Hook.says (PySem.W.kHook Wx.K Wx.asL Wx.asE)) (N := 8146) Wx.left (PySem.W.Hook.of (PySem.W.kHook Wx.K Wx.asL Wx.asE)) (PySem.W.Hook.keeps (PySem.W.kHook Wx.K Wx.asL Wx.asE)) (fun s e => PySem.W.xl_of s (Bool.and_eq_true_iff.mp e).1) PySem.W.XL.keeps (by rfl) (by rfl) (by rfl) (fun s e => PySem.W.recFacts_of (Bool.and_eq_true_iff.mp e).2) (by rfl) (by first | assumption | decide +kernel) (by decide +kernel) ⟨rfl, rfl, rfl, rfl, rfl, by decide +kernel⟩ ?hw ?hc
 (case hw => w_witness2)
 k_fill
 haveI : L2.Cs := ⟨fun _ => 0⟩
 refine L2.walkL (l := PySem.Challenge.rw_waxcloth_k06_refusals_apart) (k := 43) (st := Wx.sLaw) rfl rfl ⟨rfl, by decide, by decide⟩ (fun w h Y => PySem.W.kIn_of Y) ?F
 case F =>
  intro w mg fa h KX G hmg
  letI : L2.Cs := L3.csOf mg
  have HD : L3.AllX (L2.KOf KX) mg Wx.defs := Wx.hdd KX G (by rotate_left 2) (by rotate_left 2) (by rotate_left 1)
  have DB : L2.Df (L2.KOf KX) mg "_law_box" Wx.sBox ["_law_script"] := by rotate_left 1
  have HB : ∀ x, Wx.W.bi.contains x = true → mg x = none := L3.bi_all (K := L2.KOf KX) KX G (by kernel_rfl)
  have HX := L3.ex_of (K := L2.KOf KX) (L := Wx.W.ex) KX G (by kernel_rfl)
  have L : L2.Dl (L2.KOf KX) "law" Wx.sLaw fa "_law_script" := by
   dsimp only [L2.KOf]
   refine' L2.Dl.of KX G hmg ?a ?l ?c ?k ?b
   (case a => k_is); (case l => k_is); (case c => k_is); (case k => k_is)
   (case b => exact fun s u => .of_eq rfl)
  have DR0 : L3.Db (L2.KOf KX) "Barred" "WaxError" "bars" := by
   dsimp only [L2.KOf]
   refine' L3.Db.of (st := Wx.mtop 18 0) (ps := ["self", "bars"]) ?n ?m ?f ?l ?c ?k (fun _ _ _ _ _ _ => L3.el2 fun _ _ => rfl) ?s rfl ?b ?t
   (case n => k_is); (case m => k_is); (case f => k_is); (case l => k_is); (case c => k_is); (case k => k_is); (case s => kernel_rfl); (case b => kernel_rfl); (case t => kernel_rfl)
  refine ⟨L, fun fd Ff base => ?_⟩
  exact L3.law_ok Ff Wx.okS (Wx.kn_box DB (HB "list" (by kernel_rfl))) (by decide) (L3.wk_all (L3.dx_all HD Wx.oks) Wx.hw HB (L3.gi_of (K := L2.KOf KX) KX G (by kernel_rfl)) (L3.gs_of (K := L2.KOf KX) KX G (by kernel_rfl)) HX.1 HX.2 Wx.hgd (L3.fk_all (K := L2.KOf KX) KX G (by kernel_rfl)) (Wx.hbr (L3.br_of KX G (HB "list" (by kernel_rfl)) DR0)) (L3.xm_of (K := L2.KOf KX) KX G (by kernel_rfl)) 20) (by decide) rfl rfl rfl rfl (by first | exact Or.inl rfl | exact Or.inr rfl) rfl Wx.okLaw (fun cells i l t s hi => Wx.law_run _ (Wx.ok06 0) cells i l t s hi)
