import PyProof.Rows.All
import Wide.All
import OpenK.AllK
import Wide.FinOn
import Lean
import PyProof.EqAt
import PyProof.EqKinds
import PyProof.TupleCall
import PyProof.NeData
import PyProof.WalksEnum
import PyProof.Rows.SortWalk
import PyProof.Rows.SetFrom
import PyProof.SetKind
import PyProof.SetRoads
import PyProof.Tail
import PyProof.FactsAll.set_2
import KE.KRevIter
import PyProof.Rows.StrWeight2
import PyProof.Rows.StrNews2
import PyProof.CallStr
import PyProof.FString
import PyProof.StrBlockH
import PyProof.SliceStr2
import KE.KIntText
import PyProof.Rows.StrNews
import PyProof.StrLoop
import PyProof.StrCalls
import PyProof.StrWalks
import PyProof.ZipIter
import PyProof.WalksMore
import PyProof.StrLawsTight
import PyProof.StrLawsChain
import PyProof.Rows.StrSliceCases
import PyProof.Rows.StrClose5
import PyProof.Rows.StrJoinMade
import PySem.Challenge.RW_waxcloth_k33_whole_charts
set_option Elab.async false
set_option linter.all false
set_option maxRecDepth 100000
namespace L2
open PySem PySem.Spec PyProof.Rows
noncomputable abbrev Key := Sum Int Str
noncomputable def keyIs : Key → Value → Bool
 | .inl k, v => Value.isInt k v
 | .inr x, v => Value.isStrOf x v
noncomputable def keyH (w : World) : Key → Int
 | .inl k => hashInt k
 | .inr x => hashStr w x
theorem keyIs_shape : ∀ {k : Key} {v : Value}, keyIs k v = true → (∃ i t, k = Sum.inl i ∧ v = Value.int i t) ∨ (∃ x t, k = Sum.inr x ∧ v = Value.str x t)
 | .inl i, v, h => by
  obtain ⟨t, e⟩ := Value.isInt_shape (k := i) (v := v) h
  exact .inl ⟨i, t, rfl, e⟩
 | .inr x, v, h => by
  obtain ⟨t, e⟩ := Value.isStrOf_shape (x := x) (v := v) h
  exact .inr ⟨x, t, rfl, e⟩
theorem key_ll (a b : Int) : decide ((Sum.inl a : Key) = Sum.inl b) = (a == b) := by
 by_cases e : a = b
 ·subst e; simp
 ·have h : ¬ (Sum.inl a : Key) = Sum.inl b := fun q => e (Sum.inl.inj q)
  rw [decide_eq_false h]
  exact (beq_eq_false_iff_ne.mpr e).symm
theorem key_rr (a b : Str) : decide ((Sum.inr a : Key) = Sum.inr b) = decide (a = b) := by
 by_cases e : a = b
 ·subst e; simp
 ·have h : ¬ (Sum.inr a : Key) = Sum.inr b := fun q => e (Sum.inr.inj q)
  rw [decide_eq_false h, decide_eq_false e]
theorem key_lr (a : Int) (b : Str) : decide ((Sum.inl a : Key) = Sum.inr b) = false := decide_eq_false (fun q => nomatch q)
theorem key_rl (a : Str) (b : Int) : decide ((Sum.inr a : Key) = Sum.inl b) = false := decide_eq_false (fun q => nomatch q)
noncomputable def mixKind (prog : Program) (w : World) : PySem.KeyKind prog w Key where
 is := keyIs
 hash := keyH w
 inj := fun v a b ha hb => by
  rcases keyIs_shape ha with ⟨i, t, rfl, rfl⟩ | ⟨x, t, rfl, rfl⟩
  ·rcases keyIs_shape hb with ⟨j, u, rfl, e⟩ | ⟨y, u, rfl, e⟩
   ·injection e with e1 _; rw [e1]
   ·exact nomatch e
  ·rcases keyIs_shape hb with ⟨j, u, rfl, e⟩ | ⟨y, u, rfl, e⟩
   ·exact nomatch e
   ·injection e with e1 _; rw [e1]
 byValue := fun k v h => by
  rcases keyIs_shape h with ⟨i, t, rfl, rfl⟩ | ⟨x, t, rfl, rfl⟩ <;> rfl
 pyHash := fun hv h => by
  rcases keyIs_shape hv with ⟨i, t, rfl, rfl⟩ | ⟨x, t, rfl, rfl⟩
  ·exact wpAny_pyHash_int h
  ·exact wpAny_pyHash_str h
 eqBool := fun hu hv h => by
  rcases keyIs_shape hu with ⟨i, t, rfl, rfl⟩ | ⟨x, t, rfl, rfl⟩
  ·rcases keyIs_shape hv with ⟨j, u, rfl, rfl⟩ | ⟨y, u, rfl, rfl⟩
   ·rw [key_ll] at h; exact wpAny_eqBool_int h
   ·rw [key_lr] at h; exact SeqAt.EqAt.int_str i t y u _ _ _ _ h
  ·rcases keyIs_shape hv with ⟨j, u, rfl, rfl⟩ | ⟨y, u, rfl, rfl⟩
   ·rw [key_rl] at h; exact SeqAt.EqAt.str_int x t j u _ _ _ _ h
   ·rw [key_rr] at h; exact wpAny_eqBool_str h
 «strs» := fun k x t v h => by
  rcases keyIs_shape h with ⟨i, u, rfl, e⟩ | ⟨y, u, rfl, e⟩
  ·exact nomatch e
  ·injection e with e1 _
   subst e1
   cases v <;> rfl
end L2
namespace L2
open PySem PySem.Spec PyProof.Rows
inductive V where
 | non | bl (b : Bool) | int (i : Int) | str (x : Str) | byt (b : Array UInt8) | flt (b : UInt64) | ref (a : Addr) | ty (n : String)
 deriving DecidableEq
noncomputable def RelV : V → Value → Prop
 | .non, u => u = Value.none
 | .bl b, u => u = Value.bool b
 | .int i, u => ∃ t, u = Value.int i t
 | .str x, u => ∃ t, u = Value.str x t
 | .byt b, u => ∃ t, u = Value.bytes b t
 | .flt b, u => ∃ t, u = Value.float b t
 | .ref a, u => u = Value.ref a
 | .ty n, u => u = Value.type n
noncomputable abbrev Vals : List V → List Value → Prop := Paired RelV
theorem Vals.length {xs : List V} {us : List Value} (r : Vals xs us) : xs.length = us.length := Paired.length r
theorem Vals.get : ∀ {xs : List V} {us : List Value} {i : Nat} {x : V}, Vals xs us → xs[i]? = some x → ∃ u, us[i]? = some u ∧ RelV x u
 | _, _, _, _, .nil, e => by simp at e
 | _, _, 0, _, .cons r _, e => by simp at e; subst e; exact ⟨_, rfl, r⟩
 | _, _, i + 1, x, .cons _ t, e => by
  obtain ⟨u, h1, h2⟩ := Vals.get (i := i) (x := x) t (by simpa using e)
  exact ⟨u, by simpa using h1, h2⟩
theorem Vals.set {x : V} {u : Value} (r : RelV x u) : ∀ {xs : List V} {us : List Value} (i : Nat), Vals xs us → Vals (xs.set i x) (us.set i u)
 | _, _, _, .nil => .nil
 | _, _, 0, .cons _ t => .cons r t
 | _, _, i + 1, .cons q t => .cons q (Vals.set r i t)
theorem Vals.append : ∀ {xs ys : List V} {us ws : List Value}, Vals xs us → Vals ys ws → Vals (xs ++ ys) (us ++ ws)
 | _, _, _, _, .nil, s => s
 | _, _, _, _, .cons r t, s => .cons r (Vals.append t s)
theorem Vals.take : ∀ {xs : List V} {us : List Value} (n : Nat), Vals xs us → Vals (xs.take n) (us.take n)
 | _, _, 0, _ => .nil
 | _, _, _ + 1, .nil => .nil
 | _, _, n + 1, .cons r t => .cons r (Vals.take n t)
theorem Vals.drop : ∀ {xs : List V} {us : List Value} (n : Nat), Vals xs us → Vals (xs.drop n) (us.drop n)
 | _, _, 0, r => r
 | _, _, _ + 1, .nil => .nil
 | _, _, n + 1, .cons _ t => Vals.drop n t
noncomputable def RelO : Option V → Option Value → Prop
 | some v, some u => RelV v u
 | none, none => True
 | _, _ => False
noncomputable def KV {κ : Type} : List (κ × V) → List (κ × Value) → Prop := Paired fun (p : κ × V) (q : κ × Value) => p.1 = q.1 ∧ RelV p.2 q.2
noncomputable def kV : Key → V
 | .inl i => .int i
 | .inr x => .str x
inductive HO where
 /-- a list -/
 | lst (xs : List V)
 /-- a tuple (never changes) -/
 | tup (xs : List V)
 /-- a dict whose keys are ints and texts; one whose keys are tuples of ints and texts (the empty one is both) -/
 | dK (kvs : List (Key × V)) | dT (kvs : List (List Key × V))
 /-- a set of ints: its members, its size -/
 | set (S : Int → Bool) (n : Nat)
 /-- an instance of the class at C, its dict at dx, its attributes -/
 | ins (C dx : Addr) (fs : List (Str × V))
 /-- the dict of the instance at x -/
 | own (x : Addr)
 /-- the dict of an exception -/
 | xd (fs : List (Str × V))
 /-- a bound method, f of x -/
 | met (f x : Addr)
 /-- a range object lo, lo + 1, .. below hi -/
 | rng (lo hi : Int)
 /-- a thing that is known to the object (the script; a dict while a loop walks it): read, never written while it is so -/
 | frz (o : Obj) (u : HO)
 /-- a code object's table -/
 | tbl (ps : Array Value)
 /-- any other thing, by what is true of its one object (a def of one's own: SetO a S n := HO.ext fun h => ..) -/
 | ext (φ : Heap → Prop)
noncomputable abbrev Hp := Addr → Option HO
noncomputable def upd (H : Hp) (a : Addr) (o : HO) : Hp := fun b => if b = a then some o else H b
theorem upd_same {H : Hp} {a : Addr} {o : HO} : upd H a o a = some o := by unfold upd; rw [if_pos rfl]
theorem upd_ne {H : Hp} {a b : Addr} {o : HO} (h : b ≠ a) : upd H a o b = H b := by unfold upd; rw [if_neg h]
theorem ne_of {H : Hp} {a b : Addr} {o u : HO} (h : H a = some o) (h' : H b = some u) (d : o ≠ u) : a ≠ b := by
 intro e; subst e; rw [h] at h'; exact d (Option.some.inj h')
theorem ne_of_none {H : Hp} {a b : Addr} {o : HO} (h : H a = some o) (h' : H b = none) : a ≠ b := by
 intro e; subst e; rw [h] at h'; cases h'
section
variable (P : Program) (w : World)
noncomputable def ObjOk (H : Hp) (h : Heap) (a : Addr) : HO → Prop
 | .lst xs => xs.length ≤ sizeLine ∧ ∃ (its : List Value) (n : Nat), Vals xs its ∧ h.get? a = some { cls := .type "list", data := .seq its.toArray n }
 | .tup xs => xs.length ≤ sizeLine ∧ ∃ its : List Value, Vals xs its ∧ IsTup h a its.toArray
 | .dK kvs => kvs.length ≤ sizeLine ∧ (a == sysModules) = false ∧ ∃ vs, KV kvs vs ∧ h.DictOf (mixKind P w) a vs
 | .dT kvs => kvs.length ≤ sizeLine ∧ (a == sysModules) = false ∧ ∃ xs : List (List Key × Addr × Value),
   Paired (fun (p : List Key × V) (q : List Key × Addr × Value) => p.1 = q.1 ∧ H q.2.1 = some (.tup (p.1.map kV)) ∧ RelV p.2 q.2.2) kvs xs ∧
   ∃ o es ep, h.get? a = some o ∧ o.ExactDict ∧ o.data = .dict es ep ∧ es.toList = xs.map (entryOfKey (tupleKind (mixKind P w))) ∧ (xs.map (·.1)).Nodup
 | .set S n => h.SetOf (intKind P w) a S n
 | .ins C dx fs => H dx = some (.own a) ∧ fs.length ≤ 1000 ∧ dx ≠ a ∧ h.get? a = some (PySem.W.instObj C dx) ∧
   ∃ mA, h.Ns1 dx mA ∧ (∀ f, RelO (fs.lookup f) (mA f)) ∧ PySem.Within mA (fs.map (·.1))
 | .own _ => ∃ o, h.get? a = some o
 | .xd fs => ∃ mA, h.Ns1 a mA ∧ ∀ f, RelO (fs.lookup f) (mA f)
 | .rng lo hi => ∃ t u v, h.get? a = some { cls := .type "range", data := .fields #[.int lo t, .int hi u, .int 1 v] }
 | .frz o u => h.get? a = some o ∧ ObjOk H h a u
 | .tbl ps => h.get? a = some { cls := .none, data := .fields ps }
 | .met f x => h.get? a = some (PySem.W.methodObj (.ref f) (.ref x))
 | .ext φ => φ h ∧ (∃ o, h.get? a = some o) ∧ ∀ h1 h2 : Heap, φ h1 → (∀ o, h1.get? a = some o → h2.get? a = some o) → φ h2
noncomputable def HOk (H : Hp) (h : Heap) : Prop := ∀ a o, H a = some o → ObjOk P w H h a o
end
section
variable {P : Program} {w : World} {H H' : Hp} {h h' : Heap} {a : Addr} {o : HO}
theorem ObjOk.lt (x : ObjOk P w H h a o) : a < h.objs.size := by
 cases o with
 | lst xs => obtain ⟨_, _, _, _, e⟩ := x; exact Heap.lt_size e
 | tup xs => obtain ⟨_, _, _, p⟩ := x; exact p.lt
 | dK kvs => obtain ⟨_, _, _, _, o, _, _, e, _⟩ := x; exact Heap.lt_size e
 | dT kvs => obtain ⟨_, _, _, _, o, _, _, e, _⟩ := x; exact Heap.lt_size e
 | set S n => obtain ⟨o, _, _, _, e, _⟩ := x; exact Heap.lt_size e
 | ins C dx fs => obtain ⟨_, _, _, e, _⟩ := x; exact Heap.lt_size e
 | own y => obtain ⟨_, e⟩ := x; exact Heap.lt_size e
 | xd fs => obtain ⟨_, ⟨_, _, _, e, _⟩, _⟩ := x; exact Heap.lt_size e
 | rng lo hi => obtain ⟨_, _, _, e⟩ := x; exact Heap.lt_size e
 | frz ob u => obtain ⟨e, _⟩ := x; exact Heap.lt_size e
 | tbl ps => exact Heap.lt_size (show h.get? a = some _ from x)
 | met f y => exact Heap.lt_size (show h.get? a = some _ from x)
 | ext φ => obtain ⟨_, ⟨_, e⟩, _⟩ := x; exact Heap.lt_size e
theorem Paired.mapP {α β : Type} {F G : α → β → Prop} : ∀ {l₁ : List α} {l₂ : List β}, Paired F l₁ l₂ → (∀ a b, F a b → G a b) → Paired G l₁ l₂
 | _, _, .nil, _ => .nil
 | _, _, .cons r t, f => .cons (f _ _ r) (Paired.mapP t f)
theorem ObjOk.stay (x : ObjOk P w H h a o) (k : ∀ b u, (b = a ∨ H b = some (.own a)) → h.get? b = some u → h'.get? b = some u)
  (ho : ∀ b, H b = some (.own a) → H' b = some (.own a)) (ht : ∀ b xs, H b = some (.tup xs) → H' b = some (.tup xs)) : ObjOk P w H' h' a o := by
 induction o with
 | lst xs => obtain ⟨z, its, n, r, e⟩ := x; exact ⟨z, its, n, r, k _ _ (.inl rfl) e⟩
 | tup xs => obtain ⟨z, its, r, ob, e, c⟩ := x; exact ⟨z, its, r, ob, k _ _ (.inl rfl) e, c⟩
 | dK kvs => obtain ⟨z, y, vs, r, ob, es, ep, e, c⟩ := x; exact ⟨z, y, vs, r, ob, es, ep, k _ _ (.inl rfl) e, c⟩
 | dT kvs =>
  obtain ⟨z, y, xs, r, ob, es, ep, e, c⟩ := x
  exact ⟨z, y, xs, Paired.mapP r fun p q z => ⟨z.1, ht _ _ z.2.1, z.2.2⟩, ob, es, ep, k _ _ (.inl rfl) e, c⟩
 | set S n => obtain ⟨ob, es, ep, t, e, c⟩ := x; exact ⟨ob, es, ep, t, k _ _ (.inl rfl) e, c⟩
 | ins C dx fs =>
  obtain ⟨d, z, ne, e, mA, ⟨od, es, ep, e2, c⟩, r⟩ := x
  exact ⟨ho _ d, z, ne, k _ _ (.inl rfl) e, mA, ⟨od, es, ep, k _ _ (.inr d) e2, c⟩, r⟩
 | own y => obtain ⟨ob, e⟩ := x; exact ⟨ob, k _ _ (.inl rfl) e⟩
 | xd fs => obtain ⟨mA, ⟨od, es, ep, e, c⟩, r⟩ := x; exact ⟨mA, ⟨od, es, ep, k _ _ (.inl rfl) e, c⟩, r⟩
 | rng lo hi => obtain ⟨t, u, v, e⟩ := x; exact ⟨t, u, v, k _ _ (.inl rfl) e⟩
 | frz ob u ih => obtain ⟨e, q⟩ := x; exact ⟨k _ _ (.inl rfl) e, ih q⟩
 | tbl ps =>
  have e : h.get? a = some { cls := .none, data := .fields ps } := x
  show h'.get? a = some { cls := .none, data := .fields ps }
  exact k a _ (.inl rfl) e
 | met f y =>
  have e : h.get? a = some (PySem.W.methodObj (.ref f) (.ref y)) := x
  show h'.get? a = some (PySem.W.methodObj (.ref f) (.ref y))
  exact k a _ (.inl rfl) e
 | ext φ => obtain ⟨p, ⟨o, e⟩, st⟩ := x; exact ⟨st _ _ p fun o q => k _ _ (.inl rfl) q, ⟨o, k _ _ (.inl rfl) e⟩, st⟩
theorem HOk.lt (x : HOk P w H h) (e : H a = some o) : a < h.objs.size := (x a o e).lt
theorem HOk.fresh (x : HOk P w H h) (e : h.objs.size ≤ a) : H a = none := by
 cases q : H a with
 | none => rfl
 | some u => exact absurd (Nat.lt_of_lt_of_le (x.lt q) e) (Nat.lt_irrefl _)
theorem HOk.kept (x : HOk P w H h) (k : ∀ b u, h.get? b = some u → h'.get? b = some u) : HOk P w H h' := fun a o e =>
 (x a o e).stay (fun b u _ q => k b u q) (fun _ q => q) fun _ _ q => q
theorem HOk.laid (x : HOk P w H h) (k : ∀ b u, h.get? b = some u → h'.get? b = some u) (hp : h.objs.size ≤ a) (new : ObjOk P w (upd H a o) h' a o) : HOk P w (upd H a o) h' := fun b u e => by
 have hn := x.fresh hp
 by_cases hb : b = a
 ·subst hb; rw [upd_same] at e; cases e; exact new
 ·rw [upd_ne hb] at e
  exact (x b u e).stay (fun c v _ q => k c v q) (fun c q => by rw [upd_ne (ne_of_none q hn)]; exact q) fun c xs q => by rw [upd_ne (ne_of_none q hn)]; exact q
end
noncomputable def Rd (H : Hp) (a : Addr) (u : HO) : Prop := H a = some u ∨ ∃ o, H a = some (.frz o u)
theorem Rd.ok {P : Program} {w : World} {H : Hp} {h : Heap} {a : Addr} {u : HO} (r : Rd H a u) (x : HOk P w H h) : ObjOk P w H h a u := by
 rcases r with r | ⟨o, r⟩
 ·exact x a u r
 ·obtain ⟨_, q⟩ := x a _ r
  exact q
noncomputable def Mut : Option HO → Prop
 | some (.lst _) => True
 | some (.dK _) => True
 | some (.dT _) => True
 | some (.set _ _) => True
 | some (.ins _ _ _) => True
 | some (.ext _) => True
 | _ => False
section
variable {P : Program} {w : World} {H : Hp} {h h' : Heap} {x e : Addr} {o' : HO}
theorem HOk.write (ok : HOk P w H h) (mu : Mut (H x)) (he : e = x ∨ H e = some (.own x)) (k : ∀ b u, b ≠ e → h.get? b = some u → h'.get? b = some u) (heo : ∃ u, h'.get? e = some u)
  (new : ObjOk P w (upd H x o') h' x o') : HOk P w (upd H x o') h' := fun b u q => by
 have nown : ∀ c y, H c = some (.own y) → c ≠ x := fun c y r z => by subst z; rw [r] at mu; exact mu
 have ntup : ∀ c xs, H c = some (.tup xs) → c ≠ x := fun c xs r z => by subst z; rw [r] at mu; exact mu
 by_cases hb : b = x
 ·subst hb; rw [upd_same] at q; cases q; exact new
 ·rw [upd_ne hb] at q
  by_cases hbe : b = e
  ·have q' : H b = some (.own x) := by
    rcases he with z | z
    ·exact absurd (hbe.trans z) hb
    ·rw [hbe]; exact z
   rw [q] at q'; cases q'
   obtain ⟨v, hv⟩ := heo
   exact ⟨v, by rw [hbe]; exact hv⟩
  ·refine (ok b u q).stay (fun c v hc r => k c v ?_ r) (fun c r => by rw [upd_ne (nown c b r)]; exact r) fun c xs r => by rw [upd_ne (ntup c xs r)]; exact r
   rcases hc with rfl | hc
   ·exact hbe
   ·rintro rfl
    rcases he with z | z
    ·exact nown c b hc z
    ·rw [hc] at z; cases z; exact hb rfl
end
structure Un (fs ex : List Addr) (H H' : Hp) (h h' : Heap) : Prop where
 keep : ∀ b o, h.get? b = some o → H b = none → b ∉ fs → b ∉ ex → h'.get? b = some o
 slot : ∀ b o, h.get? b = some o → H b = none → b ∈ fs → b ∉ ex → ∃ sl, h'.get? b = some { o with slots := sl }
 free : ∀ b o, h.get? b = some o → H b = none → b ∉ ex → H' b = none
 there : ∀ b o, h.get? b = some o → b ∉ ex → ∃ o', h'.get? b = some o'
 tups : ∀ b xs, H b = some (.tup xs) → H' b = some (.tup xs)
 frzs : ∀ b o u, H b = some (.frz o u) → H' b = some (.frz o u)
 tbls : ∀ b ps, H b = some (.tbl ps) → ∃ more, H' b = some (.tbl (ps ++ more))
section
variable {fs fs' ex ex' : List Addr} {H H1 H2 : Hp} {h h1 h2 h' : Heap} {a x e : Addr} {o : HO}
theorem Un.any (u : Un fs ex H H1 h h1) {b : Addr} {ob : Obj} (q : h.get? b = some ob) (n : H b = none) (hx : b ∉ ex) : ∃ sl, h1.get? b = some { ob with slots := sl } := by
 by_cases hb : b ∈ fs
 ·exact u.slot b ob q n hb hx
 ·exact ⟨ob.slots, u.keep b ob q n hb hx⟩
theorem Un.kept (k : ∀ b u, h.get? b = some u → h'.get? b = some u) : Un fs ex H H h h' :=
 ⟨fun b ob q _ _ _ => k b ob q, fun b ob q _ _ _ => ⟨ob.slots, k b ob q⟩, fun _ _ _ n _ => n, fun b ob q _ => ⟨ob, k b ob q⟩, fun _ _ q => q, fun _ _ _ q => q, fun _ ps q => ⟨#[], by rw [q]; simp⟩⟩
theorem Un.refl : Un fs ex H H h h := Un.kept fun _ _ q => q
theorem Un.laid (k : ∀ b u, h.get? b = some u → h'.get? b = some u) (hp : h.objs.size ≤ a) (hn : H a = none) : Un fs ex H (upd H a o) h h' where
 keep := fun b u q _ _ _ => k b u q
 slot := fun b u q _ _ _ => ⟨u.slots, k b u q⟩
 free := fun b u q n _ => by rw [upd_ne (Nat.ne_of_lt (Nat.lt_of_lt_of_le (Heap.lt_size q) hp))]; exact n
 there := fun b u q _ => ⟨u, k b u q⟩
 tups := fun b xs q => by rw [upd_ne (ne_of_none q hn)]; exact q
 frzs := fun b u xs q => by rw [upd_ne (ne_of_none q hn)]; exact q
 tbls := fun b ps q => ⟨#[], by rw [upd_ne (ne_of_none q hn), q]; simp⟩
theorem Un.write (mu : Mut (H x)) (he : e = x ∨ H e = some (.own x)) (k : ∀ b u, b ≠ e → h.get? b = some u → h'.get? b = some u) (heo : ∃ u, h'.get? e = some u) : Un fs ex H (upd H x o) h h' := by
 have hx : ∀ b, H b = none → b ≠ x := fun b n z => by subst z; rw [n] at mu; exact mu
 have hb : ∀ b, H b = none → b ≠ e := fun b n z => by
  subst z
  rcases he with r | r
  ·exact hx b n r
  ·rw [n] at r; cases r
 have hm : ∀ b u, H b = some u → ¬ Mut (some u) → b ≠ x := fun b u q nm z => by subst z; rw [q] at mu; exact nm mu
 refine ⟨fun b u q n _ _ => k b u (hb b n) q, fun b u q n _ _ => ⟨u.slots, k b u (hb b n) q⟩, fun b u q n _ => by rw [upd_ne (hx b n)]; exact n, fun b u q _ => ?_,
  fun b xs q => by rw [upd_ne (hm b _ q fun z => z)]; exact q, fun b u xs q => by rw [upd_ne (hm b _ q fun z => z)]; exact q, fun b ps q => ⟨#[], by rw [upd_ne (hm b _ q fun z => z), q]; simp⟩⟩
 by_cases hbe : b = e
 ·subst hbe; exact heo
 ·exact ⟨u, k b u hbe q⟩
end
noncomputable def trk (h : Heap) (H : Hp) : List Addr := (List.range h.objs.size).filter fun a => (H a).isSome
noncomputable def hidT (h : Heap) (H : Hp) : Heap := PySem.W.hideAll h (trk h H)
theorem hidT_size (h : Heap) (H : Hp) : (hidT h H).objs.size = h.objs.size := PySem.W.hideAll_size _ _
theorem hidT_get {h : Heap} {H : Hp} {b : Addr} {o : Obj} (e : h.get? b = some o) (n : H b = none) : (hidT h H).get? b = some o :=
 PySem.W.hideAll_get _ e fun hm => by
  have q : (H b).isSome = true := (List.mem_filter.mp hm).2
  rw [n] at q; simp at q
theorem of_hidT {h : Heap} {H : Hp} {b : Addr} {o : Obj} (e : (hidT h H).get? b = some o) : h.get? b = some o ∧ H b = none := by
 have e' : h.get? b = some o := PySem.W.of_hideAll (trk h H) e
 refine ⟨e', ?_⟩
 cases q : H b with
 | none => rfl
 | some x =>
  have hm : b ∈ trk h H := List.mem_filter.mpr ⟨List.mem_range.mpr (Heap.lt_size e'), by simp [q]⟩
  have z : (hidT h H).get? b = none := PySem.W.hideAll_none (trk h H) hm
  rw [z] at e; cases e
end L2
namespace L2
open PySem PySem.Spec PyProof.Rows
structure Mod (K : PySem.W.Frag) (mg : Str → Option Value) (base : Heap) : Prop where
 kin : K.In base
 glob : base.Ns mainGlobals mg
 blt : ∃ mb, base.Ns builtinsNs mb ∧ ∀ x : Str, x ≠ "__name__" → mb x = bootBuiltins x
 nolimit : base.NoLimit
structure Cx where
 prog : Program
 w : World
 K : PySem.W.Frag
 mg : Str → Option Value
 base : Heap
 A : Around
 N : List Str
 s₀ : Shared
 H₀ : Hp
 env : Env
 outer : List Env
 stack : List Env
 ex : List Addr
 fn : Str → Bool
 calm : Bool
 pn : List (Addr × Obj)
 xe : Value → Shared → Prop
noncomputable def frs (l : List Env) : List Addr := l.filterMap (·.frame)
noncomputable abbrev Cx.fs (X : Cx) : List Addr := frs X.outer
noncomputable def Vis (sc : Scope) (x : Str) : Prop := sc.names.lookup x = some .local ∨ sc.names.lookup x = some .cell ∨ sc.names.lookup x = some .free
noncomputable def Loc (sc : Scope) (x : Str) : Prop := sc.names.lookup x = some .local ∨ sc.names.lookup x = some .cell
noncomputable def Look (env : Env) (h : Heap) (m : Str → Option Value) (x : Str) (u : Value) : Prop :=
 (env.kindOf x = some .local ∧ m x = some u) ∨ ((env.kindOf x = some .cell ∨ env.kindOf x = some .free) ∧ ∃ c, env.cells.lookup x = some c ∧ h.IsCell c (some u))
structure Cx.Ok (X : Cx) : Prop where
 mod : Mod X.K X.mg X.base
 kind : X.env.scope.kind = .function
 glob : X.env.globals = mainGlobals
 blt : X.env.builtins = builtinsNs
 above : X.s₀.heap.objs.size ≤ X.env.locals
 inj : ∀ x y c, X.env.cells.lookup x = some c → X.env.cells.lookup y = some c → x = y
 has : ∀ x, (X.env.kindOf x = some .cell ∨ X.env.kindOf x = some .free) → ∃ c, X.env.cells.lookup x = some c
 cab : ∀ x c, X.fn x = true → X.env.cells.lookup x = some c → X.s₀.heap.objs.size ≤ c
 hd : X.calm = true → X.A.handled = none
 frames : X.A.frames = some X.stack
 stk : X.stack = X.outer ∨ (X.stack = X.env :: X.outer ∧ X.env.frame = some X.env.locals)
 exf : ∀ b ∈ X.ex, b ≠ X.env.locals ∧ ∀ x c, X.env.cells.lookup x = some c → c ≠ b
 bs : ∀ b o, X.base.get? b = some o → X.s₀.heap.get? b = some o ∧ X.H₀ b = none
 bsz : X.base.objs.size ≤ X.s₀.heap.objs.size
 noex : ∀ b o, X.base.get? b = some o → b ∉ X.ex
 exfs : ∀ b ∈ X.ex, b ∉ X.fs
 funs : X.s₀.heap.FunFrames X.base X.outer
 frf : ∀ b ∈ X.fs, X.H₀ b = none
structure Inv (X : Cx) (pins : List (Addr × Obj)) (σ : List (Option V)) (H : Hp) (s : Shared) : Prop where
 ok : X.Ok
 os : s.os = X.s₀.os
 bare : AllBare s.gens
 base : Un X.fs X.ex X.H₀ H X.s₀.heap s.heap
 loc : ∃ m, s.heap.Ns X.env.locals m ∧ ∀ (i : Nat) (x : Str) (v : V), X.N[i]? = some x → σ[i]? = some (some v) → Vis X.env.scope x → ∃ u, RelV v u ∧ Look X.env s.heap m x u
 cell : ∀ x c, X.env.cells.lookup x = some c → ∃ v, s.heap.IsCell c v
 free : H X.env.locals = none
 freeC : ∀ x c, X.env.cells.lookup x = some c → H c = none
 pin : ∀ p ∈ X.pn ++ pins, s.heap.get? p.1 = some p.2 ∧ H p.1 = none ∧ p.1 ≠ X.env.locals ∧ p.1 ∉ X.fs ∧ ∀ v, p.2.data ≠ .cell v
 hok : HOk X.prog X.w H s.heap
 len : σ.length = X.N.length
section
variable {X : Cx} {pins : List (Addr × Obj)} {σ : List (Option V)} {H H' : Hp} {s : Shared} {h' : Heap}
theorem Cx.Ok.nofr (ok : X.Ok) {b : Addr} {o : Obj} (e : X.base.get? b = some o) : b ∉ X.fs := fun hb => by
 have := (ok.funs.mem hb).1
 rw [e] at this; cases this
theorem Inv.bs (I : Inv X pins σ H s) : ∀ b o, X.base.get? b = some o → s.heap.get? b = some o ∧ H b = none := fun b o e =>
 ⟨I.base.keep b o (I.ok.bs b o e).1 (I.ok.bs b o e).2 (I.ok.nofr e) (I.ok.noex b o e), I.base.free b o (I.ok.bs b o e).1 (I.ok.bs b o e).2 (I.ok.noex b o e)⟩
theorem Inv.bk (I : Inv X pins σ H s) : ∀ b o, X.base.get? b = some o → s.heap.get? b = some o := fun b o e => (I.bs b o e).1
theorem Inv.mod (I : Inv X pins σ H s) : Mod X.K X.mg X.base := I.ok.mod
theorem Inv.kIn (I : Inv X pins σ H s) : X.K.In s.heap := I.ok.mod.kin.keeps I.bk
theorem Inv.fr (I : Inv X pins σ H s) : ∃ m, Fr X.base X.env.locals s.heap m :=
 let ⟨m, hn, _⟩ := I.loc
 ⟨m, hn, I.bk, Nat.le_trans I.ok.bsz I.ok.above⟩
theorem Inv.lt (I : Inv X pins σ H s) : X.env.locals < s.heap.objs.size := let ⟨_, hn, _⟩ := I.loc; hn.lt
theorem Inv.sz (I : Inv X pins σ H s) : X.s₀.heap.objs.size ≤ s.heap.objs.size := Nat.le_trans I.ok.above (Nat.le_of_lt I.lt)
theorem Inv.nofs (I : Inv X pins σ H s) {a : Addr} (h : s.heap.objs.size ≤ a) : a ∉ X.fs := fun hb => by
 obtain ⟨_, o, ho, _⟩ := I.ok.funs.mem hb
 exact absurd (Nat.lt_of_lt_of_le (Heap.lt_size ho) (Nat.le_trans I.sz h)) (Nat.lt_irrefl _)
theorem Inv.cne (I : Inv X pins σ H s) : ∀ x c, X.env.cells.lookup x = some c → c ≠ X.env.locals := fun x c e z => by
 obtain ⟨v, o, ho, hd⟩ := I.cell x c e
 obtain ⟨m, ⟨o', es, ep, ho', hd', _⟩, _⟩ := I.loc
 rw [z, ho'] at ho; cases ho; rw [hd'] at hd; cases hd
theorem Inv.funs (I : Inv X pins σ H s) : s.heap.FunFrames X.base X.outer := by
 have all : ∀ (l : List Env), (∀ b ∈ frs l, b ∈ X.fs) → X.s₀.heap.FunFrames X.base l → s.heap.FunFrames X.base l := by
  intro l
  induction l with
  | nil => intro _ _; trivial
  | cons env r ih =>
   intro hs hl
   obtain ⟨hk, ⟨L, o, hf, hn, ho, hd⟩, hr⟩ := hl
   have hL : L ∈ X.fs := hs L (by unfold frs; rw [List.filterMap_cons, hf]; exact List.mem_cons_self)
   obtain ⟨sl, e⟩ := I.base.slot L o ho (I.ok.frf L hL) hL fun z => I.ok.exfs L z hL
   exact ⟨hk, ⟨L, _, hf, hn, e, hd⟩, ih (fun b hb => hs b (by unfold frs; rw [List.filterMap_cons, hf]; exact List.mem_cons_of_mem _ hb)) hr⟩
 exact all X.outer (fun _ hb => hb) I.ok.funs
theorem Inv.stack (I : Inv X pins σ H s) : s.heap.FunFrames X.base X.stack := by
 rcases I.ok.stk with e | ⟨e, hf⟩
 ·rw [e]; exact I.funs
 ·rw [e]
  obtain ⟨m, hn, _⟩ := I.loc
  refine .cons (by rw [I.ok.kind]; decide) hf hn ?_ I.funs
  exact Heap.get?_none_of_le (Nat.le_trans I.ok.bsz I.ok.above)
theorem Inv.stkSub (I : Inv X pins σ H s) : ∀ b ∈ frs X.stack, b ∈ X.env.locals :: X.fs := fun b hb => by
 rcases I.ok.stk with e | ⟨e, hf⟩
 ·rw [e] at hb; exact List.mem_cons_of_mem _ hb
 ·rw [e] at hb
  unfold frs at hb
  rw [List.filterMap_cons, hf] at hb
  exact hb
theorem Inv.stkFree (I : Inv X pins σ H s) : ∀ b ∈ frs X.stack, H b = none := fun b hb => by
 rcases List.mem_cons.mp (I.stkSub b hb) with e | hb
 ·rw [e]; exact I.free
 ·obtain ⟨_, o, ho, _⟩ := I.ok.funs.mem hb
  exact I.base.free b o ho (I.ok.frf b hb) fun z => I.ok.exfs b z hb
theorem Inv.step {g' : Array GenState} {t' : Nat} {d' : Drawn} {ch : List Addr} (I : Inv X pins σ H s)
  (hch : ∀ b ∈ ch, (b ∈ X.ex ∨ X.s₀.heap.objs.size ≤ b) ∧ b ≠ X.env.locals ∧ (∀ x c, X.env.cells.lookup x = some c → c ≠ b) ∧ ∀ p ∈ X.pn ++ pins, p.1 ≠ b)
  (keep : ∀ b o, b ≠ X.env.locals → b ∉ X.fs → b ∉ ch → s.heap.get? b = some o → H b = none → h'.get? b = some o)
  (slot : ∀ b o, b ≠ X.env.locals → b ∈ X.fs → b ∉ ch → s.heap.get? b = some o → H b = none → ∃ sl, h'.get? b = some { o with slots := sl }) (free : ∀ b o, b ∉ ch → s.heap.get? b = some o → H b = none → H' b = none)
  (there : ∀ b o, b ∉ ch → s.heap.get? b = some o → ∃ o', h'.get? b = some o')
  (tups : ∀ b xs, H b = some (.tup xs) → H' b = some (.tup xs)) (frzs : ∀ b o u, H b = some (.frz o u) → H' b = some (.frz o u)) (tbls : ∀ b ps, H b = some (.tbl ps) → ∃ more, H' b = some (.tbl (ps ++ more)))
  (ns : ∀ m, s.heap.Ns X.env.locals m → h'.Ns X.env.locals m) (hok : HOk X.prog X.w H' h') (hg : AllBare g') :
  Inv X pins σ H' { s with heap := h', gens := g', drawn := d', toks := t' } := by
 have neL : ∀ b o, X.s₀.heap.get? b = some o → b ≠ X.env.locals := fun b o e => Nat.ne_of_lt (Nat.lt_of_lt_of_le (Heap.lt_size e) I.ok.above)
 have neC : ∀ b o, X.s₀.heap.get? b = some o → b ∉ X.ex → b ∉ ch := fun b o e hx hb => by
  rcases (hch b hb).1 with z | z
  ·exact hx z
  ·exact absurd (Nat.lt_of_lt_of_le (Heap.lt_size e) z) (Nat.lt_irrefl _)
 have cellK : ∀ x c, X.env.cells.lookup x = some c → ∀ v, s.heap.IsCell c v → h'.IsCell c v := fun x c e v ⟨o, ho, hd⟩ => by
  have nch : c ∉ ch := fun z => (hch c z).2.2.1 x c e rfl
  by_cases hc : c ∈ X.fs
  ·obtain ⟨sl, q⟩ := slot c o (I.cne x c e) hc nch ho (I.freeC x c e)
   exact ⟨_, q, hd⟩
  ·exact ⟨o, keep c o (I.cne x c e) hc nch ho (I.freeC x c e), hd⟩
 refine ⟨I.ok, I.os, hg, ⟨fun b o e n hb hx => ?_, fun b o e n hb hx => ?_, fun b o e n hx => ?_, fun b o e hx => ?_, fun b xs e => tups b xs (I.base.tups b xs e), fun b o xs e => frzs b o xs (I.base.frzs b o xs e), fun b ps e => ?_⟩, ?_, fun x c e => ?_, ?_, fun x c e => ?_, fun p hp => ?_, hok, I.len⟩
 ·exact keep b o (neL b o e) hb (neC b o e hx) (I.base.keep b o e n hb hx) (I.base.free b o e n hx)
 ·obtain ⟨sl, e1⟩ := I.base.slot b o e n hb hx
  obtain ⟨sl', e2⟩ := slot b _ (neL b o e) hb (neC b o e hx) e1 (I.base.free b o e n hx)
  exact ⟨sl', e2⟩
 ·obtain ⟨o', e1⟩ := I.base.there b o e hx
  exact free b o' (neC b o e hx) e1 (I.base.free b o e n hx)
 ·obtain ⟨o', e1⟩ := I.base.there b o e hx
  exact there b o' (neC b o e hx) e1
 ·obtain ⟨m1, e1⟩ := I.base.tbls b ps e
  obtain ⟨m2, e2⟩ := tbls b _ e1
  exact ⟨m1 ++ m2, by rw [e2, Array.append_assoc]⟩
 ·obtain ⟨m, hn, hl⟩ := I.loc
  refine ⟨m, ns m hn, fun i x v e1 e2 e3 => ?_⟩
  obtain ⟨u, r, l⟩ := hl i x v e1 e2 e3
  refine ⟨u, r, ?_⟩
  rcases l with l | ⟨k, c, e, z⟩
  ·exact .inl l
  ·exact .inr ⟨k, c, e, cellK x c e _ z⟩
 ·obtain ⟨v, z⟩ := I.cell x c e
  exact ⟨v, cellK x c e v z⟩
 ·obtain ⟨m, ⟨o, _, _, ho, _⟩, _⟩ := I.loc
  exact free _ o (fun z => (hch _ z).2.1 rfl) ho I.free
 ·obtain ⟨v, o, ho, hd⟩ := I.cell x c e
  exact free c o (fun z => (hch c z).2.2.1 x c e rfl) ho (I.freeC x c e)
 ·obtain ⟨e, n, ne, nf, d⟩ := I.pin p hp
  have nch : p.1 ∉ ch := fun z => (hch p.1 z).2.2.2 p hp rfl
  exact ⟨keep p.1 p.2 ne nf nch e n, free p.1 p.2 nch e n, ne, nf, d⟩
theorem Inv.un {t' : Nat} (I : Inv X pins σ H s) (u : Un X.fs [] H H' s.heap h') (hok : HOk X.prog X.w H' h') : Inv X pins σ H' { s with heap := h', toks := t' } := by
 obtain ⟨m, ⟨o, es, ep, ho, r⟩, _⟩ := id I.loc
 obtain ⟨sl, hL⟩ := u.any ho I.free (by simp)
 exact I.step (g' := s.gens) (d' := s.drawn) (ch := []) (fun _ z => nomatch z) (fun b o _ hb _ e n => u.keep b o e n hb (by simp)) (fun b o _ hb _ e n => u.slot b o e n hb (by simp)) (fun b o _ e n => u.free b o e n (by simp)) (fun b o _ e => u.there b o e (by simp)) u.tups u.frzs u.tbls (fun m' hm => by
  obtain ⟨o', es', ep', ho', r'⟩ := hm
  rw [ho] at ho'; cases ho'
  exact ⟨_, es', ep', hL, r'⟩) hok I.bare
theorem Inv.call {g' : Array GenState} {t' : Nat} {d' : Drawn} {ch : List Addr} (I : Inv X pins σ H s) (u : Un (frs X.stack) ch H H' s.heap h') (hok : HOk X.prog X.w H' h') (hg : AllBare g')
  (hch : ∀ b ∈ ch, (b ∈ X.ex ∨ X.s₀.heap.objs.size ≤ b) ∧ b ≠ X.env.locals ∧ (∀ x c, X.env.cells.lookup x = some c → c ≠ b) ∧ ∀ p ∈ X.pn ++ pins, p.1 ≠ b) :
  Inv X pins σ H' { s with heap := h', gens := g', drawn := d', toks := t' } := by
 obtain ⟨m, ⟨o, es, ep, ho, r⟩, _⟩ := id I.loc
 obtain ⟨sl, hL⟩ := u.any ho I.free fun z => (hch _ z).2.1 rfl
 exact I.step (ch := ch) hch (fun b o hL hb hc e n => u.keep b o e n (fun z => (List.mem_cons.mp (I.stkSub b z)).elim hL hb) hc) (fun b o _ _ hc e n => u.any e n hc) (fun b o hc e n => u.free b o e n hc) (fun b o hc e => u.there b o e hc) u.tups u.frzs u.tbls (fun m' hm => by
  obtain ⟨o', es', ep', ho', r'⟩ := hm
  rw [ho] at ho'; cases ho'
  exact ⟨_, es', ep', hL, r'⟩) hok hg
theorem Inv.turned {t' : Nat} {it : Addr} (I : Inv X pins σ H s) (k : ∀ b o, b ≠ it → s.heap.get? b = some o → h'.get? b = some o) (hn : H it = none) (hL : it ≠ X.env.locals)
  (h1 : it ∈ X.ex ∨ X.s₀.heap.objs.size ≤ it) (h2 : ∀ x c, X.env.cells.lookup x = some c → c ≠ it) (h3 : ∀ p ∈ X.pn ++ pins, p.1 ≠ it) : Inv X pins σ H { s with heap := h', toks := t' } := by
 have nit : ∀ b u, H b = some u → b ≠ it := fun b u e z => by rw [z, hn] at e; cases e
 refine I.step (g' := s.gens) (d' := s.drawn) (ch := [it]) (fun b hb => ?_) (fun b o _ _ hc e _ => k b o (fun z => hc (by simp [z])) e) (fun b o _ _ hc e _ => ⟨o.slots, k b o (fun z => hc (by simp [z])) e⟩) (fun _ _ _ _ n => n)
  (fun b o hc e => ⟨o, k b o (fun z => hc (by simp [z])) e⟩) (fun _ _ e => e) (fun _ _ _ e => e) (fun b ps e => ⟨#[], by rw [e]; simp⟩) (fun m hm => ?_) (fun b u e => ?_) I.bare
 ·have e : b = it := by simpa using hb
  subst e
  exact ⟨h1, hL, h2, h3⟩
 ·obtain ⟨o, es, ep, ho, r⟩ := hm
  exact ⟨o, es, ep, k _ o (Ne.symm hL) ho, r⟩
 ·refine (I.hok b u e).stay (fun c v hc q => k c v ?_ q) (fun _ q => q) fun _ _ q => q
  rcases hc with z | z
  ·rw [z]; exact nit b u e
  ·exact nit c _ z
theorem Inv.tok (I : Inv X pins σ H s) (t : Nat) : Inv X pins σ H { s with toks := t } := I.un (h' := s.heap) (t' := t) Un.refl I.hok
theorem Inv.kept {t' : Nat} (I : Inv X pins σ H s) (k : ∀ b u, s.heap.get? b = some u → h'.get? b = some u) : Inv X pins σ H { s with heap := h', toks := t' } := I.un (Un.kept k) (I.hok.kept k)
theorem Inv.laid {a : Addr} {o : HO} {t' : Nat} (I : Inv X pins σ H s) (k : ∀ b u, s.heap.get? b = some u → h'.get? b = some u) (hp : s.heap.objs.size ≤ a) (new : ObjOk X.prog X.w (upd H a o) h' a o) :
  Inv X pins σ (upd H a o) { s with heap := h', toks := t' } := I.un (Un.laid k hp (I.hok.fresh hp)) (I.hok.laid k hp new)
theorem Inv.write {x e : Addr} {o : HO} {t' : Nat} (I : Inv X pins σ H s) (mu : Mut (H x)) (he : e = x ∨ H e = some (.own x)) (k : ∀ b u, b ≠ e → s.heap.get? b = some u → h'.get? b = some u) (heo : ∃ u, h'.get? e = some u)
  (new : ObjOk X.prog X.w (upd H x o) h' x o) : Inv X pins σ (upd H x o) { s with heap := h', toks := t' } := I.un (Un.write mu he k heo) (I.hok.write mu he k heo new)
theorem Inv.weak {σ' : List (Option V)} (I : Inv X pins σ H s) (hl : σ'.length = σ.length) (w : ∀ (i : Nat) v, σ'[i]? = some (some v) → σ[i]? = some (some v)) : Inv X pins σ' H s :=
 ⟨I.ok, I.os, I.bare, I.base, let ⟨m, hn, hl'⟩ := I.loc; ⟨m, hn, fun i x v e1 e2 e3 => hl' i x v e1 (w i v e2) e3⟩, I.cell, I.free, I.freeC, I.pin, I.hok, hl.trans I.len⟩
theorem Inv.pins_of {pins' : List (Addr × Obj)} (I : Inv X pins σ H s) (h : ∀ p ∈ pins', s.heap.get? p.1 = some p.2 ∧ H p.1 = none ∧ p.1 ≠ X.env.locals ∧ p.1 ∉ X.fs ∧ ∀ v, p.2.data ≠ .cell v) : Inv X pins' σ H s :=
 ⟨I.ok, I.os, I.bare, I.base, I.loc, I.cell, I.free, I.freeC, fun p hp => (List.mem_append.mp hp).elim (fun z => I.pin p (List.mem_append_left _ z)) (h p), I.hok, I.len⟩
theorem nodup_ix {N : List Str} (hN : N.Nodup) {i j : Nat} {x : Str} (a : N[i]? = some x) (b : N[j]? = some x) : i = j := by
 obtain ⟨h1, e1⟩ := List.getElem?_eq_some_iff.mp a
 obtain ⟨h2, e2⟩ := List.getElem?_eq_some_iff.mp b
 exact (List.getElem_inj hN).mp (e1.trans e2.symm)
theorem store_ok2 {M : Model} {A : Around} {E : Value → Shared → Prop} {i : Nat} {x : Str} {v : V} {u : Value} {Q : Unit → Shared → Prop} (I : Inv X pins σ H s) (hN : X.N.Nodup) (hi : X.N[i]? = some x) (hx : Loc X.env.scope x) (r : RelV v u)
  (h : ∀ s', Inv X pins (σ.set i (some v)) H s' → (∃ a, Heap.SameBut a s.heap s'.heap ∧ (a = X.env.locals ∨ X.env.cells.lookup x = some a)) → Q () s') (hf : X.fn x = true ∨ X.env.scope.names.lookup x = some .local := by first | exact .inl rfl | exact .inr rfl | assumption) : wpAny M A (storeName X.env x u) Q E s := by
 obtain ⟨m, hn, hl⟩ := id I.loc
 have hcls : (X.env.scope.kind == .class || (X.env.scope.kind == .module && X.env.locals != X.env.globals)) = false := by rw [I.ok.kind]; rfl
 have hiσ : i < σ.length := by rw [I.len]; exact (List.getElem?_eq_some_iff.mp hi).1
 have cne := I.cne
 have tracked : ∀ {a : Addr} {h' : Heap}, (∃ o, s.heap.get? a = some o ∧ H a = none) → Heap.SameBut a s.heap h' → HOk X.prog X.w H h' := fun {a h'} ha hs b ob e => by
  obtain ⟨_, _, hfree⟩ := ha
  refine (I.hok b ob e).stay (fun c w' hc q => (hs.2 c ?_).trans q) (fun _ q => q) fun _ _ q => q
  rintro rfl
  rcases hc with rfl | hc
  ·rw [hfree] at e; cases e
  ·rw [hfree] at hc; cases hc
 rcases hx with hk | hk
 ·refine wpAny_storeName_local hk hn (fun h' hn' hs => ?_) hcls
  obtain ⟨oL, _, _, hoL, _⟩ := id hn
  refine h _ ⟨I.ok, I.os, I.bare, ⟨fun b o e n hb hx => ?_, fun b o e n hb hx => ?_, I.base.free, fun b o e hx => ?_, I.base.tups, I.base.frzs, I.base.tbls⟩, ⟨_, hn', fun j y v' e1 e2 e3 => ?_⟩, fun y c e => ?_, I.free, I.freeC, fun p hp => ?_, tracked ⟨oL, hoL, I.free⟩ hs, by simpa using I.len⟩ ⟨_, hs, .inl rfl⟩
  ·exact (hs.2 b (Nat.ne_of_lt (Nat.lt_of_lt_of_le (Heap.lt_size e) I.ok.above))).trans (I.base.keep b o e n hb hx)
  ·obtain ⟨sl, e1⟩ := I.base.slot b o e n hb hx
   exact ⟨sl, (hs.2 b (Nat.ne_of_lt (Nat.lt_of_lt_of_le (Heap.lt_size e) I.ok.above))).trans e1⟩
  ·obtain ⟨o', e1⟩ := I.base.there b o e hx
   exact ⟨o', (hs.2 b (Nat.ne_of_lt (Nat.lt_of_lt_of_le (Heap.lt_size e) I.ok.above))).trans e1⟩
  ·by_cases hj : j = i
   ·subst hj
    rw [hi] at e1; cases e1
    rw [List.getElem?_set_self hiσ] at e2
    cases e2
    exact ⟨u, r, .inl ⟨hk, by simp⟩⟩
   ·rw [List.getElem?_set_ne (Ne.symm hj)] at e2
    obtain ⟨u', r', q⟩ := hl j y v' e1 e2 e3
    refine ⟨u', r', ?_⟩
    rcases q with ⟨k, e⟩ | ⟨k, c, e, z⟩
    ·refine .inl ⟨k, ?_⟩
     have : y ≠ x := fun e => hj (nodup_ix hN e1 (e ▸ hi))
     simp [this, e]
    ·exact .inr ⟨k, c, e, z.sameBut hs (cne y c e)⟩
  ·obtain ⟨w', z⟩ := I.cell y c e
   exact ⟨w', z.sameBut hs (cne y c e)⟩
  ·obtain ⟨e, n, ne, nf, d⟩ := I.pin p hp
   exact ⟨(hs.2 p.1 ne).trans e, n, ne, nf, d⟩
 ·have hfn : X.fn x = true := by
   rcases hf with z | z
   ·exact z
   ·rw [z] at hk; cases hk
  obtain ⟨c, hc⟩ := I.ok.has x (.inl hk)
  obtain ⟨w', z⟩ := I.cell x c hc
  refine wpAny_storeName_cell I.ok.kind hk hc z (fun h' hc' hs => ?_)
  obtain ⟨oc, hoc, hocd⟩ := id z
  refine h { s with heap := h' } ⟨I.ok, I.os, I.bare, ⟨fun b o e n hb hx => ?_, fun b o e n hb hx => ?_, I.base.free, fun b o e hx => ?_, I.base.tups, I.base.frzs, I.base.tbls⟩, ⟨m, hn.sameBut hs (Ne.symm (cne x c hc)), fun j y v' e1 e2 e3 => ?_⟩, fun y c' e => ?_, I.free, I.freeC, fun p hp => ?_, tracked ⟨oc, hoc, I.freeC x c hc⟩ hs, by simpa using I.len⟩ ⟨c, hs, .inr hc⟩
  ·exact (hs.2 b (Nat.ne_of_lt (Nat.lt_of_lt_of_le (Heap.lt_size e) (I.ok.cab x c hfn hc)))).trans (I.base.keep b o e n hb hx)
  ·obtain ⟨sl, e1⟩ := I.base.slot b o e n hb hx
   exact ⟨sl, (hs.2 b (Nat.ne_of_lt (Nat.lt_of_lt_of_le (Heap.lt_size e) (I.ok.cab x c hfn hc)))).trans e1⟩
  ·obtain ⟨o', e1⟩ := I.base.there b o e hx
   exact ⟨o', (hs.2 b (Nat.ne_of_lt (Nat.lt_of_lt_of_le (Heap.lt_size e) (I.ok.cab x c hfn hc)))).trans e1⟩
  ·by_cases hj : j = i
   ·subst hj
    rw [hi] at e1; cases e1
    rw [List.getElem?_set_self hiσ] at e2
    cases e2
    exact ⟨u, r, .inr ⟨.inl hk, c, hc, hc'⟩⟩
   ·rw [List.getElem?_set_ne (Ne.symm hj)] at e2
    obtain ⟨u', r', q⟩ := hl j y v' e1 e2 e3
    refine ⟨u', r', ?_⟩
    rcases q with q | ⟨k, c', e, z'⟩
    ·exact .inl q
    ·refine .inr ⟨k, c', e, z'.sameBut hs ?_⟩
     rintro rfl
     exact hj (nodup_ix hN e1 (I.ok.inj _ _ _ e hc ▸ hi))
  ·by_cases hcc : c' = c
   ·subst hcc; exact ⟨_, hc'⟩
   ·obtain ⟨w2, z2⟩ := I.cell y c' e
    exact ⟨w2, z2.sameBut hs hcc⟩
  ·obtain ⟨e, n, ne, nf, d⟩ := I.pin p hp
   refine ⟨(hs.2 p.1 ?_).trans e, n, ne, nf, d⟩
   intro q
   rw [q, hoc] at e
   have q' : oc = p.2 := Option.some.inj e
   exact d w' (by rw [← q']; exact hocd)
theorem store_ok {M : Model} {A : Around} {E : Value → Shared → Prop} {i : Nat} {x : Str} {v : V} {u : Value} {Q : Unit → Shared → Prop} (I : Inv X pins σ H s) (hN : X.N.Nodup) (hi : X.N[i]? = some x) (hx : Loc X.env.scope x) (r : RelV v u)
  (h : ∀ s', Inv X pins (σ.set i (some v)) H s' → Q () s') (hf : X.fn x = true ∨ X.env.scope.names.lookup x = some .local := by first | exact .inl rfl | exact .inr rfl | assumption) : wpAny M A (storeName X.env x u) Q E s :=
 store_ok2 I hN hi hx r (fun s' I' _ => h s' I') hf
theorem Inv.call' {s' : Shared} {ch : List Addr} (I : Inv X pins σ H s) (ho : s'.os = s.os) (u : Un (frs X.stack) ch H H' s.heap s'.heap) (hok : HOk X.prog X.w H' s'.heap) (hg : AllBare s'.gens)
  (hch : ∀ b ∈ ch, (b ∈ X.ex ∨ X.s₀.heap.objs.size ≤ b) ∧ b ≠ X.env.locals ∧ (∀ x c, X.env.cells.lookup x = some c → c ≠ b) ∧ ∀ p ∈ X.pn ++ pins, p.1 ≠ b) : Inv X pins σ H' s' := by
 obtain ⟨h', g', d', t', o'⟩ := s'
 have e : o' = s.os := ho
 subst e
 exact I.call (g' := g') (t' := t') (d' := d') u hok hg hch
end
noncomputable abbrev XK := Value → Option Addr → Hp → Prop
noncomputable abbrev St := List (Option V)
noncomputable abbrev VK := V → Hp → Prop
noncomputable abbrev TE := St → Hp → VK → Prop
noncomputable abbrev TT := St → Hp → (Bool → Hp → Prop) → Prop
noncomputable abbrev TA := St → Hp → (List V → Hp → Prop) → Prop
structure Ends where
 nx : St → Hp → Prop
 rt : VK
 bk : St → Hp → Prop := fun _ _ => False
 ct : St → Hp → Prop := fun _ _ => False
noncomputable abbrev TS := Ends → St → Hp → Prop
noncomputable def EP (X : Cx) (pins : List (Addr × Obj)) (σ : St) (Q : VK) (u : Value) (s' : Shared) : Prop := ∃ v H', Inv X pins σ H' s' ∧ RelV v u ∧ Q v H'
noncomputable def TP (X : Cx) (pins : List (Addr × Obj)) (σ : St) (Q : Bool → Hp → Prop) (b : Bool) (s' : Shared) : Prop := ∃ H', Inv X pins σ H' s' ∧ Q b H'
noncomputable def AP (X : Cx) (pins : List (Addr × Obj)) (σ : St) (Q : List V → Hp → Prop) (us : List Value) (s' : Shared) : Prop := ∃ vs H', Inv X pins σ H' s' ∧ Vals vs us ∧ Q vs H'
noncomputable def SP (X : Cx) (pins : List (Addr × Obj)) (D : Ends) (f : Flow) (s' : Shared) : Prop :=
 match f with
 | .next => ∃ σ' H', Inv X pins σ' H' s' ∧ D.nx σ' H'
 | .brk => ∃ σ' H', Inv X pins σ' H' s' ∧ D.bk σ' H'
 | .cont => ∃ σ' H', Inv X pins σ' H' s' ∧ D.ct σ' H'
 | .ret u => ∃ v σ' H', Inv X pins σ' H' s' ∧ RelV v u ∧ D.rt v H'
noncomputable def PE (X : Cx) (e : Expr) (t : TE) : Prop :=
 ∀ (pins : List (Addr × Obj)) (s : Shared) (σ : St) (H : Hp) (Q : VK), Inv X pins σ H s → t σ H Q → wpAny (model X.prog X.w) X.A (eval e X.env) (EP X pins σ Q) X.xe s
noncomputable def PT (X : Cx) (e : Expr) (t : TT) : Prop :=
 ∀ (pins : List (Addr × Obj)) (s : Shared) (σ : St) (H : Hp) (Q : Bool → Hp → Prop), Inv X pins σ H s → t σ H Q → wpAny (model X.prog X.w) X.A (isTrue e X.env (eval e X.env)) (TP X pins σ Q) X.xe s
noncomputable def PW (X : Cx) (e : Expr) (t : TT) : Prop :=
 ∀ (whole : Sem Value) (pins : List (Addr × Obj)) (s : Shared) (σ : St) (H : Hp) (Q : Bool → Hp → Prop), Inv X pins σ H s → t σ H Q → wpAny (model X.prog X.w) X.A (isTrue e X.env whole) (TP X pins σ Q) X.xe s
noncomputable def PA (X : Cx) (es : List Expr) (t : TA) : Prop :=
 ∀ (pos : Pos) (pins : List (Addr × Obj)) (s : Shared) (σ : St) (H : Hp) (Q : List V → Hp → Prop), Inv X pins σ H s → t σ H Q → wpAny (model X.prog X.w) X.A (spliced (backTo pos (starEach es X.env))) (AP X pins σ Q) X.xe s
noncomputable def PS (X : Cx) (st : Stmt) (t : TS) : Prop :=
 ∀ (pins : List (Addr × Obj)) (s : Shared) (σ : St) (H : Hp) (D : Ends), Inv X pins σ H s → t D σ H → wpAny (model X.prog X.w) X.A (exec st X.env) (SP X pins D) X.xe s
noncomputable def PSs (X : Cx) (st : List Stmt) (t : TS) : Prop :=
 ∀ (pins : List (Addr × Obj)) (s : Shared) (σ : St) (H : Hp) (D : Ends), Inv X pins σ H s → t D σ H → wpAny (model X.prog X.w) X.A (execs st X.env) (SP X pins D) X.xe s
theorem thn {α : Type} {t : Sem α} {Q Q' : α → Shared → Prop} {M : Model} {A : Around} {E : Value → Shared → Prop} {s : Shared} (h : wpAny M A t Q E s) (hQ : ∀ a s, Q a s → Q' a s) : wpAny M A t Q' E s := wpAny_mono h hQ fun _ _ x => x
end L2
namespace L2
open PySem PySem.Spec PyProof.Rows
section
variable {X : Cx}
theorem bin {a b : Expr} {ta tb : TE} (ha : PE X a ta) (hb : PE X b tb) {pins : List (Addr × Obj)} {s : Shared} {σ : St} {H : Hp} {R : V → V → Hp → Prop} (I : Inv X pins σ H s) (h : ta σ H fun x H1 => tb σ H1 fun y H2 => R x y H2)
  {α : Type} {Q : α → Shared → Prop} {f : Value → Value → Sem α}
  (hf : ∀ v u s2 x y H2, Inv X pins σ H2 s2 → RelV x v → RelV y u → R x y H2 → wpAny (model X.prog X.w) X.A (f v u) Q X.xe s2) :
  wpAny (model X.prog X.w) X.A (eval a X.env) (fun v s₁ => wpAny (model X.prog X.w) X.A (eval b X.env) (fun u s₂ => wpAny (model X.prog X.w) X.A (f v u) Q X.xe s₂) X.xe s₁) X.xe s := by
 refine thn (ha pins s σ H _ I h) fun v s1 ⟨x, H1, I1, r1, q1⟩ => ?_
 refine thn (hb pins s1 σ H1 _ I1 q1) fun u s2 ⟨y, H2, I2, r2, q2⟩ => ?_
 exact hf v u s2 x y H2 I2 r1 r2 q2
noncomputable def tVar (i : Nat) : TE := fun σ H Q => ∃ v, σ[i]? = some (some v) ∧ Q v H
noncomputable def tC (v : V) : TE := fun _ H Q => Q v H
theorem pe_var {i : Nat} {x : Str} {pos : Pos} (hN : X.N[i]? = some x) (hv : Vis X.env.scope x) (hd : (x == ("__debug__" : Str)) = false := by decide) (hcd : (x == ("__classdict__" : Str)) = false := by decide) : PE X (.Name x pos) (tVar i) := by
 intro pins s σ H Q I h
 obtain ⟨v, e, h⟩ := h
 obtain ⟨m, hn, hl⟩ := I.loc
 obtain ⟨u, r, l⟩ := hl i x v hN e hv
 have fin : EP X pins σ Q u s := ⟨v, H, I, r, h⟩
 rcases l with ⟨hk, hm⟩ | ⟨hk, c, hc, hcell⟩
 ·exact wpAny_Name (wpAny_loadName_local I.ok.kind hk hn hm fin) hd
 ·rcases hk with hk | hk
  ·exact wpAny_Name (wpAny_loadName_cell I.ok.kind hk hc hcell fin) hd
  ·exact wpAny_Name (wpAny_loadName_free I.ok.kind hk hc hcell fin hcd) hd
theorem pe_int {i j pos} : PE X (.Constant (.int i) j pos) (tC (.int i)) := fun _ _ _ H _ I h => wpAny_Constant_int ⟨.int i, H, I.tok _, ⟨_, rfl⟩, h⟩
theorem pe_bl {b j pos} : PE X (.Constant (.bool b) j pos) (tC (.bl b)) := fun _ _ _ H _ I h => Constant_bool ⟨.bl b, H, I, rfl, h⟩
theorem pe_non {j pos} : PE X (.Constant .none j pos) (tC .non) := fun _ _ _ H _ I h => Constant_none ⟨.non, H, I, rfl, h⟩
theorem pe_str {x j pos} : PE X (.Constant (.str x) j pos) (tC (.str x)) := fun _ _ _ H _ I h => Calls.Constant_str ⟨.str x, H, I.tok _, ⟨_, rfl⟩, h⟩
noncomputable def Gl (X : Cx) (x : Str) : Prop := X.env.kindOf x = some .globalImplicit
theorem ld_glob {E : Value → Shared → Prop} {pins : List (Addr × Obj)} {s : Shared} {σ : St} {H : Hp} {x : Str} {u : Value} {pos : Pos} {Q : Value → Shared → Prop} (I : Inv X pins σ H s) (hg : Gl X x) (hm : X.mg x = some u) (h : Q u s)
  (hd : (x == ("__debug__" : Str)) = false := by decide) : wpAny (model X.prog X.w) X.A (eval (.Name x pos) X.env) Q E s :=
 Calls.Name_function_global I.ok.kind hg (Calls.loadGlobal_global (by rw [I.ok.glob]; exact I.mod.glob.keeps I.bk) hm h) hd
theorem ld_blt {E : Value → Shared → Prop} {pins : List (Addr × Obj)} {s : Shared} {σ : St} {H : Hp} {x : Str} {u : Value} {pos : Pos} {Q : Value → Shared → Prop} (I : Inv X pins σ H s) (hg : Gl X x) (hm : X.mg x = none) (hv : bootBuiltins x = some u) (h : Q u s)
  (hn : x ≠ "__name__" := by decide) (hd : (x == ("__debug__" : Str)) = false := by decide) : wpAny (model X.prog X.w) X.A (eval (.Name x pos) X.env) Q E s := by
 obtain ⟨mb, h1, h2⟩ := I.mod.blt
 exact Calls.Name_function_global I.ok.kind hg (Calls.loadGlobal_builtin (by rw [I.ok.glob]; exact I.mod.glob.keeps I.bk) hm (by rw [I.ok.blt]; exact h1.keeps I.bk) ((h2 x hn).trans hv) h) hd
theorem pe_glob {x : Str} {v : V} {u : Value} {pos : Pos} (hg : Gl X x) (hm : X.mg x = some u) (r : RelV v u) (hd : (x == ("__debug__" : Str)) = false := by decide) : PE X (.Name x pos) (tC v) :=
 fun _ _ _ H _ I h => ld_glob I hg hm ⟨v, H, I, r, h⟩ hd
theorem pe_bltn {x : Str} {v : V} {u : Value} {pos : Pos} (hg : Gl X x) (hm : X.mg x = none) (hv : bootBuiltins x = some u) (r : RelV v u) (hn : x ≠ "__name__" := by decide) (hd : (x == ("__debug__" : Str)) = false := by decide) : PE X (.Name x pos) (tC v) :=
 fun _ _ _ H _ I h => ld_blt I hg hm hv ⟨v, H, I, r, h⟩ hn hd
variable {a b : Expr} {ta tb : TE} {pos : Pos}
variable {tA tB' : TT} {rest : List Expr}
noncomputable def tAnd (t u : TT) : TT := fun σ H Q => t σ H fun c H1 => if c = true then u σ H1 Q else Q false H1
noncomputable def tOr (t u : TT) : TT := fun σ H Q => t σ H fun c H1 => if c = true then Q true H1 else u σ H1 Q
noncomputable def tNot (t : TT) : TT := fun σ H Q => t σ H fun c H1 => Q (!c) H1
theorem pw_and1 (ha : PT X a tA) : PW X (.BoolOp .And [a] pos) tA := by
 intro wh pins s σ H Q I h
 refine isTrue_and (thn (ha pins s σ H Q I h) fun c s1 e => ?_)
 cases c with
 | true => exact isTrue_and_nil e
 | false => exact e
theorem pw_or1 (ha : PT X a tA) : PW X (.BoolOp .Or [a] pos) tA := by
 intro wh pins s σ H Q I h
 refine isTrue_or (thn (ha pins s σ H Q I h) fun c s1 e => ?_)
 cases c with
 | false => exact isTrue_or_nil e
 | true => exact e
theorem pw_and (ha : PT X a tA) (hb : PW X (.BoolOp .And (b :: rest) pos) tB') : PW X (.BoolOp .And (a :: b :: rest) pos) (tAnd tA tB') := by
 intro wh pins s σ H Q I h
 refine isTrue_and (thn (ha pins s σ H _ I h) fun c s1 ⟨H1, I1, q1⟩ => ?_)
 cases c with
 | true => exact hb wh pins s1 σ H1 Q I1 q1
 | false => exact ⟨H1, I1, q1⟩
theorem pw_or (ha : PT X a tA) (hb : PW X (.BoolOp .Or (b :: rest) pos) tB') : PW X (.BoolOp .Or (a :: b :: rest) pos) (tOr tA tB') := by
 intro wh pins s σ H Q I h
 refine isTrue_or (thn (ha pins s σ H _ I h) fun c s1 ⟨H1, I1, q1⟩ => ?_)
 cases c with
 | true => exact ⟨H1, I1, q1⟩
 | false => exact hb wh pins s1 σ H1 Q I1 q1
theorem pt_not (ha : PT X a tA) : PT X (.UnaryOp .Not a pos) (tNot tA) := by
 intro pins s σ H Q I h
 exact isTrue_not (ha pins s σ H (fun c H1 => Q (!c) H1) I h)
noncomputable def tAndV (ta tb : TE) : TE := fun σ H Q => ta σ H fun x H1 => ∃ c, x = .bl c ∧ if c = true then tb σ H1 Q else Q (.bl false) H1
noncomputable def tOrV (ta tb : TE) : TE := fun σ H Q => ta σ H fun x H1 => ∃ c, x = .bl c ∧ if c = true then Q (.bl true) H1 else tb σ H1 Q
theorem pe_one {op} {t : TE} (h : PE X a t) : PE X (.BoolOp op [a] pos) t := fun pins s σ H Q I hw => BoolOp_one (h pins s σ H Q I hw)
theorem pe_and (ha : PE X a ta) (hb : PE X (.BoolOp .And (b :: rest) pos) tb) : PE X (.BoolOp .And (a :: b :: rest) pos) (tAndV ta tb) := by
 intro pins s σ H Q I h
 refine BoolOp_and (thn (ha pins s σ H _ I h) fun v s1 ⟨x, H1, I1, r1, q1⟩ => ?_)
 obtain ⟨c, rfl, q1⟩ := q1
 cases r1
 refine wpAny_truthy_bool ?_
 cases c with
 | true => exact hb pins s1 σ H1 Q I1 q1
 | false => exact ⟨.bl false, H1, I1, rfl, q1⟩
theorem pe_or (ha : PE X a ta) (hb : PE X (.BoolOp .Or (b :: rest) pos) tb) : PE X (.BoolOp .Or (a :: b :: rest) pos) (tOrV ta tb) := by
 intro pins s σ H Q I h
 refine BoolOp_or (thn (ha pins s σ H _ I h) fun v s1 ⟨x, H1, I1, r1, q1⟩ => ?_)
 obtain ⟨c, rfl, q1⟩ := q1
 cases r1
 refine wpAny_truthy_bool ?_
 cases c with
 | false => exact hb pins s1 σ H1 Q I1 q1
 | true => exact ⟨.bl true, H1, I1, rfl, q1⟩
noncomputable def tIf (t : TT) (ta tb : TE) : TE := fun σ H Q => t σ H fun c H1 => if c = true then ta σ H1 Q else tb σ H1 Q
theorem pe_ifExp {c : Expr} (hc : PT X c tA) (ha : PE X a ta) (hb : PE X b tb) : PE X (.IfExp c a b pos) (tIf tA ta tb) := by
 intro pins s σ H Q I h
 refine wpAny_IfExp (thn (hc pins s σ H _ I h) fun d s1 ⟨H1, I1, q1⟩ => ?_)
 cases d with
 | true => exact ha pins s1 σ H1 Q I1 q1
 | false => exact hb pins s1 σ H1 Q I1 q1
end
end L2
namespace L2
open PySem PySem.Spec PyProof.Rows
noncomputable def SqL (K : PySem.W.Frag) (H : Hp) (a : Addr) (xs : List V) : Prop :=
 Rd H a (.lst xs) ∨
  ∃ (o : Obj) (its : Array Value) (n : Nat), K.lookup a = some o ∧ o.cls = .type "list" ∧ o.dict = none ∧ o.data = .seq its n ∧ its.size ≤ sizeLine ∧ Vals xs its.toList
noncomputable def SqT (K : PySem.W.Frag) (H : Hp) (a : Addr) (xs : List V) : Prop :=
 Rd H a (.tup xs) ∨
  ∃ (o : Obj) (its : Array Value) (n : Nat), K.lookup a = some o ∧ o.cls = .type "tuple" ∧ o.data = .seq its n ∧ its.size ≤ sizeLine ∧ Vals xs its.toList
noncomputable def absV : Value → Option V
 | .none => some .non
 | .bool b => some (.bl b)
 | .int i _ => some (.int i)
 | .str x _ => some (.str x)
 | .bytes b _ => some (.byt b)
 | .float b _ => some (.flt b)
 | .ref a => some (.ref a)
 | .type n => some (.ty n)
 | _ => none
theorem RelV.abs {x : V} {u : Value} (r : RelV x u) : absV u = some x := by
 cases x with
 | non => cases r; rfl
 | bl _ => cases r; rfl
 | int _ => obtain ⟨t, rfl⟩ := r; rfl
 | str _ => obtain ⟨t, rfl⟩ := r; rfl
 | byt _ => obtain ⟨t, rfl⟩ := r; rfl
 | flt _ => obtain ⟨t, rfl⟩ := r; rfl
 | ref _ => cases r; rfl
 | ty _ => cases r; rfl
theorem RelV.inj {x y : V} {u : Value} (r : RelV x u) (q : RelV y u) : x = y := Option.some.inj (r.abs.symm.trans q.abs)
theorem Vals.inj : ∀ {xs ys : List V} {us : List Value}, Vals xs us → Vals ys us → xs = ys
 | _, _, _, .nil, .nil => rfl
 | _, _, _, .cons r t, .cons r' t' => by rw [r.inj r', Vals.inj t t']
section
variable {X : Cx} {pins : List (Addr × Obj)} {σ : St} {H : Hp} {s : Shared} {a : Addr} {xs ys : List V}
theorem SqL.of {K : PySem.W.Frag} (h : H a = some (.lst xs)) : SqL K H a xs := .inl (.inl h)
theorem SqT.of {K : PySem.W.Frag} (h : H a = some (.tup xs)) : SqT K H a xs := .inl (.inl h)
theorem Inv.list (I : Inv X pins σ H s) (h : SqL X.K H a xs) : ∃ its : List Value, Vals xs its ∧ PlainL s.heap a its.toArray ∧ xs.length ≤ sizeLine := by
 rcases h with h | ⟨o, its, n, hk, hc, hd, hs, hz, r⟩
 ·obtain ⟨z, its, n, r, e⟩ := h.ok I.hok
  exact ⟨its, r, ⟨_, n, e, rfl, rfl, rfl⟩, z⟩
 ·refine ⟨its.toList, r, ⟨o, n, I.kIn a o hk, hc, hd, by simpa using hs⟩, ?_⟩
  have e := r.length
  simp only [Array.length_toList] at e
  omega
theorem Inv.tuple (I : Inv X pins σ H s) (h : SqT X.K H a xs) : ∃ its : List Value, Vals xs its ∧ IsTup s.heap a its.toArray ∧ xs.length ≤ sizeLine := by
 rcases h with h | ⟨o, its, n, hk, hc, hs, hz, r⟩
 ·obtain ⟨z, its, r, p⟩ := h.ok I.hok
  exact ⟨its, r, p, z⟩
 ·refine ⟨its.toList, r, ⟨o, I.kIn a o hk, hc, n, by simpa using hs⟩, ?_⟩
  have e := r.length
  simp only [Array.length_toList] at e
  omega
theorem Inv.list_inj (I : Inv X pins σ H s) (h : SqL X.K H a xs) (h' : SqL X.K H a ys) : xs = ys := by
 obtain ⟨its, r, ⟨o, n, e, _, _, d⟩, _⟩ := I.list h
 obtain ⟨its', r', ⟨o', n', e', _, _, d'⟩, _⟩ := I.list h'
 rw [e] at e'; cases e'
 rw [d] at d'
 injection d' with d1 _
 have : its = its' := by simpa using congrArg Array.toList d1
 subst this
 exact r.inj r'
theorem Inv.tuple_inj (I : Inv X pins σ H s) (h : SqT X.K H a xs) (h' : SqT X.K H a ys) : xs = ys := by
 obtain ⟨its, r, ⟨o, e, _, n, d⟩, _⟩ := I.tuple h
 obtain ⟨its', r', ⟨o', e', _, n', d'⟩, _⟩ := I.tuple h'
 rw [e] at e'; cases e'
 rw [d] at d'
 injection d' with d1 _
 have : its = its' := by simpa using congrArg Array.toList d1
 subst this
 exact r.inj r'
end
noncomputable abbrev Cx.wish (X : Cx) (E : Value → Shared → Prop) : Cx := { X with xe := E }
noncomputable abbrev Cx.nox (X : Cx) : Cx := X.wish fun _ _ => False
theorem Cx.Ok.wish {X : Cx} (ok : X.Ok) (E : Value → Shared → Prop) : (X.wish E).Ok :=
 ⟨ok.mod, ok.kind, ok.glob, ok.blt, ok.above, ok.inj, ok.has, ok.cab, ok.hd, ok.frames, ok.stk, ok.exf, ok.bs, ok.bsz, ok.noex, ok.exfs, ok.funs, ok.frf⟩
theorem Cx.Ok.unwish {X : Cx} {E : Value → Shared → Prop} (ok : (X.wish E).Ok) : X.Ok :=
 ⟨ok.mod, ok.kind, ok.glob, ok.blt, ok.above, ok.inj, ok.has, ok.cab, ok.hd, ok.frames, ok.stk, ok.exf, ok.bs, ok.bsz, ok.noex, ok.exfs, ok.funs, ok.frf⟩
section
variable {X : Cx} {pins : List (Addr × Obj)} {σ : St} {H : Hp} {s : Shared} {E : Value → Shared → Prop}
theorem Inv.wish (I : Inv X pins σ H s) (E : Value → Shared → Prop) : Inv (X.wish E) pins σ H s := ⟨I.ok.wish E, I.os, I.bare, I.base, I.loc, I.cell, I.free, I.freeC, I.pin, I.hok, I.len⟩
theorem Inv.unwish (I : Inv (X.wish E) pins σ H s) : Inv X pins σ H s := ⟨I.ok.unwish, I.os, I.bare, I.base, I.loc, I.cell, I.free, I.freeC, I.pin, I.hok, I.len⟩
theorem SP.unwish {D : Ends} {f : Flow} {s' : Shared} (h : SP (X.wish E) pins D f s') : SP X pins D f s' := by
 cases f with
 | next => obtain ⟨σ', H', I, q⟩ := h; exact ⟨σ', H', I.unwish, q⟩
 | brk => obtain ⟨σ', H', I, q⟩ := h; exact ⟨σ', H', I.unwish, q⟩
 | cont => obtain ⟨σ', H', I, q⟩ := h; exact ⟨σ', H', I.unwish, q⟩
 | ret u => obtain ⟨v, σ', H', I, r, q⟩ := h; exact ⟨v, σ', H', I.unwish, r, q⟩
theorem PSs.nox {st : List Stmt} {t : TS} (h : PSs X.nox st t) : PSs X st t := fun pins s σ H D I hw =>
 wpAny_mono (h pins s σ H D (I.wish _) hw) (fun _ _ q => q.unwish) fun _ _ z => False.elim z
end
section
variable {X : Cx} {st : Stmt} {rest : List Stmt} {t u : TS} {e : Expr} {te : TE} {pos : Pos}
noncomputable def tNext : TS := fun D σ H => D.nx σ H
noncomputable def tSeq (t u : TS) : TS := fun D σ H => t { D with nx := u D } σ H
theorem pss_nil : PSs X [] tNext := fun _ _ σ H _ I h => wpAny_execs_nil ⟨σ, H, I, h⟩
theorem pss_cons (h1 : PS X st t) (h2 : PSs X rest u) : PSs X (st :: rest) (tSeq t u) := by
 intro pins s σ H D I h
 refine wpAny_execs_cons (thn (h1 pins s σ H { D with nx := u D } I h) fun f s1 q => ?_)
 cases f with
 | next =>
  obtain ⟨σ', H', I', q⟩ := q
  exact h2 pins s1 σ' H' D I' q
 | ret v => exact q
 | brk => exact q
 | cont => exact q
theorem pss_one (h1 : PS X st t) : PSs X [st] t := by
 intro pins s σ H D I h
 refine wpAny_execs_cons (thn (h1 pins s σ H D I h) fun f s1 q => ?_)
 cases f with
 | next => exact wpAny_execs_nil q
 | ret v => exact q
 | brk => exact q
 | cont => exact q
theorem ps_pass : PS X (.Pass pos) tNext := fun _ _ σ H _ I h => wpAny_Pass ⟨σ, H, I, h⟩
theorem Inv.quiet {pins : List (Addr × Obj)} {σ : St} {H : Hp} {s : Shared} (I : Inv X pins σ H s) : interactive X.env = false := by simp [interactive, I.ok.kind]
noncomputable def tDrop (te : TE) : TS := fun D σ H => te σ H fun _ H1 => D.nx σ H1
theorem ps_expr (he : PE X e te) (hs : swapsWith e none pos.line X.env = pure false := by rfl) : PS X (.Expr e pos) (tDrop te) := by
 intro pins s σ H D I h
 exact wpAny_Expr_any (thn (he pins s σ H _ I h) fun v s1 ⟨x, H1, I1, r1, q1⟩ => ⟨σ, H1, I1, q1⟩) I.quiet hs
noncomputable def tRet (te : TE) : TS := fun D σ H => te σ H D.rt
theorem ps_ret (he : PE X e te) : PS X (.Return (some e) pos) (tRet te) := by
 intro pins s σ H D I h
 exact wpAny_Return_some (thn (he pins s σ H _ I h) fun v s1 ⟨x, H1, I1, r1, q1⟩ => ⟨x, σ, H1, I1, r1, q1⟩)
noncomputable def tIfS (c : TT) (t u : TS) : TS := fun D σ H => c σ H fun b H1 => if b = true then t D σ H1 else u D σ H1
theorem ps_if {c : Expr} {a b : List Stmt} {tc : TT} (hc : PT X c tc) (ha : PSs X a t) (hb : PSs X b u) : PS X (.If c a b pos) (tIfS tc t u) := by
 intro pins s σ H D I h
 refine wpAny_If (thn (hc pins s σ H _ I h) fun d s1 ⟨H1, I1, q1⟩ => ?_)
 cases d with
 | true => exact ha pins s1 σ H1 D I1 q1
 | false => exact hb pins s1 σ H1 D I1 q1
end
noncomputable abbrev TG := V → St → Hp → (St → Hp → Prop) → Prop
noncomputable abbrev TGs := List V → St → Hp → (St → Hp → Prop) → Prop
noncomputable def PG (X : Cx) (target : Expr) (t : TG) : Prop :=
 ∀ (pins : List (Addr × Obj)) (s : Shared) (σ : St) (H : Hp) (v : V) (u : Value) (Q : St → Hp → Prop), Inv X pins σ H s → RelV v u → t v σ H Q →
  wpAny (model X.prog X.w) X.A (assign target X.env u) (fun _ s' => ∃ σ' H', Inv X pins σ' H' s' ∧ Q σ' H') X.xe s
noncomputable def PGs (X : Cx) (ts : List Expr) (t : TGs) : Prop :=
 ∀ (pins : List (Addr × Obj)) (s : Shared) (σ : St) (H : Hp) (vs : List V) (us : List Value) (Q : St → Hp → Prop), Inv X pins σ H s → Vals vs us → t vs σ H Q →
  wpAny (model X.prog X.w) X.A (assignInOrder ((assignEach ts X.env).map (·.2)) us) (fun _ s' => ∃ σ' H', Inv X pins σ' H' s' ∧ Q σ' H') X.xe s
noncomputable abbrev TSet := V → V → V → Hp → (Hp → Prop) → Prop
noncomputable def PSet (X : Cx) (t : TSet) : Prop :=
 ∀ (pins : List (Addr × Obj)) (s : Shared) (σ : St) (H : Hp) (o i v : V) (ov iv u : Value) (Q : Hp → Prop), Inv X pins σ H s → RelV o ov → RelV i iv → RelV v u → t o i v H Q →
  wpAny (model X.prog X.w) X.A (setItem ov iv u) (fun _ s' => ∃ H', Inv X pins σ H' s' ∧ Q H') X.xe s
section
variable {X : Cx} {pos : Pos}
noncomputable def gName (i : Nat) : TG := fun v σ H Q => Q (σ.set i (some v)) H
theorem pg_name {i : Nat} {x : Str} (hN : X.N.Nodup) (hi : X.N[i]? = some x) (hx : Loc X.env.scope x) (hf : X.fn x = true ∨ X.env.scope.names.lookup x = some .local := by first | exact .inl rfl | exact .inr rfl | assumption) : PG X (.Name x pos) (gName i) := by
 intro pins s σ H v u Q I r h
 exact wpAny_assign_Name (store_ok I hN hi hx r (fun s' I' => ⟨_, H, I', h⟩) hf)
noncomputable def gNil : TGs := fun vs σ H Q => vs = [] ∧ Q σ H
noncomputable def gCons (t : TG) (u : TGs) : TGs := fun vs σ H Q => ∃ v r, vs = v :: r ∧ t v σ H fun σ' H' => u r σ' H' Q
theorem pgs_nil : PGs X [] gNil := by
 intro pins s σ H vs us Q I r h
 obtain ⟨e, h⟩ := h
 subst e
 cases r
 exact assignInOrder_nil ⟨σ, H, I, h⟩
theorem pgs_cons {e : Expr} {es : List Expr} {t : TG} {u : TGs} (h1 : PG X e t) (h2 : PGs X es u)
  (hs : (assignEach (e :: es) X.env).map (·.2) = assign e X.env :: (assignEach es X.env).map (·.2) := by rfl) : PGs X (e :: es) (gCons t u) := by
 intro pins s σ H vs us Q I r h
 obtain ⟨v, vr, e1, h⟩ := h
 subst e1
 cases r with
 | cons r rr =>
  rw [hs]
  refine assignInOrder_cons (thn (h1 pins s σ H _ _ _ I r h) fun _ s1 ⟨σ1, H1, I1, q1⟩ => ?_)
  exact h2 pins s1 σ1 H1 _ _ Q I1 rr q1
noncomputable def gTup (K : PySem.W.Frag) (n : Nat) (t : TGs) : TG := fun v σ H Q => ∃ a xs, v = .ref a ∧ SqT K H a xs ∧ xs.length = n ∧ t xs σ H Q
theorem pg_tup {es : List Expr} {k : Nat} {t : TGs} {n : Nat} (hc : X.calm = true) (h : PGs X es t)
  (hn : (assignEach es X.env).length = n := by rfl) (hst : (assignEach es X.env).findIdx? (·.1) = none := by rfl) : PG X (.Tuple es k pos) (gTup X.K n t) := by
 intro pins s σ H v u Q I r hw
 obtain ⟨a, xs, e1, hq, hl, hw⟩ := hw
 subst e1
 cases r
 obtain ⟨its, rv, ht, hz⟩ := I.tuple hq
 refine assign_Tuple_tuple (I.ok.hd hc) ht (by simp [hn, ← hl, rv.length]) hst fun h' hx => ?_
 have I1 : Inv X pins σ H { s with heap := h' } := I.kept (t' := s.toks) fun b o e => hx b o (Nat.ne_of_lt (Heap.lt_size e)) e
 exact h pins _ σ H xs _ Q I1 (by simpa using rv) hw
noncomputable def gSub (to ti : TE) (t : TSet) : TG := fun v σ H Q => to σ H fun o H1 => ti σ H1 fun i H2 => t o i v H2 fun H3 => Q σ H3
theorem pg_sub {o i : Expr} {to ti : TE} {t : TSet} (ho : PE X o to) (hi : PE X i ti) (hs : PSet X t)
  (ha : ∀ v, assign (.Subscript o i pos) X.env v = (do
   let ov ← holding [v] (eval o X.env)
   let iv ← holding [v, ov] (eval i X.env)
   standAt pos
   holding [v, ov, iv] (setItem ov iv v)
   release [v, ov, iv] []) := by intro _; rfl) : PG X (.Subscript o i pos) (gSub to ti t) := by
 intro pins s σ H v u Q I r h
 rw [ha]
 refine wpAny_bind (wpAny_holding (thn (ho pins s σ H _ I h) fun ov s1 ⟨x, H1, I1, r1, q1⟩ => ?_))
 refine wpAny_bind (wpAny_holding (thn (hi pins s1 σ H1 _ I1 q1) fun iv s2 ⟨y, H2, I2, r2, q2⟩ => ?_))
 refine wpAny_bind (wpAny_standAt (wpAny_bind (wpAny_holding (thn (hs pins s2 σ H2 x y v ov iv u _ I2 r1 r2 r q2) fun _ s3 ⟨H3, I3, q3⟩ => ?_))))
 exact wpAny_release ⟨σ, H3, I3, q3⟩
noncomputable def tAsg (te : TE) (g : TG) : TS := fun D σ H => te σ H fun x H1 => g x σ H1 D.nx
theorem ps_asg {tg e : Expr} {te : TE} {g : TG} (he : PE X e te) (hg : PG X tg g) (hs : swapsWithSole [tg] e pos.line X.env = pure false := by rfl) (hw : swappedStores [tg] e X.env = pure none := by rfl)
    (h1 : (assignEach [tg] X.env).map (·.2) = [assign tg X.env] := by rfl) : PS X (.Assign [tg] e pos) (tAsg te g) := by
  intro pins s σ H D I h
  refine wpAny_Assign_stores (thn (he pins s σ H _ I h) fun v s1 ⟨x, H1, I1, r1, q1⟩ => ?_) hs hw
  rw [h1]
  exact thn (hg pins s1 σ H1 x v _ I1 r1 q1) fun _ s2 q => q
theorem ps_set {i : Nat} {x : Str} {e : Expr} {te : TE} {pos' : Pos} (hN : X.N.Nodup) (hi : X.N[i]? = some x) (hx : Loc X.env.scope x) (he : PE X e te) (hs : swapsWith e (some (.Name x pos')) pos.line X.env = pure false := by rfl) (hf : X.fn x = true ∨ X.env.scope.names.lookup x = some .local := by first | exact .inl rfl | exact .inr rfl | assumption) :
    PS X (.Assign [.Name x pos'] e pos) (tAsg te (gName i)) := by
  intro pins s σ H D I h
  refine wpAny_Assign_Name (thn (he pins s σ H _ I h) fun v s1 ⟨y, H1, I1, r1, q1⟩ => ?_) hs
  exact store_ok I1 hN hi hx r1 (fun s2 I2 => ⟨_, H1, I2, q1⟩) hf
end
section
variable {X : Cx} {pos : Pos}
end
structure It where
 go : Nat → Hp → Prop
 yld : Nat → Hp → V → Hp → Prop
 stop : Nat → Hp → Prop
noncomputable def FpOk (X : Cx) (pins : List (Addr × Obj)) (H : Hp) (b : Addr) : Prop :=
 H b = none ∧ b ≠ X.env.locals ∧ b ∉ X.fs ∧ (b ∈ X.ex ∨ X.s₀.heap.objs.size ≤ b) ∧ (∀ x c, X.env.cells.lookup x = some c → c ≠ b) ∧ ∀ p ∈ X.pn ++ pins, p.1 ≠ b
theorem Inv.fpOk {X : Cx} {pins : List (Addr × Obj)} {σ : St} {H H' : Hp} {s : Shared} {b : Addr} (I : Inv X pins σ H s) (hb : s.heap.objs.size ≤ b) (hn : H' b = none) : FpOk X pins H' b := by
 refine ⟨hn, Nat.ne_of_gt (Nat.lt_of_lt_of_le I.lt hb), I.nofs hb, .inr (Nat.le_trans I.sz hb), fun x c e z => ?_, fun p hp z => ?_⟩
 ·obtain ⟨v, q⟩ := I.cell x c e
  exact absurd (Nat.lt_of_lt_of_le q.lt (by rw [z]; exact hb)) (Nat.lt_irrefl _)
 ·exact absurd (Nat.lt_of_lt_of_le (Heap.lt_size (I.pin p hp).1) (by rw [z]; exact hb)) (Nat.lt_irrefl _)
structure Turn (P : Program) (w : World) (K : PySem.W.Frag) (tg : Expr) (J : It) (fp : List Addr) (it : Addr) (tn : Nat → Heap → Prop) : Prop where
 mem : it ∈ fp
 obj : ∀ i h, tn i h → ∀ b ∈ fp, ∃ o, h.get? b = some o ∧ ∀ v, o.data ≠ .cell v
 keep : ∀ i h h', tn i h → (∀ b ∈ fp, ∀ o, h.get? b = some o → h'.get? b = some o) → tn i h'
 item : ∀ (X : Cx), X.prog = P → X.w = w → X.K = K → X.calm = true → ∀ (i : Nat) (pins : List (Addr × Obj)) (s : Shared) (σ : St) (H : Hp) (E : Value → Shared → Prop), Inv X pins σ H s → (∀ b ∈ fp, FpOk X pins H b) → tn i s.heap → J.go i H →
  wpAny (model P w) X.A (pyNext (.ref it)) (fun r s1 => ∃ u, r = some u ∧
   wpAny (model P w) X.A (letOwnedTupleGo tg (.ref it) u) (fun _ s2 => ∃ x H', Inv X pins σ H' s2 ∧ RelV x u ∧ J.yld i H x H' ∧ tn (i + 1) s2.heap ∧ ∀ b ∈ fp, H' b = none) E s1) E s
 done : ∀ (X : Cx), X.prog = P → X.w = w → X.K = K → X.calm = true → ∀ (i : Nat) (pins : List (Addr × Obj)) (s : Shared) (σ : St) (H : Hp) (E : Value → Shared → Prop), Inv X pins σ H s → (∀ b ∈ fp, FpOk X pins H b) → tn i s.heap → J.stop i H →
  wpAny (model P w) X.A (pyNext (.ref it)) (fun r s1 => r = none ∧ Inv X pins σ H s1) E s
 self : ∀ (A : Around) (i : Nat) (s : Shared) (Q : Value → Shared → Prop) (E : Value → Shared → Prop), tn i s.heap → Q (.ref it) s → wpAny (model P w) A (pyIter (.ref it)) Q E s
noncomputable abbrev TI := St → Hp → (It → Hp → Prop) → Prop
noncomputable def PIE (X : Cx) (pins : List (Addr × Obj)) (σ : St) (tg : Expr) (R : It → Hp → Prop) (itv : Value) (s2 : Shared) : Prop :=
 ∃ (it : Addr) (fp : List Addr) (tn : Nat → Heap → Prop) (J : It) (H' : Hp), itv = .ref it ∧ Inv X pins σ H' s2 ∧ Turn X.prog X.w X.K tg J fp it tn ∧ tn 0 s2.heap ∧ (∀ b ∈ fp, FpOk X pins H' b) ∧ R J H'
noncomputable def PI (X : Cx) (tg iter : Expr) (wi : TI) : Prop :=
 ∀ (pins : List (Addr × Obj)) (s : Shared) (σ : St) (H : Hp) (R : It → Hp → Prop), Inv X pins σ H s → wi σ H R →
  wpAny (model X.prog X.w) X.A (eval iter X.env) (fun v s1 => wpAny (model X.prog X.w) X.A (pyIter v) (PIE X pins σ tg R) X.xe s1) X.xe s
theorem go_of {M : Model} {A : Around} {E : Value → Shared → Prop} {s : Shared} {tg : Expr} {it : Addr} {u : Value} {o : Obj} {n : String} {vs : Array Value} {Q : Unit → Shared → Prop} (ho : s.heap.get? it = some o) (hc : o.cls = .type n) (hd : o.data = .fields vs)
    (hn : ["enumerate", "zip", "dict_itemiterator", "dict_reverseitemiterator", "odict_iterator", "itertools.zip_longest", "itertools.pairwise"].contains n = false) (hQ : Q () s) : wpAny M A (letOwnedTupleGo tg (.ref it) u) Q E s := by
  unfold letOwnedTupleGo
  cases tg <;> first
    | exact wpAny_pure hQ
    | (cases u <;> first
        | exact wpAny_pure hQ
        | (refine wpAny_bind (wpAny_load ho ?_)
           rw [hc, hd]
           show wpAny M A (if (["enumerate", "zip", "dict_itemiterator", "dict_reverseitemiterator", "odict_iterator", "itertools.zip_longest", "itertools.pairwise"].contains n && vs[0]? == some (rawInt _)) = true then _ else _) Q E s
           rw [if_neg (by intro h; rw [hn, Bool.false_and] at h; cases h)]
           exact wpAny_pure hQ))
noncomputable def Itl (K : PySem.W.Frag) (a : Addr) : It :=
 ⟨fun i H => ∃ xs x, SqL K H a xs ∧ xs[i]? = some x, fun i H x H' => H' = H ∧ ∀ xs, SqL K H a xs → xs[i]? = some x, fun i H => ∃ xs, SqL K H a xs ∧ xs.length ≤ i⟩
noncomputable def Itt (K : PySem.W.Frag) (a : Addr) : It :=
 ⟨fun i H => ∃ xs x, SqT K H a xs ∧ xs[i]? = some x, fun i H x H' => H' = H ∧ ∀ xs, SqT K H a xs → xs[i]? = some x, fun i H => ∃ xs, SqT K H a xs ∧ xs.length ≤ i⟩
noncomputable def Itr (lo : Int) (n : Nat) : It := ⟨fun i _ => i < n, fun i H x H' => H' = H ∧ x = .int (lo + i), fun i _ => n ≤ i⟩
theorem turn_list {P : Program} {w : World} {K : PySem.W.Frag} {tg : Expr} (a it : Addr) : Turn P w K tg (Itl K a) [it] it (fun i h => h.IsListIter it a i) where
 mem := by simp
 obj := fun i h st b hb => by
  have e : b = it := by simpa using hb
  subst e
  obtain ⟨o, e, c, d⟩ := st
  exact ⟨o, e, fun v z => by rw [d] at z; cases z⟩
 keep := fun i h h' st k => st.at fun o e => k it (by simp) o e
 item := by
  intro X hP hw hK hc i pins s σ H E I hf st hg
  subst hP hw hK
  obtain ⟨xs, x, hq, hx⟩ := hg
  obtain ⟨its, rv, p, hz⟩ := I.list hq
  obtain ⟨u, hu, ru⟩ := rv.get hx
  obtain ⟨f0, f1, f2, f3, f4, f5⟩ := hf it (by simp)
  refine wpAny_pyNext_list_item st p.isList (x := u) (by simpa using hu) fun h' st' sb => ?_
  have I1 : Inv X pins σ H { s with heap := h' } := I.turned (t' := s.toks) (fun b o hb e => (sb.2 b hb).trans e) f0 f1 f3 f4 f5
  obtain ⟨o, e, c, d⟩ := id st'
  exact ⟨u, rfl, go_of (s := { s with heap := h' }) e c d (by decide) ⟨x, H, I1, ru, ⟨rfl, fun ys hy => by rw [I.list_inj hy hq]; exact hx⟩, st', fun b hb => (hf b hb).1⟩⟩
 done := by
  intro X hP hw hK hc i pins s σ H E I hf st hg
  subst hP hw hK
  obtain ⟨xs, hq, hx⟩ := hg
  obtain ⟨its, rv, p, hz⟩ := I.list hq
  obtain ⟨f0, f1, f2, f3, f4, f5⟩ := hf it (by simp)
  have hl := rv.length
  exact wpAny_pyNext_list_end (I.ok.hd hc) st p.isList (by simp; omega) fun h' eb => ⟨rfl, I.turned (t' := s.toks) (fun b o hb e => eb b o hb e) f0 f1 f3 f4 f5⟩
 self := fun _ _ _ _ _ st h => wpAny_pyIter_listiter st h
theorem turn_tuple {P : Program} {w : World} {K : PySem.W.Frag} {tg : Expr} (a it : Addr) : Turn P w K tg (Itt K a) [it] it (fun i h => h.IsTupleIter it a i) where
 mem := by simp
 obj := fun i h st b hb => by
  have e : b = it := by simpa using hb
  subst e
  obtain ⟨o, e, c, d⟩ := st
  exact ⟨o, e, fun v z => by rw [d] at z; cases z⟩
 keep := fun i h h' st k => st.at fun o e => k it (by simp) o e
 item := by
  intro X hP hw hK hc i pins s σ H E I hf st hg
  subst hP hw hK
  obtain ⟨xs, x, hq, hx⟩ := hg
  obtain ⟨its, rv, p, hz⟩ := I.tuple hq
  obtain ⟨u, hu, ru⟩ := rv.get hx
  obtain ⟨f0, f1, f2, f3, f4, f5⟩ := hf it (by simp)
  refine wpAny_pyNext_tuple_item st (show s.heap.IsTuple a its.toArray from p) (x := u) (by simpa using hu) fun h' st' sb => ?_
  have I1 : Inv X pins σ H { s with heap := h' } := I.turned (t' := s.toks) (fun b o hb e => (sb.2 b hb).trans e) f0 f1 f3 f4 f5
  obtain ⟨o, e, c, d⟩ := id st'
  exact ⟨u, rfl, go_of (s := { s with heap := h' }) e c d (by decide) ⟨x, H, I1, ru, ⟨rfl, fun ys hy => by rw [I.tuple_inj hy hq]; exact hx⟩, st', fun b hb => (hf b hb).1⟩⟩
 done := by
  intro X hP hw hK hc i pins s σ H E I hf st hg
  subst hP hw hK
  obtain ⟨xs, hq, hx⟩ := hg
  obtain ⟨its, rv, p, hz⟩ := I.tuple hq
  obtain ⟨f0, f1, f2, f3, f4, f5⟩ := hf it (by simp)
  have hl := rv.length
  exact wpAny_pyNext_tuple_end (I.ok.hd hc) st (show s.heap.IsTuple a its.toArray from p) (by simp; omega) fun h' eb => ⟨rfl, I.turned (t' := s.toks) (fun b o hb e => eb b o hb e) f0 f1 f3 f4 f5⟩
 self := fun _ _ _ _ _ st h => wpAny_pyIter_tupleiter st h
theorem turn_range {P : Program} {w : World} {K : PySem.W.Frag} {tg : Expr} (it : Addr) (lo : Int) (n : Nat) : Turn P w K tg (Itr lo n) [it] it (fun i h => IsRangeIter h it (lo + (i : Nat) * 1) ((n : Int) - (i : Nat)) 1) where
 mem := by simp
 obj := fun i h st b hb => by
  have e : b = it := by simpa using hb
  subst e
  exact ⟨_, st, fun v z => by
   have z' : Data.fields _ = Data.cell v := z
   cases z'⟩
 keep := fun i h h' st k => k it (by simp) _ st
 item := by
  intro X hP hw hK hc i pins s σ H E I hf st hg
  subst hP hw hK
  obtain ⟨f0, f1, f2, f3, f4, f5⟩ := hf it (by simp)
  have W := Walks.range (prog := X.prog) (w := X.w) (I.ok.hd hc) it lo 1 n
  refine W.item i s _ _ hg st fun v h' tk hv st' kk => ?_
  obtain ⟨t, rfl⟩ := hv
  have I1 : Inv X pins σ H { s with heap := h', toks := tk } := I.turned (fun b o hb e => kk b o (by simpa using hb) e) f0 f1 f3 f4 f5
  refine ⟨_, rfl, go_of (s := { s with heap := h', toks := tk }) (n := "range_iterator") st' rfl rfl (by decide) ⟨.int (lo + i), H, I1, ⟨t, ?_⟩, ⟨rfl, rfl⟩, st', fun b hb => (hf b hb).1⟩⟩
  rw [Int.mul_one]
 done := by
  intro X hP hw hK hc i pins s σ H E I hf st hg
  subst hP hw hK
  obtain ⟨f0, f1, f2, f3, f4, f5⟩ := hf it (by simp)
  exact wpAny_pyNext_range_end (I.ok.hd hc) st (by have : n ≤ i := hg; omega) fun h' eb => ⟨rfl, I.turned (t' := s.toks) (fun b o hb e => eb b o hb e) f0 f1 f3 f4 f5⟩
 self := fun _ _ _ _ _ st h => wpAny_pyIter_rangeiter st h
end L2
namespace L2
open PySem PySem.Spec PyProof.Rows
section
variable {X : Cx} {tg : Expr}
noncomputable def iList (K : PySem.W.Frag) (tl : TE) : TI := fun σ H R => tl σ H fun x H1 => ∃ a, x = .ref a ∧ (∃ xs, SqL K H1 a xs) ∧ R (Itl K a) H1
noncomputable def iTup (K : PySem.W.Frag) (tl : TE) : TI := fun σ H R => tl σ H fun x H1 => ∃ a, x = .ref a ∧ (∃ xs, SqT K H1 a xs) ∧ R (Itt K a) H1
theorem pi_list {l : Expr} {tl : TE} (hl : PE X l tl) : PI X tg l (iList X.K tl) := by
 intro pins s σ H R I h
 refine thn (hl pins s σ H _ I h) fun v s1 ⟨x, H1, I1, r1, q1⟩ => ?_
 obtain ⟨a, e, ⟨xs, hq⟩, q⟩ := q1
 subst e
 cases r1
 obtain ⟨its, rv, p, hz⟩ := I1.list hq
 refine wpAny_pyIter_list p.isList ?_
 refine ⟨s1.heap.objs.size, [s1.heap.objs.size], _, _, H1, rfl, I1.kept (t' := s1.toks) fun b o e => Heap.get?_push_of_some _ e, turn_list a _, ⟨_, Heap.get?_push_size _ rfl, rfl, rfl⟩, fun b hb => ?_, q⟩
 have e : b = s1.heap.objs.size := by simpa using hb
 subst e
 exact I1.fpOk (Nat.le_refl _) (I1.hok.fresh (Nat.le_refl _))
theorem pi_tup {l : Expr} {tl : TE} (hl : PE X l tl) : PI X tg l (iTup X.K tl) := by
 intro pins s σ H R I h
 refine thn (hl pins s σ H _ I h) fun v s1 ⟨x, H1, I1, r1, q1⟩ => ?_
 obtain ⟨a, e, ⟨xs, hq⟩, q⟩ := q1
 subst e
 cases r1
 obtain ⟨its, rv, p, hz⟩ := I1.tuple hq
 refine wpAny_pyIter_tuple (show s1.heap.IsTuple a its.toArray from p) ?_
 refine ⟨s1.heap.objs.size, [s1.heap.objs.size], _, _, H1, rfl, I1.kept (t' := s1.toks) fun b o e => Heap.get?_push_of_some _ e, turn_tuple a _, ⟨_, Heap.get?_push_size _ rfl, rfl, rfl⟩, fun b hb => ?_, q⟩
 have e : b = s1.heap.objs.size := by simpa using hb
 subst e
 exact I1.fpOk (Nat.le_refl _) (I1.hok.fresh (Nat.le_refl _))
theorem range_it {pins : List (Addr × Obj)} {σ : St} {H : Hp} {s : Shared} {R : It → Hp → Prop} {E : Value → Shared → Prop} {lo hi : Int} {t u v : Tok} {tk : Nat} (I : Inv X pins σ H s) (h1 : -(2 ^ 62) ≤ lo) (h2 : lo < 2 ^ 62) (h3 : -(2 ^ 62) ≤ hi) (h4 : hi < 2 ^ 62)
  (q : R (Itr lo (hi - lo).toNat) H) : wpAny (model X.prog X.w) X.A (pyIter (.ref s.heap.objs.size)) (PIE X pins σ tg R) E { s with heap := s.heap.push { cls := .type "range", data := .fields #[.int lo t, .int hi u, .int 1 v] }, toks := tk } := by
 refine wpAny_pyIter_range (IsRange.new ..) (small_one h1 h2 h3 h4) ?_
 have I1 : Inv X pins σ H { s with heap := s.heap.push { cls := .type "range", data := .fields #[.int lo t, .int hi u, .int 1 v] }, toks := tk } := I.kept fun b o e => Heap.get?_push_of_some _ e
 refine ⟨(s.heap.push { cls := .type "range", data := .fields #[.int lo t, .int hi u, .int 1 v] }).objs.size, [(s.heap.push { cls := .type "range", data := .fields #[.int lo t, .int hi u, .int 1 v] }).objs.size], _, _, H, rfl,
  I1.kept (t' := tk) fun b o e => Heap.get?_push_of_some _ e, turn_range _ lo (hi - lo).toNat, ?_, fun b hb => ?_, q⟩
 ·have e1 : lo + ((0 : Nat) : Int) * 1 = lo := by simp
  have e2 : (((hi - lo).toNat : Nat) : Int) - ((0 : Nat) : Int) = Builtin.Range.rangeSize lo hi 1 := by rw [rangeSize_one]; split <;> omega
  show IsRangeIter _ _ (lo + ((0 : Nat) : Int) * 1) ((((hi - lo).toNat : Nat) : Int) - ((0 : Nat) : Int)) 1
  rw [e1, e2]
  exact Heap.get?_push_size _ rfl
 ·have e : b = (s.heap.push { cls := .type "range", data := .fields #[.int lo t, .int hi u, .int 1 v] }).objs.size := by simpa using hb
  subst e
  exact I1.fpOk (Nat.le_refl _) (I1.hok.fresh (Nat.le_refl _))
noncomputable def iRng1 (ta : TA) : TI := fun σ H R => ta σ H fun vs H1 => ∃ j : Int, vs = [.int j] ∧ -(2 ^ 62) ≤ j ∧ j < 2 ^ 62 ∧ R (Itr 0 j.toNat) H1
theorem pi_range1 {a : Expr} {ta : TA} {p pos : Pos} (hg : Gl X "range") (hm : X.mg "range" = none) (ha : PA X [a] ta) (hs : starEach [a] X.env = [(false, eval a X.env)] := by rfl) : PI X tg (.Call (.Name "range" p) [a] [] pos) (iRng1 ta) := by
 intro pins s σ H R I h
 refine Call_ (ld_blt I hg hm boot_range (PyProof.Rows.callWith_type1 (thn (ha pos pins s σ H _ I h) fun us s1 ⟨vs, H1, I1, r1, q1⟩ => ?_) hs rfl))
 obtain ⟨j, e, q1, q2, q⟩ := q1
 subst e
 cases r1 with
 | cons r rr =>
  cases rr
  obtain ⟨t, rfl⟩ := r
  exact call_range_1 (range_it I1 (by omega) (by omega) q1 q2 (by simpa using q))
noncomputable def tFor (wi : TI) (g : TG) (tb : TS) : TS := fun D σ H => wi σ H fun J H1 => ∃ W : Nat → Nat → St → Hp → Prop, (∃ m, W 0 m σ H1) ∧ ∀ i m σ H, W i m σ H →
 (J.stop i H ∧ D.nx σ H) ∨ (J.go i H ∧ ∃ N : St → Hp → Prop, (∀ σ' H', N σ' H' → ∃ m', m' < m ∧ W (i + 1) m' σ' H') ∧ ∀ x H', J.yld i H x H' → g x σ H' fun σ2 H2 => tb { D with nx := N, ct := N, bk := D.nx } σ2 H2)
noncomputable def pinsAt (fp : List Addr) (h : Heap) : List (Addr × Obj) := fp.filterMap fun b => (h.get? b).map fun o => (b, o)
theorem mem_pinsAt {fp : List Addr} {h : Heap} {b : Addr} {o : Obj} (hb : b ∈ fp) (e : h.get? b = some o) : (b, o) ∈ pinsAt fp h := List.mem_filterMap.mpr ⟨b, hb, by rw [e]; rfl⟩
theorem of_pinsAt {fp : List Addr} {h : Heap} {p : Addr × Obj} (hp : p ∈ pinsAt fp h) : p.1 ∈ fp ∧ h.get? p.1 = some p.2 := by
 obtain ⟨b, hb, e⟩ := List.mem_filterMap.mp hp
 cases q : h.get? b with
 | none => rw [q] at e; cases e
 | some o =>
  rw [q] at e
  have e' : (b, o) = p := Option.some.inj e
  subst e'
  exact ⟨hb, q⟩
theorem Inv.pinned {pins : List (Addr × Obj)} {σ : St} {H : Hp} {s : Shared} {fp : List Addr} (I : Inv X pins σ H s) (hf : ∀ b ∈ fp, FpOk X pins H b) (ho : ∀ b ∈ fp, ∃ o, s.heap.get? b = some o ∧ ∀ v, o.data ≠ .cell v) : Inv X (pins ++ pinsAt fp s.heap) σ H s :=
 I.pins_of fun p hp => (List.mem_append.mp hp).elim (fun z => I.pin p (List.mem_append_right _ z)) fun z => by
  obtain ⟨hb, e⟩ := of_pinsAt z
  obtain ⟨f0, f1, f2, _⟩ := hf p.1 hb
  obtain ⟨o, e', d⟩ := ho p.1 hb
  rw [e] at e'; cases e'
  exact ⟨e, f0, f1, f2, d⟩
theorem Inv.unpinned {pins pl : List (Addr × Obj)} {σ : St} {H : Hp} {s : Shared} (I : Inv X (pins ++ pl) σ H s) : Inv X pins σ H s := I.pins_of fun p hp => I.pin p (List.mem_append_right _ (List.mem_append_left _ hp))
theorem ps_for {iter : Expr} {body : List Stmt} {wi : TI} {g : TG} {tb : TS} {pos : Pos} (hp : PassesOwn (model X.prog X.w) X.A X.env X.xe) (hc : X.calm = true) (hi : PI X tg iter wi) (hg : PG X tg g) (hb : PSs X body tb)
  (hs : ∀ x, foldedSetIterable iter X.env x = pure x := by intro _; rfl) : PS X (.For tg iter body [] pos) (tFor wi g tb) := by
 intro pins s σ H D I h
 refine wpAny_For (thn (hi pins s σ H _ I h) fun v s1 h1 => thn h1 fun itv s2 h2 => ?_) hs
 obtain ⟨it, fp, tn, J, H2, e, I2, T, st2, f2, W, ⟨m0, w0⟩, turn⟩ := h2
 subst e
 -- what stays true of the iterator's objects through the loop
 have stat : ∀ {H' : Hp}, (∀ b ∈ fp, H' b = none) → ∀ b ∈ fp, FpOk X pins H' b := fun hn b hb => ⟨hn b hb, (f2 b hb).2⟩
 refine codeAny_forLoop_any (fun n s' => ∃ i σ' H', Inv X pins σ' H' s' ∧ tn i s'.heap ∧ (∀ b ∈ fp, H' b = none) ∧ W i n σ' H') ?_ m0 ⟨0, σ, H2, I2, st2, fun b hb => (f2 b hb).1, w0⟩
 rintro n s3 ⟨i, σ3, H3, I3, st3, fr3, w3⟩
 rcases turn i n σ3 H3 w3 with ⟨stop, qn⟩ | ⟨go, N, hN, step⟩
 ·refine wpAny_passesOwn hp (thn (T.done X rfl rfl rfl hc i pins s3 σ3 H3 X.xe I3 (stat fr3) st3 stop) fun r s4 ⟨hr, I4⟩ => ?_)
  subst hr
  exact wpAny_execs_nil ⟨σ3, H3, I4, qn⟩
 ·refine wpAny_passesOwn hp (thn (T.item X rfl rfl rfl hc i pins s3 σ3 H3 X.xe I3 (stat fr3) st3 go) fun r s4 ⟨u, hr, h4⟩ => ?_)
  subst hr
  refine wpAny_passesOwn hp (thn h4 fun _ s5 ⟨x, H5, I5, r5, y5, st5, fr5⟩ => ?_)
  have I5' := I5.pinned (stat fr5) (T.obj _ _ st5)
  refine wpAny_passesOwn hp (thn (hg _ s5 σ3 H5 x u _ I5' r5 (step x H5 y5)) fun _ s6 ⟨σ6, H6, I6, q6⟩ => ?_)
  refine wpAny_passesOwn hp (thn (hb _ s6 σ6 H6 _ I6 q6) fun f s7 q7 => ?_)
  have again : ∀ {σ7 : St} {H7 : Hp}, Inv X (pins ++ pinsAt fp s5.heap) σ7 H7 s7 → N σ7 H7 → ∃ m, m < n ∧ ∃ i σ' H', Inv X pins σ' H' s7 ∧ tn i s7.heap ∧ (∀ b ∈ fp, H' b = none) ∧ W i m σ' H' := fun {σ7 H7} I7 n7 => by
   obtain ⟨m', hm, w7⟩ := hN σ7 H7 n7
   refine ⟨m', hm, i + 1, σ7, H7, I7.unpinned, T.keep _ _ _ st5 fun b hb o e => (I7.pin (b, o) (List.mem_append_right _ (List.mem_append_right _ (mem_pinsAt hb e)))).1, fun b hb => ?_, w7⟩
   obtain ⟨o, e, d⟩ := T.obj _ _ st5 b hb
   exact (I7.pin (b, o) (List.mem_append_right _ (List.mem_append_right _ (mem_pinsAt hb e)))).2.1
  cases f with
  | next => obtain ⟨σ7, H7, I7, n7⟩ := q7; exact again I7 n7
  | cont => obtain ⟨σ7, H7, I7, n7⟩ := q7; exact again I7 n7
  | brk => obtain ⟨σ7, H7, I7, q7⟩ := q7; exact ⟨σ7, H7, I7.unpinned, q7⟩
  | ret v => obtain ⟨x7, σ7, H7, I7, r7, q7⟩ := q7; exact ⟨x7, σ7, H7, I7.unpinned, r7, q7⟩
end
theorem for_list {K : PySem.W.Frag} {a : Addr} {xs : List V} {g : TG} {tb : TS} {D : Ends} {σ : St} {H : Hp} (Pv : Nat → St → Hp → Prop) (h0 : Pv 0 σ H) (hl : ∀ i σ H, i ≤ xs.length → Pv i σ H → SqL K H a xs)
  (hs : ∀ i x σ H, xs[i]? = some x → Pv i σ H → g x σ H fun σ2 H2 => tb { D with nx := Pv (i + 1), ct := Pv (i + 1), bk := D.nx } σ2 H2) (hd : ∀ σ H, Pv xs.length σ H → D.nx σ H) :
  ∃ W : Nat → Nat → St → Hp → Prop, (∃ m, W 0 m σ H) ∧ ∀ i m σ H, W i m σ H →
   ((Itl K a).stop i H ∧ D.nx σ H) ∨ ((Itl K a).go i H ∧ ∃ N : St → Hp → Prop, (∀ σ' H', N σ' H' → ∃ m', m' < m ∧ W (i + 1) m' σ' H') ∧ ∀ x H', (Itl K a).yld i H x H' → g x σ H' fun σ2 H2 => tb { D with nx := N, ct := N, bk := D.nx } σ2 H2) := by
 refine ⟨fun i m σ H => m = xs.length - i ∧ i ≤ xs.length ∧ Pv i σ H, ⟨xs.length, by simp, Nat.zero_le _, h0⟩, ?_⟩
 rintro i m σ H ⟨rfl, hi, p⟩
 have q := hl i σ H hi p
 by_cases hlt : i < xs.length
 ·refine .inr ⟨⟨xs, xs[i], q, by simp [hlt]⟩, Pv (i + 1), fun σ' H' p' => ⟨xs.length - (i + 1), by omega, rfl, hlt, p'⟩, fun x H' y => ?_⟩
  obtain ⟨e, y⟩ := y
  subst e
  exact hs i x σ _ (y xs q) p
 ·have e : i = xs.length := by omega
  subst e
  exact .inl ⟨⟨xs, q, Nat.le_refl _⟩, hd σ H p⟩
end L2
namespace L2
open PySem PySem.Spec PyProof.Rows
noncomputable abbrev R2 := V → V → Hp → VK → Prop
noncomputable def OpR (X : Cx) (f : Value → Value → Sem Value) (r : R2) : Prop :=
 ∀ (pins : List (Addr × Obj)) (s : Shared) (σ : St) (H : Hp) (x y : V) (v u : Value) (Q : VK), Inv X pins σ H s → RelV x v → RelV y u → r x y H Q →
  wpAny (model X.prog X.w) X.A (f v u) (EP X pins σ Q) X.xe s
noncomputable def UnR (X : Cx) (f : Value → Sem Value) (r : V → Hp → VK → Prop) : Prop :=
 ∀ (pins : List (Addr × Obj)) (s : Shared) (σ : St) (H : Hp) (x : V) (v : Value) (Q : VK), Inv X pins σ H s → RelV x v → r x H Q →
  wpAny (model X.prog X.w) X.A (f v) (EP X pins σ Q) X.xe s
noncomputable def CallR (X : Cx) (f : Value) (r : List V → Hp → VK → Prop) : Prop :=
 ∀ (pins : List (Addr × Obj)) (s : Shared) (σ : St) (H : Hp) (xs : List V) (us : List Value) (Q : VK), Inv X pins σ H s → Vals xs us → r xs H Q →
  wpAny (model X.prog X.w) X.A (call f us) (EP X pins σ Q) X.xe s
noncomputable def TruR (X : Cx) (r : V → Hp → (Bool → Hp → Prop) → Prop) : Prop :=
 ∀ (pins : List (Addr × Obj)) (s : Shared) (σ : St) (H : Hp) (x : V) (v : Value) (Q : Bool → Hp → Prop), Inv X pins σ H s → RelV x v → r x H Q →
  wpAny (model X.prog X.w) X.A (truthy v) (TP X pins σ Q) X.xe s
noncomputable def tOp (r : R2) (ta tb : TE) : TE := fun σ H Q => ta σ H fun x H1 => tb σ H1 fun y H2 => r x y H2 Q
noncomputable def tUn (r : V → Hp → VK → Prop) (ta : TE) : TE := fun σ H Q => ta σ H fun x H1 => r x H1 Q
noncomputable def rI (C : Int → Int → Prop) (g : Int → Int → V) : R2 := fun x y H Q => ∃ i j, x = .int i ∧ y = .int j ∧ C i j ∧ Q (g i j) H
noncomputable def rI0 (g : Int → Int → V) : R2 := fun x y H Q => ∃ i j, x = .int i ∧ y = .int j ∧ Q (g i j) H
noncomputable def rU (g : Int → V) : V → Hp → VK → Prop := fun x H Q => ∃ i, x = .int i ∧ Q (g i) H
section
variable {X : Cx} {a b c : Expr} {ta tb tc : TE} {pos : Pos}
theorem binT (ha : PE X a ta) (hb : PE X b tb) {pins : List (Addr × Obj)} {s : Shared} {σ : St} {H : Hp} {R : V → V → Hp → Prop} (I : Inv X pins σ H s)
  (h : ta σ H fun x H1 => tb σ H1 fun y H2 => R x y H2) {Q : Value → Shared → Prop} {f : Value → Value → Sem Value}
  (hf : ∀ v u s2 x y H2, Inv X pins σ H2 s2 → RelV x v → RelV y u → R x y H2 → wpAny (model X.prog X.w) X.A (f v u) Q X.xe s2) :
  wpAny (model X.prog X.w) X.A (eval a X.env) (fun v s₁ => wpAny (model X.prog X.w) X.A (eval b X.env) (fun u s₂ => wpAny (model X.prog X.w) X.A (f v u) Q X.xe s₂) X.xe s₁) X.xe s := by
 refine thn (ha pins s σ H _ I h) fun v s1 ⟨x, H1, I1, r1, q1⟩ => ?_
 refine thn (hb pins s1 σ H1 _ I1 q1) fun u s2 ⟨y, H2, I2, r2, q2⟩ => ?_
 exact hf v u s2 x y H2 I2 r1 r2 q2
theorem pe_op {op : Operator} {r : R2} (ho : OpR X (binaryOp op) r) (ha : PE X a ta) (hb : PE X b tb) : PE X (.BinOp a op b pos) (tOp r ta tb) := by
 intro pins s σ H Q I h
 exact wpAny_BinOp (binT ha hb I h fun v u s2 x y H2 I2 rx ry q => ho pins s2 σ H2 x y v u Q I2 rx ry q)
theorem pe_un {op : UnaryOp} {r : V → Hp → VK → Prop} (ho : UnR X (unaryOp op) r) (ha : PE X a ta) : PE X (.UnaryOp op a pos) (tUn r ta) := by
 intro pins s σ H Q I h
 exact UnaryOp_ (thn (ha pins s σ H _ I h) fun v s1 ⟨x, H1, I1, r1, q1⟩ => ho pins s1 σ H1 x v Q I1 r1 q1)
theorem opI {f : Value → Value → Sem Value} {C : Int → Int → Prop} {g : Int → Int → Int}
  (rule : ∀ (i j : Int) (t u : Tok) (s : Shared) (Q : Value → Shared → Prop) (E : Value → Shared → Prop), C i j → Q (.int (g i j) s.toks) { s with toks := s.toks + 1 } → wpAny (model X.prog X.w) X.A (f (.int i t) (.int j u)) Q E s) :
  OpR X f (rI C fun i j => .int (g i j)) := by
 intro pins s σ H x y v u Q I rx ry h
 obtain ⟨i, j, rfl, rfl, hc, q⟩ := h
 obtain ⟨t, rfl⟩ := rx
 obtain ⟨t', rfl⟩ := ry
 exact rule i j t t' s _ _ hc ⟨.int (g i j), H, I.tok _, ⟨_, rfl⟩, q⟩
theorem opI0 {f : Value → Value → Sem Value} {g : Int → Int → Int}
  (rule : ∀ (i j : Int) (t u : Tok) (s : Shared) (Q : Value → Shared → Prop) (E : Value → Shared → Prop), Q (.int (g i j) s.toks) { s with toks := s.toks + 1 } → wpAny (model X.prog X.w) X.A (f (.int i t) (.int j u)) Q E s) :
  OpR X f (rI0 fun i j => .int (g i j)) := by
 intro pins s σ H x y v u Q I rx ry h
 obtain ⟨i, j, rfl, rfl, q⟩ := h
 obtain ⟨t, rfl⟩ := rx
 obtain ⟨t', rfl⟩ := ry
 exact rule i j t t' s _ _ ⟨.int (g i j), H, I.tok _, ⟨_, rfl⟩, q⟩
theorem opB0 {f : Value → Value → Sem Value} {g : Int → Int → Bool}
  (rule : ∀ (i j : Int) (t u : Tok) (s : Shared) (Q : Value → Shared → Prop) (E : Value → Shared → Prop), Q (.bool (g i j)) s → wpAny (model X.prog X.w) X.A (f (.int i t) (.int j u)) Q E s) :
  OpR X f (rI0 fun i j => .bl (g i j)) := by
 intro pins s σ H x y v u Q I rx ry h
 obtain ⟨i, j, rfl, rfl, q⟩ := h
 obtain ⟨t, rfl⟩ := rx
 obtain ⟨t', rfl⟩ := ry
 exact rule i j t t' s _ _ ⟨.bl (g i j), H, I, rfl, q⟩
noncomputable def CDiv (i j : Int) : Prop := 0 < j ∧ j < 1073741824
noncomputable def CPow (i j : Int) : Prop := 0 ≤ j ∧ j ≤ 1000000 ∧ i.natAbs < 2 ^ 64
noncomputable def CMul (i j : Int) : Prop := (-(2 ^ 64) < i ∧ i < 2 ^ 64) ∨ (-(2 ^ 64) < j ∧ j < 2 ^ 64)
theorem CMul.ok {i j : Int} (h : CMul i j) : IntMulOk i j := by
 rcases h with ⟨h1, h2⟩ | ⟨h1, h2⟩
 ·exact .of_left (intBits_le_64 h1 h2)
 ·exact .of_right (intBits_le_64 h1 h2)
theorem two_pow_nn (k : Nat) : (0 : Int) ≤ 2 ^ k := by
 rw [two_pow_cast]
 exact Int.natCast_nonneg _
theorem op_add : OpR X (binaryOp .Add) (rI0 fun i j => .int (i + j)) := opI0 fun _ _ _ _ _ _ _ q => add_int q
theorem op_sub : OpR X (binaryOp .Sub) (rI0 fun i j => .int (i - j)) := opI0 fun _ _ _ _ _ _ _ q => sub_int q
theorem op_mul : OpR X (binaryOp .Mult) (rI CMul fun i j => .int (i * j)) := opI fun _ _ _ _ _ _ _ hc q => mul_int q hc.ok
theorem op_fdiv : OpR X (binaryOp .FloorDiv) (rI CDiv fun i j => .int (i / j)) := opI fun i j _ _ _ _ _ hc q => by
 have h1 : (0 : Int) < j := hc.1
 have h2 : j < 1073741824 := hc.2
 exact floordiv_int (by omega) (by rw [Int.fdiv_eq_ediv_of_nonneg i (by omega)]; exact q) (.inl (PyProof.noPylong_small (by omega)))
theorem op_mod : OpR X (binaryOp .Mod) (rI (fun _ j => 0 < j) fun i j => .int (i % j)) := opI fun i j _ _ _ _ _ hc q => by
 have h1 : (0 : Int) < j := hc
 exact mod_int' (by omega) (by rw [Int.fmod_eq_emod_of_nonneg i (by omega)]; exact q)
theorem op_pow : OpR X (binaryOp .Pow) (rI CPow fun i j => .int (i ^ j.toNat)) := opI fun _ _ _ _ _ _ _ hc q => pow_int_small hc.1 hc.2.1 hc.2.2 q
theorem op_shl : OpR X (binaryOp .LShift) (rI CPow fun i j => .int (i * 2 ^ j.toNat)) := opI fun _ _ _ _ _ _ _ hc q => lshift_int_small hc.1 hc.2.1 hc.2.2 q
theorem op_shr : OpR X (binaryOp .RShift) (rI (fun _ j => 0 ≤ j) fun i j => .int (i / 2 ^ j.toNat)) := opI fun i j _ _ _ _ _ hc q =>
 rshift_int hc (by rw [Int.fdiv_eq_ediv_of_nonneg i (two_pow_nn _)]; exact q)
theorem op_and : OpR X (binaryOp .BitAnd) (rI0 fun i j => .int (Builtin.bitAnd i j)) := opI0 fun _ _ _ _ _ _ _ q => and_int q
theorem unI {f : Value → Sem Value} {g : Int → Int}
  (rule : ∀ (i : Int) (t : Tok) (s : Shared) (Q : Value → Shared → Prop) (E : Value → Shared → Prop), Q (.int (g i) s.toks) { s with toks := s.toks + 1 } → wpAny (model X.prog X.w) X.A (f (.int i t)) Q E s) :
  UnR X f (rU fun i => .int (g i)) := by
 intro pins s σ H x v Q I rx h
 obtain ⟨i, rfl, q⟩ := h
 obtain ⟨t, rfl⟩ := rx
 exact rule i t s _ _ ⟨.int (g i), H, I.tok _, ⟨_, rfl⟩, q⟩
theorem un_neg : UnR X (unaryOp .USub) (rU fun i => .int (-i)) := unI fun _ _ _ _ _ q => neg_int q
end
section
variable {X : Cx} {a b c : Expr} {ta tb tc : TE} {pos : Pos}
theorem fin_bl {pins : List (Addr × Obj)} {σ : St} {H : Hp} {s : Shared} {Q : VK} {k k' : Bool} (I : Inv X pins σ H s) (q : Q (.bl k) H) (e : k = k') : EP X pins σ Q (.bool k') s := by
 subst e
 exact ⟨.bl k, H, I, rfl, q⟩
theorem op_lt : OpR X (compareOp .Lt) (rI0 fun i j => .bl (decide (i < j))) := opB0 fun _ _ _ _ _ _ _ q => lt_int q
theorem op_le : OpR X (compareOp .LtE) (rI0 fun i j => .bl (decide (i ≤ j))) := opB0 fun _ _ _ _ _ _ _ q => le_int q
theorem op_gt : OpR X (compareOp .Gt) (rI0 fun i j => .bl (decide (j < i))) := opB0 fun _ _ _ _ _ _ _ q => gt_int q
theorem op_ge : OpR X (compareOp .GtE) (rI0 fun i j => .bl (decide (j ≤ i))) := opB0 fun _ _ _ _ _ _ _ q => ge_int q
theorem op_isN : OpR X (compareOp .Is) (fun x y H Q => y = .non ∧ Q (.bl (decide (x = .non))) H) := by
 intro pins s σ H x y v u Q I rx ry h
 obtain ⟨rfl, q⟩ := h
 cases ry
 refine is_none_gen (fin_bl I q ?_)
 cases x <;> first
  | (cases rx; rfl)
  | (obtain ⟨t, rfl⟩ := rx; rfl)
theorem op_notN : OpR X (compareOp .IsNot) (fun x y H Q => y = .non ∧ Q (.bl (!decide (x = .non))) H) := by
 intro pins s σ H x y v u Q I rx ry h
 obtain ⟨rfl, q⟩ := h
 cases ry
 refine isnot_none_gen (fin_bl I q ?_)
 cases x <;> first
  | (cases rx; rfl)
  | (obtain ⟨t, rfl⟩ := rx; rfl)
theorem pe_cmpR {op : CmpOp} {r : R2} (ho : OpR X (compareOp op) r) (ha : PE X a ta) (hb : PE X b tb) (hm : behindInMarks op b = false) : PE X (.Compare a [op] [b] pos) (tOp r ta tb) := by
 intro pins s σ H Q I h
 exact wpAny_Compare1 (binT ha hb I h fun v u s2 x y H2 I2 rx ry q => ho pins s2 σ H2 x y v u Q I2 rx ry q) hm
noncomputable def tTest (t : TE) : TT := fun σ H Q => t σ H fun x H' => ∃ k, x = .bl k ∧ Q k H'
theorem pt_cmpR {op : CmpOp} {r : R2} (ho : OpR X (compareOp op) r) (ha : PE X a ta) (hb : PE X b tb) (hm : behindInMarks op b = false) : PT X (.Compare a [op] [b] pos) (tTest (tOp r ta tb)) := by
 intro pins s σ H Q I h
 refine wpAny_isTrue_Compare1 (thn (ha pins s σ H _ I h) fun v s1 ⟨x, H1, I1, r1, q1⟩ => thn (hb pins s1 σ H1 _ I1 q1) fun u s2 ⟨y, H2, I2, r2, q2⟩ =>
  thn (ho pins s2 σ H2 x y v u _ I2 r1 r2 q2) fun c s3 ⟨z, H3, I3, r3, k, e, q3⟩ => ?_) hm
 subst e
 cases r3
 exact wpAny_truthy_bool ⟨H3, I3, q3⟩
noncomputable def tChain (r r' : R2) (ta tb tc : TE) : TE := fun σ H Q => ta σ H fun x H1 => tb σ H1 fun y H2 => r x y H2 fun z H3 => ∃ k, z = .bl k ∧
 (if k = true then tc σ H3 fun w' H4 => r' y w' H4 Q else Q (.bl false) H3)
theorem pe_chain {op op' : CmpOp} {r r' : R2} (ho : OpR X (compareOp op) r) (ho' : OpR X (compareOp op') r') (ha : PE X a ta) (hb : PE X b tb) (hc : PE X c tc)
  (hm : lastMarks [op, op'] [b, c] = false := by with_unfolding_all rfl) : PE X (.Compare a [op, op'] [b, c] pos) (tChain r r' ta tb tc) := by
 intro pins s σ H Q I h
 refine Compare_chain (thn (ha pins s σ H _ I h) fun v s1 ⟨x, H1, I1, r1, q1⟩ => chain_link (thn (hb pins s1 σ H1 _ I1 q1) fun u s2 ⟨y, H2, I2, r2, q2⟩ =>
  thn (ho pins s2 σ H2 x y v u _ I2 r1 r2 q2) fun d s3 ⟨z, H3, I3, r3, k, e, q3⟩ => ?_)) hm
 subst e
 cases r3
 refine wpAny_truthy_bool ?_
 cases k with
 | false => exact ite_ff ⟨.bl false, H3, I3, rfl, q3⟩
 | true => exact ite_tt (chain_last (thn (hc pins s3 σ H3 _ I3 q3) fun w' s4 ⟨z', H4, I4, r4, q4⟩ => ho' pins s4 σ H4 y z' u w' Q I4 r2 r4 q4))
theorem pt_chain {op op' : CmpOp} {r r' : R2} (ho : OpR X (compareOp op) r) (ho' : OpR X (compareOp op') r') (ha : PE X a ta) (hb : PE X b tb) (hc : PE X c tc)
  (hm : lastMarks [op, op'] [b, c] = false := by with_unfolding_all rfl) : PT X (.Compare a [op, op'] [b, c] pos) (tTest (tChain r r' ta tb tc)) := by
 intro pins s σ H Q I h
 refine isTrue_chain (thn (ha pins s σ H _ I h) fun v s1 ⟨x, H1, I1, r1, q1⟩ => test_link (thn (hb pins s1 σ H1 _ I1 q1) fun u s2 ⟨y, H2, I2, r2, q2⟩ =>
  thn (ho pins s2 σ H2 x y v u _ I2 r1 r2 q2) fun d s3 ⟨z, H3, I3, r3, k, e, q3⟩ => ?_)) hm
 subst e
 cases r3
 refine wpAny_truthy_bool ?_
 cases k with
 | false =>
  obtain ⟨k', e', q'⟩ := q3
  cases e'
  exact ite_ff ⟨H3, I3, q'⟩
 | true =>
  refine ite_tt (test_last (thn (hc pins s3 σ H3 _ I3 q3) fun w' s4 ⟨z', H4, I4, r4, q4⟩ => thn (ho' pins s4 σ H4 y z' u w' _ I4 r2 r4 q4) fun d' s5 ⟨z2, H5, I5, r5, k2, e2, q5⟩ => ?_))
  subst e2
  cases r5
  exact wpAny_truthy_bool ⟨H5, I5, q5⟩
noncomputable def TruV (K : PySem.W.Frag) (x : V) (H : Hp) (k : Bool) : Prop :=
 match x with
 | .non => k = false
 | .bl b => k = b
 | .int i => k = (i != 0)
 | .str y => y.length ≤ sizeLine ∧ k = ((y.length : Int) != 0)
 | .byt y => y.size ≤ sizeLine ∧ k = ((y.size : Int) != 0)
 | .ref p => (∃ xs, SqL K H p xs ∧ k = !xs.isEmpty) ∨ (∃ xs, SqT K H p xs ∧ k = !xs.isEmpty) ∨ ∃ kvs, H p = some (.dK kvs) ∧ k = !kvs.isEmpty
 | _ => False
theorem isEmpty_kv {κ : Type} {kvs : List (κ × V)} {vs : List (κ × Value)} (r : KV kvs vs) : (!vs.isEmpty) = !kvs.isEmpty := by
 cases r <;> rfl
theorem isEmpty_of {xs : List V} {its : List Value} (r : Vals xs its) : (!its.toArray.isEmpty) = !xs.isEmpty := by
 cases r <;> simp
theorem line63 : (sizeLine : Nat) < 2 ^ 63 := by rw [sizeLine_eq]; decide
theorem tru_ok : TruR X (fun x H Q => ∃ k, TruV X.K x H k ∧ Q k H) := by
 intro pins s σ H x v Q I rx h
 obtain ⟨k, e, q⟩ := h
 have hl := line63
 have hs : sizeLine = 16777216 := sizeLine_eq
 cases x with
 | non =>
  cases rx
  have e' : k = false := e
  subst e'
  exact truthy_none ⟨H, I, q⟩
 | bl b =>
  cases rx
  have e' : k = b := e
  subst e'
  exact wpAny_truthy_bool ⟨H, I, q⟩
 | int i =>
  obtain ⟨t, rfl⟩ := rx
  have e' : k = (i != 0) := e
  subst e'
  exact PySem.P.truthy_int ⟨H, I, q⟩
 | str y =>
  obtain ⟨t, rfl⟩ := rx
  obtain ⟨hy, e'⟩ : y.length ≤ sizeLine ∧ k = ((y.length : Int) != 0) := e
  subst e'
  exact PySem.P.truthy_str (by omega) ⟨H, I.tok _, q⟩
 | byt y =>
  obtain ⟨t, rfl⟩ := rx
  obtain ⟨hy, e'⟩ : y.size ≤ sizeLine ∧ k = ((y.size : Int) != 0) := e
  subst e'
  exact PySem.W.truthy_bytes (by omega) ⟨H, I.tok _, q⟩
 | ref p =>
  cases rx
  have e' : (∃ xs, SqL X.K H p xs ∧ k = !xs.isEmpty) ∨ (∃ xs, SqT X.K H p xs ∧ k = !xs.isEmpty) ∨ ∃ kvs, H p = some (.dK kvs) ∧ k = !kvs.isEmpty := e
  rcases e' with ⟨xs, hx, e'⟩ | ⟨xs, hx, e'⟩ | ⟨kvs, hx, e'⟩
  ·subst e'
   obtain ⟨its, r, pl, hz⟩ := I.list hx
   have hlen := r.length
   exact wpAny_truthy_list pl.isList (by simp only [List.size_toArray]; omega) ⟨H, I.tok _, by rw [isEmpty_of r]; exact q⟩
  ·subst e'
   obtain ⟨its, r, pl, hz⟩ := I.tuple hx
   have hlen := r.length
   exact truthy_tuple pl (by simp only [List.size_toArray]; omega) ⟨H, I.tok _, by rw [isEmpty_of r]; exact q⟩
  ·subst e'
   obtain ⟨hz, hS, vs, r, m⟩ : kvs.length ≤ sizeLine ∧ (p == sysModules) = false ∧ ∃ vs, KV kvs vs ∧ s.heap.DictOf (mixKind X.prog X.w) p vs := I.hok p _ hx
   have hlen : kvs.length = vs.length := Paired.length r
   exact wpAny_truthy_dict hS m (by omega) ⟨H, I.tok _, by rw [isEmpty_kv r]; exact q⟩
 | _ => exact (show False from e).elim
theorem pt_truth (ha : PE X a ta) (he : ∀ whole, isTrue a X.env whole = (do let v ← whole; standAt a.pos; holding [v] (truthy v))) :
  PT X a (fun σ H Q => ta σ H fun x H' => ∃ k, TruV X.K x H' k ∧ Q k H') := by
 intro pins s σ H Q I h
 exact isTrue_plain (thn (ha pins s σ H _ I h) fun v s1 ⟨x, H1, I1, r1, q1⟩ => tru_ok pins s1 σ H1 x v Q I1 r1 q1) (he _)
theorem vals1 {x : V} {us : List Value} (r : Vals [x] us) : ∃ u, us = [u] ∧ RelV x u := by
 cases r with
 | cons r1 r2 => cases r2; exact ⟨_, rfl, r1⟩
theorem vals2 {x y : V} {us : List Value} (r : Vals [x, y] us) : ∃ u w', us = [u, w'] ∧ RelV x u ∧ RelV y w' := by
 cases r with
 | cons r1 r2 =>
  cases r2 with
  | cons r3 r4 => cases r4; exact ⟨_, _, rfl, r1, r3⟩
theorem call_max2 (hc : X.calm = true) : CallR X (.builtin "max") (fun xs H Q => ∃ i j, xs = [.int i, .int j] ∧ Q (.int (if j > i then j else i)) H) := by
 intro pins s σ H xs us Q I r h
 obtain ⟨i, j, rfl, q⟩ := h
 obtain ⟨u, w', rfl, ⟨t, rfl⟩, ⟨t', rfl⟩⟩ := vals2 r
 refine max_two_ints (I.ok.hd hc) fun h' tk k => ⟨_, H, I.kept k, ?_, q⟩
 by_cases hj : j > i
 ·rw [if_pos hj, if_pos hj]; exact ⟨_, rfl⟩
 ·rw [if_neg hj, if_neg hj]; exact ⟨_, rfl⟩
theorem call_min2 (hc : X.calm = true) : CallR X (.builtin "min") (fun xs H Q => ∃ i j, xs = [.int i, .int j] ∧ Q (.int (if j < i then j else i)) H) := by
 intro pins s σ H xs us Q I r h
 obtain ⟨i, j, rfl, q⟩ := h
 obtain ⟨u, w', rfl, ⟨t, rfl⟩, ⟨t', rfl⟩⟩ := vals2 r
 refine min_two_ints (I.ok.hd hc) fun h' tk k => ⟨_, H, I.kept k, ?_, q⟩
 by_cases hj : j < i
 ·rw [if_pos hj, if_pos hj]; exact ⟨_, rfl⟩
 ·rw [if_neg hj, if_neg hj]; exact ⟨_, rfl⟩
theorem call_int1 : CallR X (.type "int") (fun xs H Q => (∃ i, xs = [.int i] ∧ Q (.int i) H) ∨ ∃ k, xs = [.bl k] ∧ Q (.int (if k then 1 else 0)) H) := by
 intro pins s σ H xs us Q I r h
 rcases h with ⟨i, rfl, q⟩ | ⟨k, rfl, q⟩
 ·obtain ⟨u, rfl, t, rfl⟩ := vals1 r
  exact call_int_int ⟨.int i, H, I, ⟨_, rfl⟩, q⟩
 ·obtain ⟨u, rfl, r1⟩ := vals1 r
  cases r1
  exact call_int_bool ⟨.int (if k then 1 else 0), H, I.tok _, ⟨_, rfl⟩, q⟩
end
end L2
namespace L2
open PySem PySem.Spec PyProof.Rows
structure ObjM (h : Heap) (x dx C : Addr) (mA : Str → Option Value) : Prop where
 obj : h.get? x = some (PySem.W.instObj C dx)
 ns : h.Ns1 dx mA
 ne : dx ≠ x
theorem lookIn_ns {h : Heap} {dx : Addr} {mA : Str → Option Value} (n : h.Ns1 dx mA) : ∃ od, h.get? dx = some od ∧ ∀ name, PySem.W.lookIn name od = some (mA name) := by
 obtain ⟨o, es, ep, ho, hd, hk, _, hm⟩ := n
 refine ⟨o, ho, fun name => ?_⟩
 have e := hm name
 unfold nsFind findBy at e
 rw [← Array.find?_toList] at e
 unfold PySem.W.lookIn
 rw [hd]
 dsimp only
 split
 ·rename_i y q
  rw [q] at e
  exact congrArg some e
 ·rename_i q
  rw [q] at e
  have a : es.toList.any (·.refKey) = false := by
   rw [List.any_eq_false]
   intro y hy
   obtain ⟨z, t, hkey⟩ := hk y (Array.mem_toList_iff.mp hy)
   simp [DictEntry.refKey, hkey]
  have a' : ¬ es.toList.any (·.refKey) = true := by rw [a]; exact Bool.false_ne_true
  rw [if_neg a']
  exact congrArg some e
theorem ObjM.look {h : Heap} {x dx C : Addr} {mA : Str → Option Value} (I : ObjM h x dx C mA) : ∃ od, PySem.W.InstAt h x (PySem.W.instObj C dx) C (some od) ∧ ∀ name, PySem.W.lookIn name od = some (mA name) :=
 let ⟨od, ho, hl⟩ := lookIn_ns I.ns
 ⟨od, ⟨I.obj, rfl, rfl, ho⟩, hl⟩
section
variable {prog : Program} {w : World} {A : Around} {E : Value → Shared → Prop} {s : Shared} {K : PySem.W.Frag} {x dx C f : Addr} {mA : Str → Option Value} {name : Str} {v : Value}
end
section
variable {P : Program} {w : World} {H H' : Hp} {h h' : Heap} {a C dx : Addr} {fs fs' : List (Str × V)}
theorem ins_get (hok : HOk P w H h) (e : H a = some (.ins C dx fs)) : ∃ mA, ObjM h a dx C mA ∧ (∀ f, RelO (fs.lookup f) (mA f)) ∧ PySem.Within mA (fs.map (·.1)) ∧ fs.length ≤ 1000 ∧ H dx = some (.own a) := by
 obtain ⟨d, z, ne, ob, mA, n, r, q⟩ := (show ObjOk P w H h a (.ins C dx fs) from hok a _ e)
 exact ⟨mA, ⟨ob, n, ne⟩, r, q, z, d⟩
end
structure Cls (K : PySem.W.Frag) (C : Addr) : Prop where
 pg : PySem.W.plainGet K C Str.empty = true
 hd : PySem.W.hasDictIn K C = true
 po : PySem.W.plainOver K C = true
 sa : PySem.W.findIn K (.ref C) "__setattr__" = some (some (.builtin "object.__setattr__"))
theorem Cls.get {K : PySem.W.Frag} {C : Addr} (c : Cls K C) (f : Str) : PySem.W.plainGet K C f = true := c.pg
section
variable {X : Cx} {pins : List (Addr × Obj)} {σ : St} {H : Hp} {s : Shared} {a C dx : Addr} {fs : List (Str × V)} {f : Str} {v : V} {A : Around} {E : Value → Shared → Prop}
end
section
variable {X : Cx} {o e value : Expr} {f : Str} {pos pos' tpos : Pos} {ta tv : TE}
end
section
variable {X : Cx} {pins : List (Addr × Obj)} {σ : St} {H : Hp} {s : Shared} {A : Around} {E : Value → Shared → Prop} {Q : Value → Shared → Prop} {c : Value} {b : Bool}
inductive TyOf (K : PySem.W.Frag) (H : Hp) : V → Value → Prop where
 | non : TyOf K H .non (.type "NoneType")
 | bl (x : Bool) : TyOf K H (.bl x) (.type "bool")
 | int (i : Int) : TyOf K H (.int i) (.type "int")
 | str (x : Str) : TyOf K H (.str x) (.type "str")
 | flt (x : UInt64) : TyOf K H (.flt x) (.type "float")
 | lst {a : Addr} {xs : List V} (e : H a = some (.lst xs)) : TyOf K H (.ref a) (.type "list")
 | frz {a : Addr} {o : Obj} {xs : List V} (e : H a = some (.frz o (.lst xs))) : TyOf K H (.ref a) (.type "list")
 | tup {a : Addr} {xs : List V} (e : H a = some (.tup xs)) : TyOf K H (.ref a) (.type "tuple")
 | dK {a : Addr} {kvs : List (Key × V)} (e : H a = some (.dK kvs)) : TyOf K H (.ref a) (.type "dict")
 | dT {a : Addr} {kvs : List (List Key × V)} (e : H a = some (.dT kvs)) : TyOf K H (.ref a) (.type "dict")
 | ins {a C dx : Addr} {fs : List (Str × V)} (e : H a = some (.ins C dx fs)) (cl : Cls K C) (ha : PySem.W.findIn K (.ref C) "__class__" = some (some (.builtin "object.__class__")))
   (hn : PySem.W.specialIn K (.builtin "object.__class__") "__get__" = some (some (.builtin "getset_descriptor.__get__"))) (htk : PySem.W.takesIn K (.builtin "object.__class__") = some true)
   (hm : PySem.W.mroIn K C (.type "object") = some true) : TyOf K H (.ref a) (.ref C)
theorem isinst_ok {x : V} {u t : Value} (I : Inv X pins σ H s) (rx : RelV x u) (ty : TyOf X.K H x t) (e : PySem.W.kitOne X.K t c = some b) (h : ∀ tk, Q (.bool b) { s with toks := tk }) :
  wpAny (model X.prog X.w) A (call (.builtin "isinstance") [u, c]) Q E s := by
 cases ty with
 | non => cases (show u = Value.none from rx); exact PySem.W.kia_one PySem.W.kitx_none I.kIn True.intro e (fun z => nomatch z) h
 | bl y => cases (show u = Value.bool y from rx); exact PySem.W.kia_one PySem.W.kitx_bool I.kIn True.intro e (fun z => nomatch z) h
 | int i => obtain ⟨t, q⟩ := (show ∃ t, u = Value.int i t from rx); cases q; exact PySem.W.kia_one PySem.W.kitx_int I.kIn True.intro e (fun z => nomatch z) h
 | str y => obtain ⟨t, q⟩ := (show ∃ t, u = Value.str y t from rx); cases q; exact PySem.W.kia_one PySem.W.kitx_str I.kIn True.intro e (fun z => nomatch z) h
 | flt y => obtain ⟨t, q⟩ := (show ∃ t, u = Value.float y t from rx); cases q; exact PySem.W.kia_one PySem.W.kitx_float I.kIn True.intro e (fun z => nomatch z) h
 | @lst a xs ea =>
  cases (show u = Value.ref a from rx)
  obtain ⟨_, _, n, _, h1⟩ := (show ObjOk X.prog X.w H s.heap a (.lst xs) from I.hok a _ ea)
  exact PySem.W.kia_one PySem.W.kitx_list I.kIn ⟨_, h1, rfl⟩ e (fun z => nomatch z) h
 | @frz a ob xs ea =>
  cases (show u = Value.ref a from rx)
  obtain ⟨_, _, _, n, _, h1⟩ := (show ObjOk X.prog X.w H s.heap a (.frz ob (.lst xs)) from I.hok a _ ea)
  exact PySem.W.kia_one PySem.W.kitx_list I.kIn ⟨_, h1, rfl⟩ e (fun z => nomatch z) h
 | @tup a xs ea =>
  cases (show u = Value.ref a from rx)
  obtain ⟨_, _, _, p⟩ := (show ObjOk X.prog X.w H s.heap a (.tup xs) from I.hok a _ ea)
  obtain ⟨o, h1, h2, _⟩ := p
  exact PySem.W.kia_one PySem.W.kitx_tuple I.kIn ⟨o, h1, h2⟩ e (fun z => nomatch z) h
 | @dK a kvs ea =>
  cases (show u = Value.ref a from rx)
  obtain ⟨_, _, vs, _, p⟩ := (show ObjOk X.prog X.w H s.heap a (.dK kvs) from I.hok a _ ea)
  obtain ⟨o, es, ep, h1, h2, _⟩ := p
  exact PySem.W.kia_one PySem.W.kitx_dict I.kIn ⟨o, h1, h2.1⟩ e (fun z => nomatch z) h
 | @dT a kvs ea =>
  cases (show u = Value.ref a from rx)
  obtain ⟨_, _, xs, _, o, es, ep, h1, h2, _⟩ := (show ObjOk X.prog X.w H s.heap a (.dT kvs) from I.hok a _ ea)
  exact PySem.W.kia_one PySem.W.kitx_dict I.kIn ⟨o, h1, h2.1⟩ e (fun z => nomatch z) h
 | @ins a C dx fs ea cl ha hn htk hm =>
  cases (show u = Value.ref a from rx)
  obtain ⟨mA, O, _⟩ := ins_get I.hok ea
  obtain ⟨od, J, _⟩ := O.look
  exact PySem.W.kia_one (PySem.W.kitx_own (cl.get _) cl.hd ha hn htk hm) I.kIn J e (fun z => nomatch z) h
end
end L2
namespace L2
open PySem PySem.Spec PyProof.Rows
structure Room (k : Nat) (A : Around) : Prop where
 hd : A.handled = none
 dp : A.depth + 3 * k + 5 < recursionLimit
 un : A.units + 16 * k + 200 < cLine
theorem Room.mono {j k : Nat} {A : Around} (r : Room k A) (h : j ≤ k) : Room j A := ⟨r.hd, by have := r.dp; omega, by have := r.un; omega⟩
theorem Room.deeper {k : Nat} {A : Around} (r : Room (k + 1) A) (env : Env) : Room k (A.deeper env) :=
 ⟨r.hd, by have := r.dp; show A.depth + 1 + 3 * k + 5 < _; omega, by have := r.un; show A.units + 3 + 16 * k + 200 < _; omega⟩
theorem Room.in1 {k : Nat} {A : Around} (r : Room (k + 1) A) : Room k A.in1 :=
 ⟨r.hd, by have := r.dp; show A.depth + 3 * k + 5 < _; omega, by have := r.un; show A.units + 1 + 16 * k + 200 < _; omega⟩
theorem Room.depth {k : Nat} {A : Around} (r : Room k A) : A.depth < recursionLimit := by have := r.dp; omega
theorem Room.units {k : Nat} {A : Around} (r : Room k A) : A.units + 64 < cLine := by have := r.un; omega
noncomputable def tNil : TA := fun _ H Q => Q [] H
noncomputable def tCons (ta : TE) (tr : TA) : TA := fun σ H Q => ta σ H fun x H1 => tr σ H1 fun xs H2 => Q (x :: xs) H2
section
variable {X : Cx} {e : Expr} {es : List Expr} {te : TE} {t : TA} {pos : Pos}
theorem pa_nil : PA X [] tNil := fun _ _ _ _ H Q I h => Calls.spliced_nil ⟨[], H, I, .nil, h⟩
theorem pa_cons (ha : PE X e te) (hr : PA X es t) (hs : starEach (e :: es) X.env = (false, eval e X.env) :: starEach es X.env := by rfl) : PA X (e :: es) (tCons te t) := by
 intro pos pins s σ H Q I h
 rw [hs]
 show wpAny _ _ (spliced ((false, eval e X.env) :: backTo pos (starEach es X.env))) _ _ s
 refine Calls.spliced_cons (thn (ha pins s σ H _ I h) fun u s1 ⟨x, H1, I1, r1, q1⟩ => ?_)
 exact thn (hr pos pins s1 σ H1 _ I1 q1) fun us s2 ⟨xs, H2, I2, r2, q2⟩ => ⟨x :: xs, H2, I2, .cons r1 r2, q2⟩
noncomputable def tTup (t : TA) : TE := fun σ H Q => t σ H fun xs H1 => xs.length ≤ sizeLine ∧ ∀ p, H1 p = none → Q (.ref p) (upd H1 p (.tup xs))
noncomputable def tLst (t : TA) : TE := fun σ H Q => t σ H fun xs H1 => xs.length ≤ sizeLine ∧ ∀ p, H1 p = none → Q (.ref p) (upd H1 p (.lst xs))
theorem pe_tup {x1} (h : PA X es t) : PE X (.Tuple es x1 pos) (tTup t) := by
 intro pins s σ H Q I hq
 refine wpAny_Tuple_spliced (thn (h pos pins s σ H _ I hq) fun us s1 ⟨xs, H1, I1, r, z, q⟩ => ⟨by rw [← r.length]; exact z, ?_⟩)
 have hf : H1 s1.heap.objs.size = none := I1.hok.fresh (Nat.le_refl _)
 refine ⟨.ref s1.heap.objs.size, upd H1 s1.heap.objs.size (.tup xs), I1.laid (t' := s1.toks) (fun b u e => Heap.get?_push_of_some _ e) (Nat.le_refl _) ?_, rfl, q _ hf⟩
 exact ⟨z, us, r, ⟨_, Heap.get?_push_size _ rfl, rfl, _, rfl⟩⟩
theorem pe_lst (h : PA X es t) : PE X (.List es pos) (tLst t) := by
 intro pins s σ H Q I hq
 refine wpAny_List_spliced (thn (h pos pins s σ H _ I hq) fun us s1 ⟨xs, H1, I1, r, z, q⟩ => ⟨by rw [← r.length]; exact z, ?_⟩)
 have hf : H1 s1.heap.objs.size = none := I1.hok.fresh (Nat.le_refl _)
 refine ⟨.ref s1.heap.objs.size, upd H1 s1.heap.objs.size (.lst xs), I1.laid (t' := s1.toks) (fun b u e => Heap.get?_push_of_some _ e) (Nat.le_refl _) ?_, rfl, q _ hf⟩
 exact ⟨z, us, 0, r, Heap.get?_push_size _ rfl⟩
end
noncomputable abbrev Sp := List V → Hp → VK → XK → Prop
noncomputable abbrev CXT := List Env → Hp → Shared → XK → Value → Shared → Prop
structure Env0 (P : Program) (w : World) (K : PySem.W.Frag) (mg : Str → Option Value) (base : Heap) (A : Around) (outer : List Env) (s : Shared) (H : Hp) : Prop where
 frames : A.frames = some outer
 mod : Mod K mg base
 bs : ∀ b o, base.get? b = some o → s.heap.get? b = some o ∧ H b = none
 bsz : base.objs.size ≤ s.heap.objs.size
 funs : s.heap.FunFrames base outer
 frf : ∀ b ∈ frs outer, H b = none
 hok : HOk P w H s.heap
 bare : AllBare s.gens
noncomputable def CE (outer : List Env) (P : Program) (w : World) (H : Hp) (s : Shared) (Q : VK) (u : Value) (s' : Shared) : Prop :=
 ∃ v H', s'.os = s.os ∧ AllBare s'.gens ∧ Un (frs outer) [] H H' s.heap s'.heap ∧ HOk P w H' s'.heap ∧ RelV v u ∧ Q v H'
noncomputable def CR (CX : CXT) (outer : List Env) (P : Program) (w : World) (H : Hp) (s : Shared) (Q : VK) (E : XK) (r : Result) (s' : Shared) : Prop :=
 match r with
 | .ok (.ret u) => CE outer P w H s Q u s'
 | .ok _ => False
 | .error e => CX outer H s E e s'
structure FnOk (P : Program) (w : World) (K : PySem.W.Frag) (mg : Str → Option Value) (base : Heap) (CX : CXT) (k : Nat) (f : Addr) (fd : FuncData) (ps : List Str) (sp : Sp) : Prop where
 len : ∀ vs H Q E, sp vs H Q E → vs.length = ps.length
 run : ∀ (A : Around) (outer : List Env) (s : Shared) (H : Hp) (args : Args) (us : List Value) (vs : List V) (Q : VK) (E : XK), Room k A → Env0 P w K mg base A outer s H → BindsTo s fd args (ps.zip us) → Vals vs us → sp vs H Q E →
  codeAny (model P w) A (.call (.ref f) args) (CR CX outer P w H s Q E) s
section
variable {X : Cx} {pins : List (Addr × Obj)} {σ : St} {H : Hp} {s s' : Shared}
theorem Inv.env0 (I : Inv X pins σ H s) : Env0 X.prog X.w X.K X.mg X.base X.A X.stack s H :=
 ⟨I.ok.frames, I.ok.mod, I.bs, Nat.le_trans I.ok.bsz I.sz, I.stack, I.stkFree, I.hok, I.bare⟩
theorem Inv.after {Q : VK} {u : Value} (I : Inv X pins σ H s) (h : CE X.stack X.prog X.w H s Q u s') : EP X pins σ Q u s' := by
 obtain ⟨v, H', os, bare, un, hok, r, q⟩ := h
 obtain ⟨hh, g, d, t, os'⟩ := s'
 obtain rfl : os' = s.os := os
 exact ⟨v, H', I.call (h' := hh) (g' := g) (d' := d) (t' := t) (ch := []) un hok bare (fun b z => absurd z (by simp)), r, q⟩
end
noncomputable def tCall (sp : Sp) (dvs : List V) (E : XK) (t : TA) : TE := fun σ H Q => t σ H fun vs H1 => sp (vs ++ dvs) H1 Q E
noncomputable def Binds (K : PySem.W.Frag) (fd : FuncData) (ps : List Str) (ds : List Value) : Prop :=
 ∀ (s : Shared) (us : List Value), K.In s.heap → (us ++ ds).length = ps.length → BindsTo s fd ⟨us, []⟩ (ps.zip (us ++ ds))
theorem Binds.all {K : PySem.W.Frag} {fd : FuncData} {ps : List Str} (h : ∀ us : List Value, us.length = ps.length → bindArgs fd ⟨us, []⟩ = pure (ps.zip us)) : Binds K fd ps [] := fun s us _ hl => by
 rw [List.append_nil] at hl ⊢
 exact .of_eq (h us hl)
noncomputable def Passes (CX : CXT) (X : Cx) (E : XK) : Prop := ∀ (pins : List (Addr × Obj)) (σ : St) (H : Hp) (s : Shared) (e : Value) (s' : Shared), Inv X pins σ H s → CX X.stack H s E e s' → X.xe e s'
section
variable {X : Cx} {CX : CXT} {k : Nat} {f C : Addr} {fd : FuncData} {ps : List Str} {sp : Sp} {dvs : List V} {ds : List Value} {E : XK} {x m : Str} {p pos apos : Pos} {e o : Expr} {es : List Expr} {ta : TE} {t : TA}
theorem run_fn {pins : List (Addr × Obj)} {σ : St} {H : Hp} {s : Shared} {Q : VK} {us : List Value} {vs : List V} (F : FnOk X.prog X.w X.K X.mg X.base CX k f fd ps sp) (hr : Room k X.A) (hb : Binds X.K fd ps ds) (hd : Vals dvs ds) (hx : Passes CX X E)
  (I : Inv X pins σ H s) (r : Vals vs us) (h : sp (vs ++ dvs) H Q E) : wpAny (model X.prog X.w) X.A (call (.ref f) us) (EP X pins σ Q) X.xe s := by
 have r2 : Vals (vs ++ dvs) (us ++ ds) := r.append hd
 have hl : (us ++ ds).length = ps.length := by rw [← r2.length]; exact F.len _ _ _ _ h
 refine wpAny_call (codeAny_mono (F.run X.A X.stack s H ⟨us, []⟩ (us ++ ds) (vs ++ dvs) Q E hr I.env0 (hb s us I.kIn hl) r2 h) fun r s' hq => ?_)
 cases r with
 | error e => exact hx pins σ H s e s' I hq
 | ok fl =>
  cases fl with
  | ret u => exact I.after hq
  | next => exact False.elim hq
  | brk => exact False.elim hq
  | cont => exact False.elim hq
theorem pe_call (F : FnOk X.prog X.w X.K X.mg X.base CX k f fd ps sp) (hr : Room k X.A) (hg : Gl X x) (hm : X.mg x = some (.ref f)) (hk : PySem.W.keepIn X.K (.ref f) = true) (hb : Binds X.K fd ps ds) (hd : Vals dvs ds) (hx : Passes CX X E)
  (ha : PA X (e :: es) t) (hdb : (x == ("__debug__" : Str)) = false := by decide) (he : starEach (e :: es) X.env = (false, eval e X.env) :: starEach es X.env := by rfl) (hpl : (backTo pos (starEach es X.env)).any (·.1) = false := by rfl) :
  PE X (.Call (.Name x p) (e :: es) [] pos) (tCall sp dvs E t) := by
 intro pins s σ H Q I h
 refine wpAny_Call_Name_kw (ld_glob I hg hm ?_ hdb)
 refine PySem.W.callWith_K (h₀ := X.base) I.ok.mod.kin hk (thn (ha pos pins s σ H _ I h) fun us s1 ⟨vs, H1, I1, r, q⟩ => ⟨I1.kIn, ?_⟩) he hpl
 exact run_fn F hr hb hd hx I1 r q
theorem pe_call0 (F : FnOk X.prog X.w X.K X.mg X.base CX k f fd ps sp) (hr : Room k X.A) (hg : Gl X x) (hm : X.mg x = some (.ref f)) (hk : PySem.W.keepIn X.K (.ref f) = true) (hb : Binds X.K fd ps ds) (hd : Vals dvs ds) (hx : Passes CX X E)
  (hdb : (x == ("__debug__" : Str)) = false := by decide) : PE X (.Call (.Name x p) [] [] pos) (tCall sp dvs E tNil) := by
 intro pins s σ H Q I h
 refine wpAny_Call_Name_kw (ld_glob I hg hm ?_ hdb)
 exact PySem.W.callWith_K0 I.kIn hk (run_fn (us := []) F hr hb hd hx I .nil h)
end
section
variable {X : Cx} {CX : CXT} {k : Nat} {f C : Addr} {fd : FuncData} {ps ks : List Str} {sp : Sp} {E : XK} {x m : Str} {p pos apos kpos : Pos} {e o : Expr} {es : List Expr} {kws : List Keyword} {te ta : TE} {t tk : TA} {nm : Option Str}
variable {g : List Value → List Value → List Value} {gV : List V → List V → List V}
end
structure FnScope (N P : List Str) (sc : Scope) : Prop where
 kind : sc.kind = .function
 co : sc.isCoroutine = false
 gen : sc.isGenerator = false
 nd : N.Nodup
 pre : N.take P.length = P
 par : ∀ x ∈ P, sc.names.lookup x = some .local ∨ sc.names.lookup x = some .cell
 nofree : ∀ y ∈ sc.names, y.2 ≠ .free
theorem bindL_out {kindOf : Str → Option NameKind} {x : Str} : ∀ {binds : List (Str × Value)} {m : Str → Option Value}, (∀ v, (x, v) ∉ binds) → bindL kindOf binds m x = m x
 | [], _, _ => rfl
 | (n, v) :: r, m, h => by
  unfold bindL
  rw [bindL_out fun w hw => h w (List.mem_cons_of_mem _ hw)]
  split
  ·have : x ≠ n := by rintro rfl; exact h v List.mem_cons_self
   simp [this]
  ·rfl
theorem bindC_out {kindOf : Str → Option NameKind} {x : Str} : ∀ {binds : List (Str × Value)} {m : Str → Option Value}, (∀ v, (x, v) ∉ binds) → bindC kindOf binds m x = m x
 | [], _, _ => rfl
 | (n, v) :: r, m, h => by
  unfold bindC
  rw [bindC_out fun w hw => h w (List.mem_cons_of_mem _ hw)]
  split
  ·rfl
  ·have : x ≠ n := by rintro rfl; exact h v List.mem_cons_self
   simp [this]
theorem bindL_get {kindOf : Str → Option NameKind} {x : Str} {v : Value} : ∀ {P : List Str} {vs : List Value} {i : Nat} {m : Str → Option Value}, P.Nodup → P[i]? = some x → vs[i]? = some v → kindOf x = some .local →
  bindL kindOf (P.zip vs) m x = some v
 | [], _, _, _, _, h, _, _ => by simp at h
 | _ :: _, [], _, _, _, _, h, _ => by simp at h
 | p :: P, w :: vs, 0, m, nd, h1, h2, hk => by
  simp at h1 h2; subst h1; subst h2
  show bindL kindOf ((p, w) :: P.zip vs) m p = _
  unfold bindL
  rw [bindL_out fun v hv => (List.nodup_cons.mp nd).1 (List.of_mem_zip hv).1, if_pos hk]
  simp
 | p :: P, w :: vs, i + 1, m, nd, h1, h2, hk => by
  show bindL kindOf ((p, w) :: P.zip vs) m x = _
  unfold bindL
  exact bindL_get (i := i) (List.nodup_cons.mp nd).2 (by simpa using h1) (by simpa using h2) hk
theorem bindC_get {kindOf : Str → Option NameKind} {x : Str} {v : Value} : ∀ {P : List Str} {vs : List Value} {i : Nat} {m : Str → Option Value}, P.Nodup → P[i]? = some x → vs[i]? = some v → kindOf x ≠ some .local →
  bindC kindOf (P.zip vs) m x = some v
 | [], _, _, _, _, h, _, _ => by simp at h
 | _ :: _, [], _, _, _, _, h, _ => by simp at h
 | p :: P, w :: vs, 0, m, nd, h1, h2, hk => by
  simp at h1 h2; subst h1; subst h2
  show bindC kindOf ((p, w) :: P.zip vs) m p = _
  unfold bindC
  rw [bindC_out fun v hv => (List.nodup_cons.mp nd).1 (List.of_mem_zip hv).1, if_neg hk]
  simp
 | p :: P, w :: vs, i + 1, m, nd, h1, h2, hk => by
  show bindC kindOf ((p, w) :: P.zip vs) m x = _
  unfold bindC
  exact bindC_get (i := i) (List.nodup_cons.mp nd).2 (by simpa using h1) (by simpa using h2) hk
noncomputable def start (N : List Str) (vs : List V) : St := vs.map some ++ List.replicate (N.length - vs.length) none
noncomputable def cxOf (CX : CXT) (P : Program) (w : World) (K : PySem.W.Frag) (mg : Str → Option Value) (base : Heap) (N : List Str) (qual : Str) (scope : Scope) (f : Addr) (cd : Value) (A : Around) (outer : List Env) (s : Shared) (H : Hp) (E : XK) : Cx where
 prog := P
 w := w
 K := K
 mg := mg
 base := base
 A := A.deeper (envOfC qual scope s.heap.objs.size f cd)
 N := N
 s₀ := s
 H₀ := H
 env := envOfC qual scope s.heap.objs.size f cd
 outer := outer
 stack := envOfC qual scope s.heap.objs.size f cd :: outer
 ex := []
 calm := true
 fn := fun _ => true
 pn := []
 xe := fun e s' => wpAny (model P w) (A.deeper (envOfC qual scope s.heap.objs.size f cd)) (leaving (envOfC qual scope s.heap.objs.size f cd) e) (fun _ s'' => CX outer H s E e s'') (fun e' s'' => CX outer H s E e' s'') s'
theorem cell_has {sc : Scope} {n : Nat} {x : Str} (h : sc.names.lookup x = some .cell) : ∃ c, (cellsFrom n sc.names []).lookup x = some c := by
 have q := PySem.W.cellsFrom_some sc.names n [] (.inl h)
 exact Option.isSome_iff_exists.mp q
theorem inv_start {CX : CXT} {P : Program} {w : World} {K : PySem.W.Frag} {mg : Str → Option Value} {base : Heap} {N ps : List Str} {qual : Str} {scope : Scope} {f : Addr} {cd : Value} {A : Around} {outer : List Env} {s s1 : Shared} {H : Hp} {E : XK} {us : List Value} {vs : List V}
  (S : FnScope N ps scope) (hd : A.handled = none) (e0 : Env0 P w K mg base A outer s H) (hl : vs.length = ps.length) (r : Vals vs us)
  (x : InCallC s s.heap.objs.size (bindL (envOfC qual scope s.heap.objs.size f cd).kindOf (ps.zip us) fun _ => none) (cellsFrom (s.heap.objs.size + 1) scope.names []) (bindC (envOfC qual scope s.heap.objs.size f cd).kindOf (ps.zip us) fun _ => none) s1) :
  Inv (cxOf CX P w K mg base N qual scope f cd A outer s H E) [] (start N vs) H s1 := by
 have hpl : ps.length ≤ N.length := by have := congrArg List.length S.pre; rw [List.length_take] at this; omega
 obtain ⟨h1, tk, rfl, hk⟩ := x.done
 have noA : ∀ b : Addr, b ∉ (cxOf CX P w K mg base N qual scope f cd A outer s H E).ex := fun b z => absurd (show b ∈ ([] : List Addr) from z) (by simp)
 refine ⟨⟨e0.mod, S.kind, rfl, rfl, Nat.le_refl _, fun y z c h1 h2 => ?_, fun y hy => ?_, fun y c _ h => ?_, fun _ => hd, Around.frames_deeper e0.frames, .inr ⟨rfl, rfl⟩, fun b z => absurd z (noA b), e0.bs, e0.bsz, fun b _ _ => noA b, fun b z => absurd z (noA b), e0.funs, e0.frf⟩,
  rfl, e0.bare, Un.kept hk, ⟨_, x.toInCall.ns, fun i y v h1 h2 h3 => ?_⟩, fun y c h => ⟨_, x.cell y c h⟩, e0.hok.fresh (Nat.le_refl _), fun y c h => ?_, fun p hp => absurd (show p ∈ ([] : List (Addr × Obj)) from hp) (by simp), e0.hok.kept hk, ?_⟩
 ·exact name_of_addr x.apart (PySem.mem_of_lookup h1) (PySem.mem_of_lookup h2)
 ·have hy : scope.names.lookup y = some .cell ∨ scope.names.lookup y = some .free := hy
  rcases hy with hy | hy
  ·exact cell_has hy
  ·exact absurd rfl (S.nofree _ (PySem.mem_of_lookup hy))
 ·exact Nat.le_of_lt (x.above y c (PySem.mem_of_lookup h))
 ·have hi : i < vs.length := by
   unfold start at h2
   by_cases hi : i < vs.length
   ·exact hi
   ·rw [List.getElem?_append_right (by simpa using hi)] at h2
    rw [List.getElem?_replicate] at h2
    split at h2 <;> cases h2
  have ha : vs[i]? = some v := by
   unfold start at h2
   rw [List.getElem?_append_left (by simpa using hi), List.getElem?_map] at h2
   cases e : vs[i]? with
   | none => rw [e] at h2; cases h2
   | some a => rw [e] at h2; cases h2; rfl
  obtain ⟨u, hu, rv⟩ := r.get ha
  have hp : ps[i]? = some y := by
   rw [← S.pre, List.getElem?_take_of_lt (by omega)]; exact h1
  have ndP : ps.Nodup := by rw [← S.pre]; exact S.nd.sublist (List.take_sublist _ _)
  refine ⟨u, rv, ?_⟩
  rcases S.par y (List.mem_of_getElem? hp) with k | k
  ·exact .inl ⟨k, bindL_get ndP hp hu k⟩
  ·obtain ⟨c, e⟩ := cell_has (n := s.heap.objs.size + 1) k
   refine .inr ⟨.inl k, c, e, ?_⟩
   have q := x.cell y c e
   rw [bindC_get ndP hp hu (by show scope.names.lookup y ≠ _; rw [k]; decide)] at q
   exact q
 ·exact e0.hok.fresh (Nat.le_of_lt (x.above y c (PySem.mem_of_lookup h)))
 ·unfold start
  show _ = N.length
  rw [List.length_append, List.length_map, List.length_replicate]
  omega
theorem fn_of {CX : CXT} {P : Program} {w : World} {K : PySem.W.Frag} {mg : Str → Option Value} {base : Heap} {k : Nat} {f : Addr} {name qual : Str} {params : Arguments} {body : List Stmt} {scope : Scope} {dV kV doc pm cdv ct oc : Value} {an od : Option Addr}
  {osl : Array (Option Value)} {N ps : List Str} {sp : Sp} (lk : K.lookup f = some ⟨oc, od, .func (PySem.W.fnOf name qual params body scope dV kV doc pm an cdv ct), osl⟩) (hcd : PySem.W.codeIn K cdv qual = true) (S : FnScope N ps scope)
  (len : ∀ vs H Q E, sp vs H Q E → vs.length = ps.length)
  (hbody : ∀ (A : Around) (outer : List Env) (s : Shared) (H : Hp) (vs : List V) (Q : VK) (E : XK), Room k (A.deeper (envOfC qual scope s.heap.objs.size f cdv)) → sp vs H Q E →
   ∃ t, PSs (cxOf CX P w K mg base N qual scope f cdv A outer s H E) body t ∧ t { nx := fun _ H' => Q .non H', rt := Q } (start N vs) H) :
  FnOk P w K mg base CX (k + 1) f (PySem.W.fnOf name qual params body scope dV kV doc pm an cdv ct) ps sp := by
 refine ⟨len, fun A outer s H args us vs Q E hr e0 hb r hsp => ?_⟩
 have hl := len _ _ _ _ hsp
 have KX : K.In s.heap := e0.mod.kin.keeps fun b o e => (e0.bs b o e).1
 have lim : s.heap.NoLimit := e0.mod.nolimit.keeps fun b o e => (e0.bs b o e).1
 have hkind : ∀ y ∈ ps.zip us, scope.names.lookup y.1 = some .local ∨ (scope.names.lookup y.1 = some .cell ∧ ((cellsFrom (s.heap.objs.size + 1) scope.names []).lookup y.1).isSome = true) := fun ⟨n, v⟩ hy => by
  rcases S.par n (List.of_mem_zip hy).1 with q | q
  ·exact .inl q
  ·exact .inr ⟨q, PySem.W.cellsFrom_some _ _ _ (.inl q)⟩
 refine codeAny_call_function hr.depth (KX _ _ lk) rfl S.co S.gen rfl (PySem.W.codeRec_of KX hcd) (hb _ _ _ _ ?_)
 refine wpAny_newFunctionEnv_cells S.kind hkind fun env he s1 x => ?_
 subst he
 refine ⟨lim.keeps x.toInCall.keep, codeAny_func ?_⟩
 obtain ⟨t, ht, hq⟩ := hbody A outer s H vs Q E (hr.deeper _) hsp
 have I : Inv (cxOf CX P w K mg base N qual scope f cdv A outer s H E) [] (start N vs) H s1 := inv_start S hr.hd e0 hl r x
 refine wpAny_mono (ht [] s1 (start N vs) H _ I hq) (fun fl s' hs => ?_) fun e s' hs => hs
 have fin : ∀ {σ' : St} {H' : Hp} {v : V} {u : Value}, Inv (cxOf CX P w K mg base N qual scope f cdv A outer s H E) [] σ' H' s' → RelV v u → Q v H' → CE outer P w H s Q u s' :=
  fun {σ' H' v u} J rv q => ⟨v, H', J.os, J.bare, J.base, J.hok, rv, q⟩
 cases fl with
 | ret u =>
  obtain ⟨v, σ', H', J, rv, q⟩ := hs
  exact fin J rv q
 | next =>
  obtain ⟨σ', H', J, q⟩ := hs
  exact fin (v := V.non) (u := Value.none) J rfl q
 | brk =>
  obtain ⟨_, _, _, q⟩ := hs
  exact False.elim q
 | cont =>
  obtain ⟨_, _, _, q⟩ := hs
  exact False.elim q
end L2
namespace L2
open PySem PySem.Spec PyProof.Rows
section
variable {X : Cx} {x : Str} {p pos : Pos} {e : Expr} {es : List Expr} {t : TA} {id T : String} {r : List V → Hp → VK → Prop}
noncomputable def tCB (r : List V → Hp → VK → Prop) (t : TA) : TE := fun σ H Q => t σ H fun vs H1 => r vs H1 Q
theorem pe_callB (hc : CallR X (.builtin id) r) (hg : Gl X x) (hm : X.mg x = none) (hv : bootBuiltins x = some (.builtin id)) (ha : PA X (e :: es) t) (hn : x ≠ "__name__" := by decide) (hdb : (x == ("__debug__" : Str)) = false := by decide)
    (he : starEach (e :: es) X.env = (false, eval e X.env) :: starEach es X.env := by rfl) (hpl : (backTo pos (starEach es X.env)).any (·.1) = false := by rfl) : PE X (.Call (.Name x p) (e :: es) [] pos) (tCB r t) := by
  intro pins s σ H Q I h
  refine wpAny_Call_Name_kw (ld_blt I hg hm hv ?_ hn hdb)
  exact PyProof.Rows.callWith_builtin1 (thn (ha pos pins s σ H _ I h) fun us s1 ⟨vs, H1, I1, r1, q1⟩ => hc pins s1 σ H1 vs us Q I1 r1 q1) he hpl
theorem pe_callTy (hc : CallR X (.type T) r) (hg : Gl X x) (hm : X.mg x = none) (hv : bootBuiltins x = some (.type T)) (ha : PA X (e :: es) t) (hn : x ≠ "__name__" := by decide) (hdb : (x == ("__debug__" : Str)) = false := by decide)
    (he : starEach (e :: es) X.env = (false, eval e X.env) :: starEach es X.env := by rfl) (hpl : (backTo pos (starEach es X.env)).any (·.1) = false := by rfl) : PE X (.Call (.Name x p) (e :: es) [] pos) (tCB r t) := by
  intro pins s σ H Q I h
  refine wpAny_Call_Name_kw (ld_blt I hg hm hv ?_ hn hdb)
  exact PyProof.Rows.callWith_type1 (thn (ha pos pins s σ H _ I h) fun us s1 ⟨vs, H1, I1, r1, q1⟩ => hc pins s1 σ H1 vs us Q I1 r1 q1) he hpl
end
end L2
namespace HT
open PySem PyProof.Rows
section
open PySem.SeqAt
open PySem.AutoSeq1 (wpAny_loadPart')
open PySem.MeetsSeq PySem.MeetsSeq2 PySem.MeetsSeq3
end
section
variable {prog : Program} {w : World} {A : Around} {E : Value → Shared → Prop} {s : Shared}
theorem cat_tup {t b : Addr} {vs ws : List Value} {Q : Value → Shared → Prop} (ht : IsTup s.heap t vs.toArray) (hb : IsTup s.heap b ws.toArray) (hv : vs ≠ [])
  (h1 : ws = [] → Q (.ref t) s) (h2 : ws ≠ [] → Q (.ref s.heap.objs.size) { s with heap := s.heap.push { cls := .type "tuple", data := .seq (vs ++ ws).toArray } })
  (hsz : vs.length + ws.length ≤ sizeLine) : wpAny (model prog w) A (binaryOp .Add (.ref t) (.ref b)) Q E s := by
 obtain ⟨⟨cls, dd, data, sl⟩, ho, hc, n, hd⟩ := id ht
 obtain ⟨⟨cls2, dd2, data2, sl2⟩, ho2, hc2, n2, hd2⟩ := id hb
 simp only at hc hd hc2 hd2
 subst hc hd hc2 hd2
 have e : vs.toArray ++ ws.toArray = (vs ++ ws).toArray := by simp
 by_cases hw : ws = []
 ·exact concat_meets ⟨_, ho, rfl⟩ ⟨_, ho2, rfl⟩ noFill_tuple_add seq_tuple_add PySem.F.slot_tuple_add PySem.F.entry_tuple_add (PySem.F.args_tuple_add_2 _ _)
   (tuple_addW1 t b vs.toArray ws.toArray n n2 dd dd2 sl sl2 (by simpa using hv) (by simp [hw])) ⟨ho, ho2, h1 hw⟩
 ·refine concat_meets ⟨_, ho, rfl⟩ ⟨_, ho2, rfl⟩ noFill_tuple_add seq_tuple_add PySem.F.slot_tuple_add PySem.F.entry_tuple_add (PySem.F.args_tuple_add_2 _ _)
   (tuple_addW2 t b vs.toArray ws.toArray n n2 dd dd2 sl sl2 (by simpa using hv) (by simpa using hw) (by rw [List.size_toArray, List.size_toArray]; exact hsz)) ⟨ho, ho2, ?_⟩
  rw [e]
  exact h2 hw
noncomputable def sIx (n d : Nat) : Option Int → Nat
 | none => d
 | some v => if v < 0 then (v + (n : Int)).toNat else min v.toNat n
end
end HT
namespace L2
open PySem PySem.Spec PyProof.Rows
noncomputable abbrev TO := St → Hp → (Option Int → Hp → Prop) → Prop
noncomputable def PO (X : Cx) (e : Option Expr) (t : TO) : Prop :=
 ∀ (pins : List (Addr × Obj)) (s : Shared) (σ : St) (H : Hp) (Q : Option Int → Hp → Prop), Inv X pins σ H s → t σ H Q →
  wpAny (model X.prog X.w) X.A (evalPart e X.env) (fun u s' => ∃ o H', Inv X pins σ H' s' ∧ IsPart u o ∧ Q o H') X.xe s
noncomputable def tNoPart : TO := fun _ H Q => Q none H
noncomputable def tPart (t : TE) : TO := fun σ H Q => t σ H fun x H1 => ∃ i, x = .int i ∧ Q (some i) H1
section
variable {X : Cx} {e : Expr} {te : TE} {lo hi : Option Expr} {tl th : TO} {pos p2 : Pos}
theorem po_none : PO X none tNoPart := by
 intro pins s σ H Q I h
 rw [evalPart_none]
 exact wpAny_pure ⟨none, H, I, .none, h⟩
theorem po_some (h : PE X e te) : PO X (some e) (tPart te) := by
 intro pins s σ H Q I hw
 rw [evalPart_some]
 refine thn (h pins s σ H _ I hw) fun u s1 ⟨x, H1, I1, r1, q1⟩ => ?_
 obtain ⟨i, rfl, q⟩ := q1
 obtain ⟨t, rfl⟩ := r1
 exact ⟨some i, H1, I1, .int i t, q⟩
noncomputable def SlR (X : Cx) (r : V → Option Int → Option Int → Hp → VK → Prop) : Prop :=
 ∀ (pins : List (Addr × Obj)) (s : Shared) (σ : St) (H : Hp) (x : V) (v vl vu : Value) (lo hi : Option Int) (sl : Addr) (Q : VK), Inv X pins σ H s → RelV x v → s.heap.IsSliceOf sl vl vu .none → IsPart vl lo → IsPart vu hi → r x lo hi H Q →
  ∃ T id, typeLookup (.type T) "__getitem__" = pure (some (.builtin id)) ∧ s.TypeIs v T ∧ wpAny (model X.prog X.w) X.A (getItem v (.ref sl)) (EP X pins σ Q) X.xe s
noncomputable def tSl (r : V → Option Int → Option Int → Hp → VK → Prop) (te : TE) (tl th : TO) : TE := fun σ H Q => te σ H fun x H1 => tl σ H1 fun l H2 => th σ H2 fun u H3 => r x l u H3 Q
theorem pe_slice {r : V → Option Int → Option Int → Hp → VK → Prop} (hr : SlR X r) (he : PE X e te) (hl : PO X lo tl) (hu : PO X hi th) : PE X (.Subscript e (.Slice lo hi none p2) pos) (tSl r te tl th) := by
 intro pins s σ H Q I h
 refine Subscript_ (thn (he pins s σ H _ I h) fun v s1 ⟨x, H1, I1, r1, q1⟩ => ?_)
 refine wpAny_Slice (thn (hl pins s1 σ H1 _ I1 q1) fun vl s2 ⟨l, H2, I2, pl, q2⟩ => thn (hu pins s2 σ H2 _ I2 q2) fun vu s3 ⟨u, H3, I3, pu, q3⟩ => ?_)
 rw [evalPart_none]
 refine wpAny_pure ?_
 have I4 : Inv X pins σ H3 { s3 with heap := s3.heap.push { cls := .type "slice", data := .fields #[vl, vu, .none] } } := I3.kept (t' := s3.toks) fun b ob q => Heap.get?_push_of_some _ q
 obtain ⟨T, id, hT, ht, hg⟩ := hr pins { s3 with heap := s3.heap.push { cls := .type "slice", data := .fields #[vl, vu, .none] } } σ H3 x v vl vu l u s3.heap.objs.size Q I4 r1 (Heap.IsSliceOf.new ..) pl pu q3
 show wpAny (model X.prog X.w) X.A (subscriptTail e (.Slice lo hi none p2) v (.ref s3.heap.objs.size)) (EP X pins σ Q) X.xe { s3 with heap := s3.heap.push { cls := .type "slice", data := .fields #[vl, vu, .none] } }
 exact tail_any (ops := [.ref s3.heap.objs.size, v]) ht hT hg (by with_unfolding_all rfl)
noncomputable def cutV (xs : List V) (lo hi : Option Int) : List V := (xs.drop (HT.sIx xs.length 0 lo)).take (HT.sIx xs.length xs.length hi - HT.sIx xs.length 0 lo)
theorem cutV_length (xs : List V) (lo hi : Option Int) : (cutV xs lo hi).length ≤ xs.length := by
 unfold cutV
 rw [List.length_take, List.length_drop]
 omega
theorem Vals.nil_iff {xs : List V} {us : List Value} (r : Vals xs us) : us = [] ↔ xs = [] := by
 cases r with
 | nil => simp
 | cons _ _ => simp
end
end L2
namespace L2
open PySem PySem.Spec PyProof.Rows
noncomputable def ixN (n : Nat) (i : Int) : Option Nat := if 0 ≤ i then (if i < n then some i.toNat else none) else if -(n : Int) ≤ i then some (i + n).toNat else none
noncomputable def atI {α : Type} (xs : List α) (i : Int) : Option α := (ixN xs.length i).bind fun j => xs[j]?
theorem ixN_seq {n : Nat} {i : Int} {j : Nat} (h : ixN n i = some j) : seqIndex? i n = some j ∧ j < n ∧ -(n : Int) ≤ i ∧ i < n := by
 unfold ixN at h
 by_cases h0 : 0 ≤ i
 ·rw [if_pos h0] at h
  by_cases h1 : i < n
  ·rw [if_pos h1] at h
   have e : i.toNat = j := Option.some.inj h
   exact ⟨by rw [seqIndex_of h0 h1, e], by omega, by omega, h1⟩
  ·rw [if_neg h1] at h; cases h
 ·rw [if_neg h0] at h
  by_cases h1 : -(n : Int) ≤ i
  ·rw [if_pos h1] at h
   have e : (i + n).toNat = j := Option.some.inj h
   exact ⟨by rw [seqIndex_neg (by omega) h1, e], by omega, h1, by omega⟩
  ·rw [if_neg h1] at h; cases h
theorem atI_get {α : Type} {xs : List α} {i : Int} {v : α} (h : atI xs i = some v) : ∃ j, seqIndex? i xs.length = some j ∧ xs[j]? = some v ∧ j < xs.length ∧ -(xs.length : Int) ≤ i ∧ i < xs.length := by
 unfold atI at h
 cases e : ixN xs.length i with
 | none => rw [e] at h; cases h
 | some j =>
  rw [e] at h
  obtain ⟨h1, h2, h3, h4⟩ := ixN_seq e
  exact ⟨j, h1, h, h2, h3, h4⟩
theorem atI_nat {α : Type} {xs : List α} {j : Nat} {v : α} (h : xs[j]? = some v) : atI xs (j : Int) = some v := by
 have hj : j < xs.length := (List.getElem?_eq_some_iff.mp h).1
 have e : ixN xs.length (j : Int) = some j := by
  unfold ixN
  rw [if_pos (by omega), if_pos (by omega)]; simp
 unfold atI; rw [e]; exact h
noncomputable def PlainIx (b : Expr) : Prop := ∀ o i, subscripted b false o i = operate [o, i] (getItem o i)
noncomputable def IxR (X : Cx) (r : R2) : Prop :=
 ∀ (value slice : Expr) (pins : List (Addr × Obj)) (s : Shared) (σ : St) (H : Hp) (x y : V) (v u : Value) (Q : VK), Inv X pins σ H s → RelV x v → RelV y u → r x y H Q →
  subscripted slice false v u = operate [v, u] (getItem v u) → wpAny (model X.prog X.w) X.A (subscriptTail value slice v u) (EP X pins σ Q) X.xe s
noncomputable def MtR (X : Cx) (id : String) (r : V → List V → Hp → VK → Prop) : Prop :=
 ∀ (pins : List (Addr × Obj)) (s : Shared) (σ : St) (H : Hp) (x : V) (xs : List V) (v : Value) (us : List Value) (Q : VK), Inv X pins σ H s → RelV x v → Vals xs us → r x xs H Q →
  wpAny (model X.prog X.w) X.A (call (.builtin id) (v :: us)) (EP X pins σ Q) X.xe s
section
variable {X : Cx} {a b : Expr} {ta tb : TE} {pos : Pos}
theorem IxR.or {r r' : R2} (h : IxR X r) (h' : IxR X r') : IxR X (fun x y H Q => r x y H Q ∨ r' x y H Q) := by
 intro value slice pins s σ H x y v u Q I rx ry q hs
 rcases q with q | q
 ·exact h value slice pins s σ H x y v u Q I rx ry q hs
 ·exact h' value slice pins s σ H x y v u Q I rx ry q hs
theorem pe_ix {r : R2} (hr : IxR X r) (ha : PE X a ta) (hb : PE X b tb) (hs : PlainIx b) : PE X (.Subscript a b pos) (tOp r ta tb) := by
 intro pins s σ H Q I h
 exact Subscript_ (binT ha hb I h fun v u s2 x y H2 I2 rx ry q => hr a b pins s2 σ H2 x y v u Q I2 rx ry q (hs _ _))
noncomputable def rIxL (K : PySem.W.Frag) : R2 := fun x y H Q => ∃ p xs i v, x = .ref p ∧ y = .int i ∧ SqL K H p xs ∧ atI xs i = some v ∧ Q v H
noncomputable def rIxT (K : PySem.W.Frag) : R2 := fun x y H Q => ∃ p xs i v, x = .ref p ∧ y = .int i ∧ SqT K H p xs ∧ atI xs i = some v ∧ Q v H
noncomputable def rIxS : R2 := fun x y H Q => ∃ z i c, x = .str z ∧ y = .int i ∧ z.length ≤ sizeLine ∧ atI z.cps.toList i = some c ∧ Q (.str ⟨#[c]⟩) H
theorem ix_list : IxR X (rIxL X.K) := by
 intro value slice pins s σ H x y v u Q I rx ry h hs
 obtain ⟨p, xs, i, z, rfl, rfl, hq, he, q⟩ := h
 cases rx
 obtain ⟨t, rfl⟩ := ry
 obtain ⟨its, r, pl, hz⟩ := I.list hq
 obtain ⟨j, h1, h2, h3, h4, h5⟩ := atI_get he
 obtain ⟨w, ew, rw'⟩ := r.get h2
 have hl := r.length
 have hn := line63
 have fin : EP X pins σ Q w s := ⟨z, H, I, rw', q⟩
 by_cases h0 : 0 ≤ i
 ·have hj : i.toNat = j := by
   rw [seqIndex_of h0 h5] at h1
   exact Option.some.inj h1
  exact item_listR pl.isList h0 (by omega) (by rw [hj]; simpa using ew) fin hs
 ·have hj : (i + (its.toArray.size : Int)).toNat = j := by
   rw [seqIndex_neg (by omega) h4] at h1
   rw [List.size_toArray, ← hl]
   exact Option.some.inj h1
  exact subscriptTail_builtinR (x := w) pl.isList.typeIs slot_list_getitem.lookup
   (wpAny_getItem_list_neg (Q := fun r s' => r = w ∧ EP X pins σ Q r s') pl.isList (by omega) (by rw [List.size_toArray] <;> omega) (by omega) (by rw [hj]; simpa using ew) ⟨rfl, fin⟩) hs
theorem ix_tup : IxR X (rIxT X.K) := by
 intro value slice pins s σ H x y v u Q I rx ry h hs
 obtain ⟨p, xs, i, z, rfl, rfl, hq, he, q⟩ := h
 cases rx
 obtain ⟨t, rfl⟩ := ry
 obtain ⟨its, r, pl, hz⟩ := I.tuple hq
 obtain ⟨j, h1, h2, h3, h4, h5⟩ := atI_get he
 obtain ⟨w, ew, rw'⟩ := r.get h2
 have hl := r.length
 have hn := line63
 have fin : EP X pins σ Q w s := ⟨z, H, I, rw', q⟩
 exact subscriptTail_builtinR (x := w) pl.typeIs slot_tuple_getitem.lookup
  (getItem_tuple (j := j) (Q := fun r s' => r = w ∧ EP X pins σ Q r s') pl (by omega) (by omega) (by rw [List.size_toArray, ← hl]; exact h1) (by simpa using ew) ⟨rfl, fin⟩) hs
theorem ix_str : IxR X rIxS := by
 intro value slice pins s σ H x y v u Q I rx ry h hs
 obtain ⟨z, i, c, rfl, rfl, hz, he, q⟩ := h
 obtain ⟨t, rfl⟩ := rx
 obtain ⟨t', rfl⟩ := ry
 obtain ⟨j, h1, h2, h3, h4, h5⟩ := atI_get he
 have hl : z.cps.toList.length = z.length := by simp [Str.length]
 rw [hl] at h1 h4 h5
 have hn := line63
 exact tail_any (typeIs_str s z t) slot_str_getitem.lookup (getItem_str (c := c) (by
  have e1 : decide (i < -(2 ^ 63 : Int)) = false := decide_eq_false (by omega)
  have e2 : decide (i ≥ 2 ^ 63) = false := decide_eq_false (by omega)
  rw [e1, e2, Bool.or_false]) (by rw [h1]; simpa using h2) ⟨.str ⟨#[c]⟩, H, I.tok _, ⟨_, rfl⟩, q⟩) hs
theorem mapSeq_set (its : List Value) (n j : Nat) (u : Value) : Obj.mapSeq (·.setIfInBounds j u) { cls := .type "list", data := .seq its.toArray n } = { cls := .type "list", data := .seq (its.set j u).toArray n } := by
 simp [Obj.mapSeq]
theorem Inv.lst {pins : List (Addr × Obj)} {σ : St} {H : Hp} {s : Shared} {p : Addr} {xs : List V} (I : Inv X pins σ H s) (h : H p = some (.lst xs)) :
  ∃ (its : List Value) (n : Nat), Vals xs its ∧ s.heap.get? p = some { cls := .type "list", data := .seq its.toArray n } ∧ xs.length ≤ sizeLine := by
 obtain ⟨z, its, n, r, e⟩ := I.hok p _ h
 exact ⟨its, n, r, e, z⟩
theorem Inv.lstUpd {pins : List (Addr × Obj)} {σ : St} {H : Hp} {s : Shared} {p : Addr} {xs ys : List V} {its its' : List Value} {n n' : Nat} {f : Obj → Obj} (I : Inv X pins σ H s) (h : H p = some (.lst xs))
  (ho : s.heap.get? p = some { cls := .type "list", data := .seq its.toArray n }) (hf : f { cls := .type "list", data := .seq its.toArray n } = { cls := .type "list", data := .seq its'.toArray n' }) (r : Vals ys its') (hz : ys.length ≤ sizeLine) (t : Nat) :
  Inv X pins σ (upd H p (.lst ys)) { s with heap := s.heap.update p f, toks := t } := by
 have e : (s.heap.update p f).get? p = some { cls := .type "list", data := .seq its'.toArray n' } := by
  rw [Heap.get?_update_self f ho (by rw [hf] <;> rfl), hf]
 refine I.write (x := p) (e := p) (by rw [h]; trivial) (.inl rfl) (fun b u hb q => (Heap.get?_update_other _ _ (Ne.symm hb)).trans q) ⟨_, e⟩ ?_
 exact ⟨hz, its', n', r, e⟩
noncomputable def rSetL : V → V → V → Hp → (Hp → Prop) → Prop := fun o i v H Q => ∃ p xs k j, o = .ref p ∧ i = .int k ∧ H p = some (.lst xs) ∧ ixN xs.length k = some j ∧ Q (upd H p (.lst (xs.set j v)))
theorem set_list : PSet X rSetL := by
 intro pins s σ H o i v ov iv u Q I ro ri rv h
 obtain ⟨p, xs, k, j, rfl, rfl, hp, hj, q⟩ := h
 cases ro
 obtain ⟨t, rfl⟩ := ri
 obtain ⟨its, n, r, ho, hz⟩ := I.lst hp
 obtain ⟨h1, h2, h3, h4⟩ := ixN_seq hj
 have hl := r.length
 have hn := line63
 have I' : Inv X pins σ (upd H p (.lst (xs.set j v))) { s with heap := s.heap.update p (Obj.mapSeq (·.setIfInBounds j u)) } :=
  I.lstUpd hp ho (mapSeq_set its n j u) (r.set rv j) (by rw [List.length_set]; exact hz) s.toks
 by_cases h0 : 0 ≤ k
 ·have hk : k.toNat = j := by
   rw [seqIndex_of h0 h4] at h1
   exact Option.some.inj h1
  exact PySem.W.ki_setAt ho h0 (by omega) (by rw [List.size_toArray, ← hl]; exact h4) (by rw [hk]; exact ⟨_, I', q⟩)
 ·have hk : (k + (its.toArray.size : Int)).toNat = j := by
   rw [seqIndex_neg (by omega) h3] at h1
   rw [List.size_toArray, ← hl]
   exact Option.some.inj h1
  exact PySem.W.ki_setBack ho (by omega) (by rw [List.size_toArray, ← hl]; exact h3) (by omega) (by rw [hk]; exact ⟨_, I', q⟩)
theorem slice_bounds (lo hi : Option Int) (n : Nat) : (sliceBounds lo hi none n).1 = ((HT.sIx n 0 lo : Nat) : Int) ∧ (sliceBounds lo hi none n).2.1 = ((HT.sIx n n hi : Nat) : Int) ∧ (sliceBounds lo hi none n).2.2 = 1 := by
 refine ⟨?_, ?_, rfl⟩
 ·cases lo with
  | none => simp [sliceBounds, HT.sIx]
  | some i =>
   simp only [sliceBounds, HT.sIx, Option.getD_none, show (1 : Int) > 0 by decide, if_true]
   by_cases h : i < 0
   ·simp only [h, if_true] <;> omega
   ·simp only [h, if_false] <;> omega
 ·cases hi with
  | none => simp [sliceBounds, HT.sIx]
  | some i =>
   simp only [sliceBounds, HT.sIx, Option.getD_none, show (1 : Int) > 0 by decide, if_true]
   by_cases h : i < 0
   ·simp only [h, if_true] <;> omega
   ·simp only [h, if_false] <;> omega
theorem slicePick_cut (its : List Value) (lo hi : Option Int) : slicePick its.toArray lo hi none = ((its.drop (HT.sIx its.length 0 lo)).take (HT.sIx its.length its.length hi - HT.sIx its.length 0 lo)).toArray := by
 obtain ⟨h1, h2, h3⟩ := slice_bounds lo hi its.toArray.size
 unfold slicePick
 rw [h1, h2, h3]
 simp only [sliceRange_one, pick_run, List.size_toArray] <;> rfl
noncomputable def rSlL (K : PySem.W.Frag) : V → Option Int → Option Int → Hp → VK → Prop := fun x lo hi H Q => ∃ a xs, x = .ref a ∧ SqL K H a xs ∧ ∀ p, H p = none → Q (.ref p) (upd H p (.lst (cutV xs lo hi)))
theorem sl_list : SlR X (rSlL X.K) := by
 intro pins s σ H x v vl vu lo hi sl Q I rx hs pl pu h
 obtain ⟨a, xs, rfl, hx, q⟩ := h
 cases rx
 obtain ⟨its, r, ht, hz⟩ := I.list hx
 have hlen := r.length
 refine ⟨"list", _, slot_list_getitem.lookup, ht.isList.typeIs, ?_⟩
 refine wpAny_getItem_list_slice ht.isList hs pl pu .none (by simp) ?_ (by rw [List.size_toArray] <;> omega)
 rw [slicePick_cut, ← hlen]
 refine ⟨.ref s.heap.objs.size, _, I.laid (t' := s.toks) (o := .lst (cutV xs lo hi)) (fun b ob q => Heap.get?_push_of_some _ q) (Nat.le_refl _) ?_, rfl, q _ (I.hok.fresh (Nat.le_refl _))⟩
 exact ⟨Nat.le_trans (cutV_length xs lo hi) hz, _, 0, (r.drop (HT.sIx xs.length 0 lo)).take (HT.sIx xs.length xs.length hi - HT.sIx xs.length 0 lo), Heap.get?_push_size _ rfl⟩
theorem call_len_seq : CallR X (.builtin "len") (fun xs H Q => ∃ p ys, xs = [.ref p] ∧ (SqL X.K H p ys ∨ SqT X.K H p ys) ∧ Q (.int ys.length) H) := by
 intro pins s σ H xs us Q I r h
 obtain ⟨p, ys, rfl, hq, q⟩ := h
 obtain ⟨u, rfl, rx⟩ := vals1 r
 cases rx
 have hn := line63
 rcases hq with hq | hq
 ·obtain ⟨its, r', pl, hz⟩ := I.list hq
  have hlen := r'.length
  exact Calls.call_len_list pl.isList (by simp only [List.size_toArray] <;> omega) ⟨.int ys.length, H, I.tok _, ⟨s.toks + 1, by rw [List.size_toArray, hlen]⟩, q⟩
 ·obtain ⟨its, r', pl, hz⟩ := I.tuple hq
  have hlen := r'.length
  exact len_tuple pl (by simp only [List.size_toArray] <;> omega) ⟨.int ys.length, H, I.tok _, ⟨s.toks + 1, by rw [List.size_toArray, hlen]⟩, q⟩
theorem call_list_of : CallR X (.type "list") (fun xs H Q => ∃ p ys, xs = [.ref p] ∧ (SqL X.K H p ys ∨ SqT X.K H p ys) ∧ ∀ l, H l = none → Q (.ref l) (upd H l (.lst ys))) := by
 intro pins s σ H xs us Q I r h
 obtain ⟨p, ys, rfl, hq, q⟩ := h
 obtain ⟨u, rfl, rx⟩ := vals1 r
 cases rx
 have fin : ∀ (its : List Value), Vals ys its → ys.length ≤ sizeLine → ∀ (h' : Heap) (c' : Nat), (∀ b o', s.heap.get? b = some o' → h'.get? b = some o') →
   h'.get? s.heap.objs.size = some { cls := .type "list", dict := none, data := .seq its.toArray c', slots := #[] } → EP X pins σ Q (.ref s.heap.objs.size) { s with heap := h' } := fun its r' hz h' c' kp e =>
  ⟨.ref s.heap.objs.size, _, I.laid (t' := s.toks) kp (Nat.le_refl _) (show ObjOk X.prog X.w _ h' _ (.lst ys) from ⟨hz, its, c', r', e⟩), rfl, q _ (I.hok.fresh (Nat.le_refl _))⟩
 rcases hq with hq | hq
 ·obtain ⟨its, r', pl, hz⟩ := I.list hq
  have hlen := r'.length
  obtain ⟨o, ho, hc, n, hd⟩ := pl.isList
  exact call_list_seq p (.inl rfl) ho hc hd (fun h' c' kp e => fin its r' hz h' c' kp e) (by simp only [List.size_toArray] <;> omega)
 ·obtain ⟨its, r', pl, hz⟩ := I.tuple hq
  have hlen := r'.length
  obtain ⟨o, ho, hc, n, hd⟩ := pl
  exact call_list_seq p (.inr rfl) ho hc hd (fun h' c' kp e => fin its r' hz h' c' kp e) (by simp only [List.size_toArray] <;> omega)
theorem call_tuple_of : CallR X (.type "tuple") (fun xs H Q => ∃ p ys, xs = [.ref p] ∧ ((SqL X.K H p ys ∧ ∀ l, H l = none → Q (.ref l) (upd H l (.tup ys))) ∨ (SqT X.K H p ys ∧ Q (.ref p) H))) := by
 intro pins s σ H xs us Q I r h
 obtain ⟨p, ys, rfl, h⟩ := h
 obtain ⟨u, rfl, rx⟩ := vals1 r
 cases rx
 rcases h with ⟨hq, q⟩ | ⟨hq, q⟩
 ·obtain ⟨its, r', pl, hz⟩ := I.list hq
  have hlen := r'.length
  refine call_tuple_list pl.isList (fun h' kp => ?_) (by simp only [List.size_toArray] <;> omega)
  have I1 : Inv X pins σ H { s with heap := h' } := I.kept (t' := s.toks) kp
  have I2 : Inv X pins σ (upd H h'.objs.size (.tup ys)) { s with heap := h'.push { cls := .type "tuple", data := .seq its.toArray } } :=
   I1.laid (t' := s.toks) (fun b o e => Heap.get?_push_of_some _ e) (Nat.le_refl _) (show ObjOk X.prog X.w _ _ _ (.tup ys) from ⟨hz, its, r', IsTup.new _ _⟩)
  exact ⟨.ref h'.objs.size, _, I2, rfl, q _ (I1.hok.fresh (Nat.le_refl _))⟩
 ·obtain ⟨its, r', pl, hz⟩ := I.tuple hq
  exact call_tuple_same pl ⟨.ref p, H, I, rfl, q⟩
noncomputable def tyV (K : PySem.W.Frag) (T : String) (x : V) (H : Hp) : Prop := match x with
 | .str _ => T = "str"
 | .int _ => T = "int"
 | .ref p => (T = "list" ∧ ∃ xs, SqL K H p xs) ∨ (T = "tuple" ∧ ∃ o, K.lookup p = some o ∧ o.cls = .type "tuple" ∧ o.dict = none) ∨
   (T = "dict" ∧ ((∃ kvs, H p = some (.dK kvs)) ∨ ∃ kvs, H p = some (.dT kvs))) ∨ (T = "set" ∧ ∃ S n, H p = some (.set S n))
 | _ => False
theorem tyV_is {pins : List (Addr × Obj)} {σ : St} {H : Hp} {s : Shared} {T : String} {x : V} {v : Value} (I : Inv X pins σ H s) (r : RelV x v) (ty : tyV X.K T x H) :
  s.TypeIs v T ∧ ∀ a, v = .ref a → ∃ ob, s.heap.get? a = some ob ∧ ob.dict = none := by
 cases x with
 | str z =>
  obtain ⟨t, rfl⟩ := r
  cases (show T = "str" from ty)
  exact ⟨typeIs_str s z t, fun _ e => nomatch e⟩
 | int i =>
  obtain ⟨t, rfl⟩ := r
  cases (show T = "int" from ty)
  exact ⟨typeIs_int s i t, fun _ e => nomatch e⟩
 | ref p =>
  cases r
  rcases ty with ⟨rfl, xs, hq⟩ | ⟨rfl, o, hk, hc, hd⟩ | ⟨rfl, hk⟩ | ⟨rfl, S, n, hk⟩
  ·obtain ⟨its, _, pl, _⟩ := I.list hq
   refine ⟨pl.isList.typeIs, fun a e => ?_⟩
   cases e
   obtain ⟨o, n, e, c, hd, _⟩ := pl
   exact ⟨o, e, hd⟩
  ·refine ⟨⟨o, I.kIn p o hk, hc⟩, fun a e => ?_⟩
   cases e
   exact ⟨o, I.kIn _ o hk, hd⟩
  ·have z : ∃ o, s.heap.get? p = some o ∧ o.ExactDict := by
    rcases hk with ⟨kvs, hk⟩ | ⟨kvs, hk⟩
    ·obtain ⟨_, _, _, _, o, _, _, e, ex, _⟩ := I.hok p _ hk
     exact ⟨o, e, ex⟩
    ·obtain ⟨_, _, _, _, o, _, _, e, ex, _⟩ := I.hok p _ hk
     exact ⟨o, e, ex⟩
   obtain ⟨o, e, ex⟩ := z
   refine ⟨⟨o, e, ex.1⟩, fun a e2 => ?_⟩
   cases e2
   exact ⟨o, e, ex.2.1⟩
  ·obtain ⟨o, _, _, _, e, ex, _⟩ := I.hok p _ hk
   refine ⟨⟨o, e, ex.1⟩, fun a e2 => ?_⟩
   cases e2
   exact ⟨o, e, ex.2.1⟩
 | _ => exact False.elim ty
noncomputable def tBM (K : PySem.W.Frag) (T : String) (r : V → List V → Hp → VK → Prop) (to : TE) (t : TA) : TE := fun σ H Q => to σ H fun x H1 => tyV K T x H1 ∧ t σ H1 fun xs H2 => r x xs H2 Q
variable {o e : Expr} {es : List Expr} {to : TE} {t : TA} {name : Str} {apos cpos : Pos} {T id : String} {r : V → List V → Hp → VK → Prop}
theorem pe_bm (pa : PlainAttrs T) (slot : Slot T name id) (hty : typeOf (.builtin id) = pure (.type "method_descriptor")) (hm : MtR X id r) (ho : PE X o to) (ha : PA X (e :: es) t)
  (hbase : attributeBase o name X.env (eval o X.env) = eval o X.env := by rfl)
  (hfew : ((backTo cpos (starEach (e :: es) X.env)).all (fun x => !x.1) && (backToKw cpos (keywordEach [] X.env)).all (fun x => x.1.isSome)
   && decide ((e :: es).length + ([] : List Keyword).length + (if ([] : List Keyword).isEmpty then 0 else 1) < 30)) = true := by rfl)
  (hline : (apos.endLine == cpos.line) = true := by rfl) (hs : starEach (e :: es) X.env = (false, eval e X.env) :: starEach es X.env := by rfl) (hplain : (backTo cpos (starEach es X.env)).any (·.1) = false := by rfl) :
  PE X (.Call (.Attribute o name apos) (e :: es) [] cpos) (tBM X.K T r to t) := by
 intro pins s σ H Q I h
 refine wpAny_Call_method_late hbase hfew hline rfl (thn (ho pins s σ H _ I h) fun v s1 ⟨x, H1, I1, r1, ty, q1⟩ => ?_)
 obtain ⟨h1, h2⟩ := tyV_is I1 r1 ty
 refine ⟨T, id, pa, slot, hty, h1, h2, ?_⟩
 have hA := ha cpos pins s1 σ H1 _ I1 q1
 rw [hs] at hA ⊢
 refine Calls.callWith_builtin (by show (false || (backTo cpos (starEach es X.env)).any (·.1)) = false; rw [hplain] <;> rfl) (Calls.evalArgs_plain ?_)
 exact thn hA fun us s2 ⟨vs, H2, I2, r2, q2⟩ => hm pins s2 σ H2 x vs v us Q I2 r1 r2 q2
end
end L2
namespace L2
open PySem PySem.Spec PyProof.Rows
noncomputable def MtM (X : Cx) (id : String) (r : V → List V → Hp → VK → Prop) : Prop :=
 ∀ (pins : List (Addr × Obj)) (s : Shared) (σ : St) (H : Hp) (x : V) (xs : List V) (v : Value) (us : List Value) (Q : VK), Inv X pins σ H s → RelV x v → Vals xs us → r x xs H Q →
  wpAny (model X.prog X.w) X.A (call (.builtin id) (v :: us)) (EP X pins σ Q) X.xe s
theorem Vals.one : ∀ {x : V} {us : List Value}, Vals [x] us → ∃ u, us = [u] ∧ RelV x u
 | _, _, .cons r .nil => ⟨_, rfl, r⟩
theorem Vals.rep {xs : List V} {us : List Value} (h : Vals xs us) : ∀ k : Nat, Vals (List.replicate k xs).flatten (List.replicate k us).flatten
 | 0 => .nil
 | k + 1 => by
  rw [List.replicate_succ, List.replicate_succ, List.flatten_cons, List.flatten_cons]
  exact Vals.append h (Vals.rep h k)
theorem foldl_rep (its : List Value) : ∀ (k : Nat) (acc : List Value),
  List.foldl (fun x1 x2 => x1 ++ x2) acc.toArray (List.replicate k its.toArray) = (acc ++ (List.replicate k its).flatten).toArray
 | 0, acc => by simp
 | k + 1, acc => by
  have e : acc.toArray ++ its.toArray = (acc ++ its).toArray := by simp
  have e2 : (acc ++ its) ++ (List.replicate k its).flatten = acc ++ (List.replicate (k + 1) its).flatten := by
   rw [List.replicate_succ, List.flatten_cons, List.append_assoc]
  rw [← e2, ← foldl_rep its k (acc ++ its), ← e, List.replicate_succ, List.foldl_cons]
section
variable {X : Cx} {pins : List (Addr × Obj)} {σ : St} {H : Hp} {s : Shared} {l b : Addr} {xs ys zs : List V}
theorem Inv.lset {its its' : List Value} {n : Nat} {f : Array Value → Array Value} {t' : Nat} (I : Inv X pins σ H s) (hH : H l = some (.lst xs))
  (e : s.heap.get? l = some { cls := .type "list", data := .seq its.toArray n }) (hf : f its.toArray = its'.toArray) (hv : Vals ys its') (hz : ys.length ≤ sizeLine) :
  Inv X pins σ (upd H l (.lst ys)) { s with heap := s.heap.update l (Obj.mapSeq f), toks := t' } := by
 have q := PySem.IsL.update e f
 rw [hf] at q
 refine I.write (x := l) (e := l) (by rw [hH]; exact trivial) (.inl rfl) (fun b' u hb hu => (Heap.get?_update_other s.heap (Obj.mapSeq f) (Ne.symm hb)).trans hu) ⟨_, q⟩ ?_
 exact ⟨hz, its', _, hv, q⟩
theorem Inv.lnew {its : List Value} {t' : Nat} (I : Inv X pins σ H s) (hv : Vals ys its) (hz : ys.length ≤ sizeLine) :
  Inv X pins σ (upd H s.heap.objs.size (.lst ys)) { s with heap := s.heap.push { cls := .type "list", data := .seq its.toArray }, toks := t' } :=
 I.laid (fun _ _ q => Heap.get?_push_of_some _ q) (Nat.le_refl _) ⟨hz, its, 0, hv, Heap.get?_push_size _ rfl⟩
theorem Inv.fresh (I : Inv X pins σ H s) : H s.heap.objs.size = none := I.hok.fresh (Nat.le_refl _)
theorem Inv.lstM (I : Inv X pins σ H s) (hH : H l = some (.lst xs)) : xs.length ≤ sizeLine ∧ ∃ (its : List Value) (n : Nat), Vals xs its ∧ xs.length = its.length ∧ s.heap.get? l = some { cls := .type "list", data := .seq its.toArray n } := by
 obtain ⟨z, its, n, r, e⟩ := I.hok l _ hH
 exact ⟨z, its, n, r, r.length, e⟩
end
section
variable {X : Cx}
noncomputable def rAppend : V → List V → Hp → VK → Prop := fun x vs H Q => ∃ l xs y, x = .ref l ∧ vs = [y] ∧ H l = some (.lst xs) ∧ xs.length < sizeLine ∧ Q .non (upd H l (.lst (xs ++ [y])))
theorem mt_append : MtM X "list.append" rAppend := by
 intro pins s σ H x vs v us Q I rx rv h
 obtain ⟨l, xs, y, rfl, rfl, hH, hz, q⟩ := h
 cases rx
 obtain ⟨u, rfl, ru⟩ := rv.one
 obtain ⟨z, its, n, r, hl, e⟩ := I.lstM hH
 refine call_meets F.slot_list_append ⟨_, e, rfl⟩ F.entry_list_append (F.args_list_append_2 _ _) (PySem.list_append l its.toArray n u (by rw [List.size_toArray]; omega)) ⟨e, ?_⟩
 refine ⟨.non, _, I.lset (its' := its ++ [u]) hH e (by simp) (r.append (.cons ru .nil)) ?_, rfl, q⟩
 rw [List.length_append, List.length_singleton]
 omega
noncomputable def rCat : R2 := fun x y H Q => ∃ l b xs zs, x = .ref l ∧ y = .ref b ∧ H l = some (.lst xs) ∧ H b = some (.lst zs) ∧ xs.length + zs.length ≤ sizeLine ∧ ∀ p, H p = none → Q (.ref p) (upd H p (.lst (xs ++ zs)))
theorem op_cat : OpR X (binaryOp .Add) rCat := by
 intro pins s σ H x y v u Q I rx ry h
 obtain ⟨l, b, xs, zs, rfl, rfl, hH, hB, hz, q⟩ := h
 cases rx
 cases ry
 obtain ⟨z, its, n, r, hl, e⟩ := I.lstM hH
 obtain ⟨z2, its2, n2, r2, hl2, e2⟩ := I.lstM hB
 refine PySem.P.add_list e e2 ?_ (by rw [List.size_toArray, List.size_toArray]; omega)
 have ea : its.toArray ++ its2.toArray = (its ++ its2).toArray := by simp
 rw [ea]
 exact ⟨.ref _, _, I.lnew (t' := s.toks) (r.append r2) (by rw [List.length_append]; omega), rfl, q _ I.fresh⟩
theorem len_rep {α : Type} (xs : List α) (k : Nat) : (List.replicate k xs).flatten.length = k * xs.length := by
 induction k with
 | zero => simp
 | succ k ih => rw [List.replicate_succ, List.flatten_cons, List.length_append, ih, Nat.succ_mul, Nat.add_comm]
end
section
variable {prog : Program} {w : World} {A : Around} {E : Value → Shared → Prop} {s : Shared}
end
section
variable {X : Cx}
end
end L2
namespace Att
open PySem PySem.W PySem.Calls PyProof.Rows
theorem ints_of_wellAll {P : Params} {h : Heap} : ∀ (ns : List Int) (vs : List Value), WellAll P h vs (ns.map WData.int) → IntsAre vs ns := by
 intro ns
 induction ns with
 | nil =>
  intro vs w
  rw [List.map_nil] at w
  cases w
  exact .nil
 | cons n ns ih =>
  intro vs w
  rw [List.map_cons] at w
  cases w with
  | cons a b =>
   cases a
   exact .cons _ _ (ih _ b)
theorem script_of {l : OpenLaw} {n : Nat} (hn : l.most = some n) {P : Params} {h : Heap} {args : List WData} {vals : List Value}
  (hpre : l.row.toRowW.claim.pre args = true) (hwl : WellAll P h vals args) :
  ∃ a vs ns, vals = [Value.ref a] ∧ args = [WData.list (ns.map WData.int)] ∧ h.get? a = some { cls := .type "list", data := .seq vs.toArray } ∧ IntsAre vs ns ∧ ns.length ≤ n := by
 have hsh : WShape.hasAll [] args [.list .int] = true := (pre_splitW hpre).1
 have hc : l.pre.holds [] { args := args } = true := (pre_splitW hpre).2
 obtain ⟨d, r, rfl, h1, h2⟩ := hasAllW_cons hsh
 obtain rfl := hasAllW_nil h2
 obtain ⟨xs, rfl, h3⟩ := hasW_list h1
 obtain ⟨ns, rfl⟩ := items_int h3
 have hlen : ns.length ≤ n := by
  unfold OpenLaw.pre at hc
  have h4 : (WTm.not (.lt (.lit (.int (n : Int))) (.len (.arg 0)))).holds [] { args := [.list (ns.map .int)] } = true := by
   have h4 := (holds_andW hc).1
   rw [hn] at h4
   exact h4
  have h5 := condW_of h4 (w_not (w_lt w_lit (w_len_list (w_arg rfl))))
  rw [List.length_map] at h5
  refine Nat.le_of_not_lt fun q => ?_
  have q' : (n : Int) < ((ns.length : Nat) : Int) := by omega
  first
   | (rw [decide_eq_true q'] at h5; exact absurd h5 (by decide))
   | (simp at h5; omega)
 cases hwl with
 | cons w1 w2 =>
  cases w2
  cases w1 with
  | list ho hall => exact ⟨_, _, ns, rfl, rfl, ho, ints_of_wellAll ns _ hall, hlen⟩
theorem post_true (l : OpenLaw) (args : List WData) : l.row.toRowW.claim.post args (.bool true) args = true :=
 postW_of (r := l.row.toRowW) (X := (true == true))
  (show WShape.has [] (.bool true) .bool = true by first | rfl | decide | simp [WShape.has, WShape.arms, WShape.armsAll])
  (show (WTm.eq .res (.lit (.bool true))).value [] { args := args, res := some (.bool true), after := args } = some (.bool (true == true)) from w_eq_bool (w_res rfl) w_lit) rfl
theorem attach_call {l : OpenLaw} {n : Nat} {q : Program} {loose : List Str} {XP : (Str → Option Value) → Heap → Prop} {YP : World → Heap → Prop} {d : DefRec}
  (hn : l.most = some n) (hdf : d.params.defaults = [])
  (call : ∀ (w : World) (s₀ s₁ : Shared) (mg mb : Str → Option Value) (fa : Addr) (o : Obj) (pm cd doc : Value) (a : Addr) (vs : List Value) (ns : List Int),
   Ground q loose [] XP w s₀ mg mb s₁.heap → YP w s₁.heap →
   s₁.heap.get? fa = some o → o.data = .func (docDef d.name d.params d.body d.scope pm cd doc) → s₁.heap.CodeRec cd d.name → mg d.name = some (.ref fa) →
   s₁.heap.get? a = some { cls := .type "list", data := .seq vs.toArray } → IntsAre vs ns → ns.length ≤ n → s₁.gens = #[] →
   codeAny (model l.prog w) callerA (.call (.ref fa) ⟨[.ref a], []⟩) (fun r s' => r = .ok (.ret (.bool true)) ∧ OldK s₁.heap s'.heap ∧ s'.os = s₁.os ∧ AllBare s'.gens) s₁) :
  WalkO q loose XP YP l.row.toRowW d [] (fun f vs => PySem.call f vs) := by
 intro w s₀ s₁ mg mb G Y fa o pm cd doc dV kV ho hd hcd hD hmg hg args vals as hpre hlay hrd hwl hlo
 obtain rfl : dV = .none := Dflts.none hD hdf
 obtain rfl : kV = .none := Dflts.noKw hD
 obtain ⟨a, vs, ns, rfl, rfl, hobj, hints, hlen⟩ := script_of hn hpre hwl
 refine enter_call (codeAny_mono (call w s₀ s₁ mg mb fa o pm cd doc a vs ns G Y ho (fd_plain hd) hcd hmg hobj hints hlen hg) fun r s' hq => ?_)
 obtain ⟨rfl, h2, h3, h4⟩ := hq
 exact ⟨.inl ⟨.bool true, .bool true, [], rfl, fun _ => rfl, .bool true, post_true l _, fun _ => ⟨List.Pairwise.nil, fun _ hm => (nomatch hm)⟩⟩, h2, h3, h4⟩
section
variable {prog : Program} {w : World} {A : Around} {E : Value → Shared → Prop} {s : Shared} {K : Frag}
end
end Att
namespace L2
open PySem PySem.Spec PyProof.Rows
theorem vals_ints : ∀ {vs : List Value} {ns : List Int}, IntsAre vs ns → Vals (ns.map V.int) vs
 | _, _, .nil => .nil
 | _, _, .cons n t h => .cons ⟨t, rfl⟩ (vals_ints h)
noncomputable def Only (H : Hp) : Prop := ∀ b, H b = none ∨ ∃ o xs, H b = some (.frz o (.lst xs))
theorem law_call {P : Program} {w : World} {K : PySem.W.Frag} {mg mb : Str → Option Value} {CX : CXT} {k : Nat} {fa a : Addr} {fd : FuncData} {x : Str} {sp : Sp} {s₁ : Shared} {vs : List Value} {ns : List Int}
  (KX : K.In s₁.heap) (hns : s₁.heap.Ns mainGlobals mg) (hb : s₁.heap.Ns builtinsNs mb) (hbb : ∀ x : Str, x ≠ "__name__" → mb x = bootBuiltins x) (hlim : s₁.heap.NoLimit) (hg : s₁.gens = #[])
  (ha : s₁.heap.get? a = some { cls := .type "list", data := .seq vs.toArray }) (hi : IntsAre vs ns) (hl : ns.length ≤ sizeLine) (hr : Room k callerA)
  (F : ∀ base : Heap, K.In base → base.Ns mainGlobals mg → FnOk P w K mg base CX k fa fd [x] sp) (hbind : ∀ (s : Shared) (u : Value), BindsTo s fd ⟨[u], []⟩ [(x, u)])
  (hsp : ∀ H : Hp, Only H → SqL K H a (ns.map V.int) → sp [.ref a] H (fun v _ => v = .bl true) fun _ _ _ => False)
  (hCX : ∀ H e s', CX [] H s₁ (fun _ _ _ => False) e s' → False) :
  codeAny (model P w) callerA (.call (.ref fa) ⟨[.ref a], []⟩) (fun r s' => r = .ok (.ret (.bool true)) ∧ OldK s₁.heap s'.heap ∧ s'.os = s₁.os ∧ AllBare s'.gens) s₁ := by
 have rv := vals_ints hi
 have lenV := hi.length
 -- from an abstract heap in which nothing but the script may be tracked
 have core : ∀ H : Hp, Only H → SqL K H a (ns.map V.int) → HOk P w H s₁.heap → (∀ b, H b ≠ none → b = a) → (H a ≠ none → K.lookup a = none) →
   codeAny (model P w) callerA (.call (.ref fa) ⟨[.ref a], []⟩) (fun r s' => r = .ok (.ret (.bool true)) ∧ OldK s₁.heap s'.heap ∧ s'.os = s₁.os ∧ AllBare s'.gens) s₁ := by
  intro H hO hS hok hA hK
  have base_of : ∀ {b : Addr} {o : Obj}, s₁.heap.get? b = some o → H b = none → (hidT s₁.heap H).get? b = some o := fun e n => hidT_get e n
  have noA : ∀ {b : Addr} {o : Obj} {es : Array DictEntry} {ep : Nat}, s₁.heap.get? b = some o → o.data = .dict es ep → H b = none := fun {b o es ep} e d => by
   cases q : H b with
   | none => rfl
   | some u =>
    have e' : b = a := hA b (by rw [q]; simp)
    subst e'
    rw [ha] at e; cases e
    have d' : Data.seq vs.toArray _ = Data.dict es ep := d
    cases d'
  have nsK : ∀ {b : Addr} {m : Str → Option Value}, s₁.heap.Ns b m → (hidT s₁.heap H).Ns b m := fun {b m} ⟨o, es, ep, e, d, r⟩ => ⟨o, es, ep, base_of e (noA e d), d, r⟩
  have hKb : K.In (hidT s₁.heap H) := fun b o e => base_of (KX b o e) (by
   cases q : H b with
   | none => rfl
   | some u =>
    have e' : b = a := hA b (by rw [q]; simp)
    subst e'
    rw [hK (by rw [q]; simp)] at e; cases e)
  have hM : Mod K mg (hidT s₁.heap H) := ⟨hKb, nsK hns, ⟨mb, nsK hb, hbb⟩, let ⟨mc, h1, h2⟩ := hlim; ⟨mc, nsK h1, h2⟩⟩
  have e0 : Env0 P w K mg (hidT s₁.heap H) callerA [] s₁ H := ⟨rfl, hM, fun b o e => of_hidT e, Nat.le_of_eq (hidT_size _ _), trivial, fun b hb => absurd (show b ∈ ([] : List Addr) from hb) (by simp), hok, .of_eq hg⟩
  refine codeAny_mono ((F _ hKb (nsK hns)).run callerA [] s₁ H ⟨[.ref a], []⟩ [.ref a] [.ref a] _ _ hr e0 (hbind s₁ (.ref a)) (.cons rfl .nil) (hsp H hO hS)) fun r s' h => ?_
  cases r with
  | error e => exact (hCX H e s' h).elim
  | ok fl =>
   cases fl with
   | next => exact False.elim h
   | brk => exact False.elim h
   | cont => exact False.elim h
   | ret u =>
    obtain ⟨v, H', os, bare, un, hok', r', q⟩ := h
    have q' : v = .bl true := q
    subst q'
    obtain rfl : u = Value.bool true := r'
    refine ⟨rfl, OldK.of_keep fun b o e => ?_, os, bare⟩
    cases q : H b with
    | none => exact un.keep b o e q (by intro z; exact absurd (show b ∈ ([] : List Addr) from z) (by simp)) (by simp)
    | some u =>
     rcases hO b with z | ⟨ob, xs, z⟩
     ·rw [q] at z; cases z
     ·have z2 := un.frzs b ob _ z
      obtain ⟨e1, _⟩ := hok b _ z
      obtain ⟨e2, _⟩ := hok' b _ z2
      rw [e] at e1; cases e1
      exact e2
 cases hk : K.lookup a with
 | some o =>
  -- the script is one of the module's own objects
  have e := KX a o hk
  rw [ha] at e
  cases e
  refine core (fun _ => none) (fun _ => .inl rfl) (.inr ⟨_, vs.toArray, _, hk, rfl, rfl, rfl, by rw [List.size_toArray, lenV]; exact hl, by simpa using rv⟩) (fun b u z => by have z' : (none : Option HO) = some u := z; cases z') (fun b z => absurd rfl z) fun z => absurd rfl z
 | none =>
  refine core (fun b => if b = a then some (.frz { cls := .type "list", data := .seq vs.toArray } (.lst (ns.map V.int))) else none) (fun b => ?_) (.inl (.inr ⟨{ cls := .type "list", data := .seq vs.toArray }, if_pos rfl⟩)) (fun b u z => ?_) (fun b z => ?_) fun _ => hk
  ·by_cases hb : b = a
   ·exact .inr ⟨_, _, if_pos hb⟩
   ·exact .inl (if_neg hb)
  ·by_cases hb : b = a
   ·have z' := (if_pos hb).symm.trans z
    cases z'
    subst hb
    exact ⟨ha, by rw [List.length_map]; exact hl, vs, _, rv, ha⟩
   ·have z' := (if_neg hb).symm.trans z
    cases z'
  ·by_cases hb : b = a
   ·exact hb
   ·exact absurd (if_neg hb) z
end L2
namespace L2
open PySem PySem.Spec PyProof.Rows
noncomputable abbrev KOf {K : PySem.W.Frag} {h : Heap} (_ : K.In h) : PySem.W.Frag := K
theorem walk_of {l : PySem.W.OpenLaw} {n k : Nat} {q : Program} {loose : List Str} {XP : (Str → Option Value) → Heap → Prop} {YP : World → Heap → Prop} {d : DefRec} {K : Params → PySem.W.Frag} {CX : World → CXT} {sp : World → Sp} {x : Str}
  (hn : l.most = some n) (hn2 : n ≤ sizeLine) (hdf : d.params.defaults = []) (hr : Room k callerA)
  (hY : ∀ (w : World) (h : Heap), YP w h → (K w.params).In h)
  (F : ∀ (w : World) (mg : Str → Option Value) (fa : Addr) (h : Heap), (K w.params).In h → h.Ns mainGlobals mg → mg d.name = some (.ref fa) →
   ∃ fd : FuncData, (∀ (s : Shared) (u : Value), BindsTo s fd ⟨[u], []⟩ [(x, u)]) ∧
    ∀ base : Heap, (K w.params).In base → base.Ns mainGlobals mg → FnOk l.prog w (K w.params) mg base (CX w) k fa fd [x] (sp w))
  (hsp : ∀ (w : World) (H : Hp) (a : Addr) (ns : List Int), ns.length ≤ n → Only H → SqL (K w.params) H a (ns.map V.int) → sp w [.ref a] H (fun v _ => v = .bl true) fun _ _ _ => False)
  (hCX : ∀ (w : World) (H : Hp) (s : Shared) (e : Value) (s' : Shared), CX w [] H s (fun _ _ _ => False) e s' → False) :
  PySem.W.WalkO q loose XP YP l.row.toRowW d [] (fun f vs => PySem.call f vs) := by
 refine Att.attach_call hn hdf fun w s₀ s₁ mg mb fa o pm cd doc a vs ns G Y ho hd hcd hmg hobj hints hlen hg => ?_
 have KX := hY w _ Y
 obtain ⟨fd, hb, hF⟩ := F w mg fa _ KX G.T.g hmg
 exact law_call KX G.T.g G.T.b G.T.builtins G.T.nolimit hg hobj hints (Nat.le_trans hlen hn2) hr hF hb (fun H hO hS => hsp w H a ns hlen hO hS) fun H e s' => hCX w H s₁ e s'
end L2
namespace L2
open PySem PySem.Spec PyProof.Rows
noncomputable def defArgs (s : Stmt) : Arguments := match s with
 | .FunctionDef _ a _ _ _ _ _ _ _ _ => a
 | _ => { posonlyargs := [], args := [], vararg := none, kwonlyargs := [], kw_defaults := [], kwarg := none, defaults := [] }
noncomputable def defBody (s : Stmt) : List Stmt := match s with
 | .FunctionDef _ _ b _ _ _ _ _ _ _ => b
 | _ => []
noncomputable def defScope (s : Stmt) : Scope := match s with
 | .FunctionDef _ _ _ _ _ _ sc _ _ _ => sc
 | _ => { kind := .function, names := [], isGenerator := false, isCoroutine := false }
noncomputable abbrev CX0 : CXT := fun _ _ _ _ _ _ => False
noncomputable abbrev E0 : XK := fun _ _ _ => False
theorem pass0 {X : Cx} : Passes CX0 X E0 := fun _ _ _ _ _ _ _ h => h.elim
structure Fun (K : PySem.W.Frag) (x qual : Str) (st : Stmt) (f : Addr) (fd : FuncData) : Prop where
 ex : ∃ (oc : Value) (od : Option Addr) (kV doc pm : Value) (an : Option Addr) (cdv ct : Value) (osl : Array (Option Value)),
  fd = PySem.W.fnOf x qual (defArgs st) (defBody st) (defScope st) .none kV doc pm an cdv ct ∧ K.lookup f = some ⟨oc, od, .func fd, osl⟩ ∧ PySem.W.codeIn K cdv qual = true
 kp : PySem.W.keepIn K (.ref f) = true
section
variable {P : Program} {w : World} {K : PySem.W.Frag} {mg : Str → Option Value} {base : Heap}
theorem Fun.ok {x qual : Str} {st : Stmt} {f : Addr} {fd : FuncData} {N ps : List Str} {k : Nat} {sp : Sp} (F : Fun K x qual st f fd) (S : FnScope N ps (defScope st)) (len : ∀ vs H Q E, sp vs H Q E → vs.length = ps.length)
  (hbody : ∀ (cdv : Value) (A : Around) (outer : List Env) (s : Shared) (H : Hp) (vs : List V) (Q : VK) (E : XK), Room k (A.deeper (envOfC qual (defScope st) s.heap.objs.size f cdv)) → sp vs H Q E →
   ∃ t, PSs (cxOf CX0 P w K mg base N qual (defScope st) f cdv A outer s H E).nox (defBody st) t ∧ t { nx := fun _ H' => Q .non H', rt := Q } (start N vs) H) : FnOk P w K mg base CX0 (k + 1) f fd ps sp := by
 obtain ⟨oc, od, kV, doc, pm, an, cdv, ct, osl, rfl, lk, hcd⟩ := F.ex
 refine fn_of lk hcd S len fun A outer s H vs Q E hr hsp => ?_
 obtain ⟨t, h, q⟩ := hbody cdv A outer s H vs Q E hr hsp
 exact ⟨t, h.nox, q⟩
theorem Fun.binds {x qual : Str} {st : Stmt} {f : Addr} {fd : FuncData} {ps : List Str} (F : Fun K x qual st f fd)
  (h : ∀ (kV doc pm : Value) (an : Option Addr) (cdv ct : Value) (us : List Value), us.length = ps.length → bindArgs (PySem.W.fnOf x qual (defArgs st) (defBody st) (defScope st) .none kV doc pm an cdv ct) ⟨us, []⟩ = pure (ps.zip us)) : Binds K fd ps [] := by
 obtain ⟨oc, od, kV, doc, pm, an, cdv, ct, osl, rfl, lk, hcd⟩ := F.ex
 exact .all (h kV doc pm an cdv ct)
theorem fun_mk {x qual : Str} {st : Stmt} {f : Addr} {oc : Value} {od an : Option Addr} {osl : Array (Option Value)} {kV doc pm cdv ct : Value} (l : K.lookup f = some ⟨oc, od, .func (PySem.W.fnOf x qual (defArgs st) (defBody st) (defScope st) .none kV doc pm an cdv ct), osl⟩)
  (c : PySem.W.codeIn K cdv qual = true) (k : PySem.W.keepIn K (.ref f) = true) : Fun K x qual st f (PySem.W.fnOf x qual (defArgs st) (defBody st) (defScope st) .none kV doc pm an cdv ct) := ⟨⟨oc, od, kV, doc, pm, an, cdv, ct, osl, rfl, l, c⟩, k⟩
end
section
variable {X : Cx}
theorem pv (i : Nat) {x : Str} {pos : Pos} (hN : X.N[i]? = some x := by rfl) (hv : Vis X.env.scope x := by first | exact Or.inl rfl | exact Or.inr (Or.inl rfl) | exact Or.inr (Or.inr rfl)) (hd : (x == ("__debug__" : Str)) = false := by decide)
    (hcd : (x == ("__classdict__" : Str)) = false := by decide) : PE X (.Name x pos) (tVar i) := pe_var hN hv hd hcd
end
theorem iteF {A B : Prop} (h : B) : if false = true then A else B := by
 rw [if_neg Bool.false_ne_true]
 exact h
theorem iteT {A B : Prop} (h : A) : if true = true then A else B := by
 rw [if_pos rfl]
 exact h
noncomputable def Same (H H' : Hp) : Prop := ∀ b o, H b = some o → H' b = some o
theorem Same.refl (H : Hp) : Same H H := fun _ _ h => h
theorem Same.trans {H H1 H2 : Hp} (a : Same H H1) (b : Same H1 H2) : Same H H2 := fun c o h => b c o (a c o h)
theorem Same.free {H H' : Hp} (e : Same H H') {l : Addr} (h : H' l = Option.none) : H l = Option.none := by
 cases q : H l with
 | none => rfl
 | some o =>
  rw [e l o q] at h
  cases h
theorem Same.seq {K : PySem.W.Frag} {H H' : Hp} {a : Addr} {xs : List V} (e : Same H H') (h : SqL K H a xs) : SqL K H' a xs := by
 rcases h with (h | ⟨o, h⟩) | h
 ·exact .inl (.inl (e _ _ h))
 ·exact .inl (.inr ⟨o, e _ _ h⟩)
 ·exact .inr h
end L2
namespace L2
open PySem PySem.Spec PyProof.Rows
theorem lookup_mem {α β : Type} [BEq α] [LawfulBEq α] : ∀ {l : List (α × β)} {x : α} {v : β}, l.lookup x = some v → (x, v) ∈ l
 | [], _, _, h => by simp at h
 | (a, b) :: r, x, v, h => by
  rw [List.lookup_cons] at h
  cases e : x == a with
  | true => rw [e] at h; have e' := eq_of_beq e; subst e'; cases h; exact List.mem_cons_self
  | false => rw [e] at h; exact List.mem_cons_of_mem _ (lookup_mem h)
theorem closure_go {env : Env} : ∀ (names : List (Str × NameKind)) (cs : List (Str × Addr)),
    (∀ y ∈ names, y.2 = .free → ∃ c, env.cells.lookup y.1 = some c) → (∀ x c, cs.lookup x = some c → env.cells.lookup x = some c) →
    ∃ cl, (forIn names cs fun x r => if (x.snd == NameKind.free) = true then do
                let z ← cellOf env x.fst
                pure (ForInStep.yield ((x.fst, z) :: r))
              else pure (ForInStep.yield r) : Sem (List (Str × Addr))) = pure cl ∧ (∀ x c, cl.lookup x = some c → env.cells.lookup x = some c) ∧
      (∀ x, (∃ c, cs.lookup x = some c) ∨ (x, NameKind.free) ∈ names → ∃ c, cl.lookup x = some c)
  | [], cs, _, h2 => ⟨cs, by simp, h2, fun x hx => by
      rcases hx with h | h
      · exact h
      · cases h⟩
  | (n, k) :: r, cs, h1, h2 => by
    rw [List.forIn_cons]
    by_cases hk : k = .free
    · subst hk
      obtain ⟨c, hc⟩ := h1 (n, .free) List.mem_cons_self rfl
      have e : cellOf env n = pure c := by unfold cellOf; rw [hc]
      obtain ⟨cl, e1, h3, h4⟩ := closure_go r ((n, c) :: cs) (fun y hy => h1 y (List.mem_cons_of_mem _ hy)) (fun x c' hx => by
        rw [List.lookup_cons] at hx
        cases q : x == n with
        | true => rw [q] at hx; cases hx; rw [eq_of_beq q]; exact hc
        | false => rw [q] at hx; exact h2 x c' hx)
      refine ⟨cl, ?_, h3, fun x hx => h4 x ?_⟩
      · simp only [beq_self_eq_true, if_true, e, pure_bind]
        exact e1
      · by_cases q : x = n
        · subst q; exact .inl ⟨c, by simp⟩
        · rcases hx with ⟨c', hx⟩ | hx
          · exact .inl ⟨c', by rw [List.lookup_cons, beq_eq_false_iff_ne.mpr q]; exact hx⟩
          · rcases List.mem_cons.mp hx with z | z
            · exact absurd (congrArg Prod.fst z) q
            · exact .inr z
    · have hb : (k == NameKind.free) = false := by simpa using hk
      obtain ⟨cl, e1, h3, h4⟩ := closure_go r cs (fun y hy => h1 y (List.mem_cons_of_mem _ hy)) h2
      refine ⟨cl, ?_, h3, fun x hx => h4 x ?_⟩
      · simp only [hb, Bool.false_eq_true, if_false, pure_bind]
        exact e1
      · rcases hx with hx | hx
        · exact .inl hx
        · rcases List.mem_cons.mp hx with z | z
          · exact absurd (congrArg Prod.snd z).symm hk
          · exact .inr z
theorem closure_of {sc : Scope} {env : Env} (h : ∀ y ∈ sc.names, y.2 = .free → ∃ c, env.cells.lookup y.1 = some c) :
  ∃ cl, closureFor sc env = pure cl ∧ (∀ x c, cl.lookup x = some c → env.cells.lookup x = some c) ∧ (∀ x, (x, NameKind.free) ∈ sc.names → ∃ c, cl.lookup x = some c) := by
 obtain ⟨cl, e, h1, h2⟩ := closure_go (env := env) sc.names [] h (fun x c z => by simp at z)
 refine ⟨cl, ?_, h1, fun x hx => h2 x (.inr hx)⟩
 simp only [closureFor]
 rw [bind_pure]
 exact e
noncomputable abbrev Cx.comp (X : Cx) (N' : List Str) (scope : Scope) (cl : List (Str × Addr)) (C : Addr) (s2 : Shared) (H2 : Hp) (fp : List Addr) : Cx :=
 { X with N := N', env := compEnvC scope cl C X.env, s₀ := s2, H₀ := H2, outer := X.stack, stack := X.stack, ex := fp, fn := fun x => decide (scope.names.lookup x = some .cell), pn := [], xe := fun _ _ => False }
structure CSc (psc : Scope) (N : List Str) (sc : Scope) (N' : List Str) (k : Nat) (ix : List Nat) : Prop where
 kind : sc.kind = .function
 cel : ∀ y ∈ sc.names, y.2 = .cell → sc.names.lookup y.1 = some .cell
 loc : ∀ y ∈ sc.names, y.2 = .local → sc.names.lookup y.1 = some .local
 fre : ∀ y ∈ sc.names, y.2 = .free → psc.names.lookup y.1 = some .cell ∨ psc.names.lookup y.1 = some .free
 len : N'.length = k + ix.length
 nd : N'.Nodup
 cap : ∀ (j i : Nat), ix[j]? = some i → ∃ y, N'[k + j]? = some y ∧ N[i]? = some y ∧ sc.names.lookup y = some .free
noncomputable def cscOk (psc : Scope) (N : List Str) (sc : Scope) (N' : List Str) (k : Nat) (ix : List Nat) : Bool :=
 decide (sc.kind = .function) && sc.names.all (fun y => (decide (y.2 ≠ .cell) || decide (sc.names.lookup y.1 = some .cell)) && (decide (y.2 ≠ .local) || decide (sc.names.lookup y.1 = some .local)) && (decide (y.2 ≠ .free) || decide (psc.names.lookup y.1 = some .cell) || decide (psc.names.lookup y.1 = some .free))) &&
 decide (N'.length = k + ix.length) && decide N'.Nodup && (List.range ix.length).all (fun j => match N'[k + j]?, N[ix.getD j 0]? with
  | some y, some z => decide (y = z) && decide (sc.names.lookup y = some .free)
  | _, _ => false)
theorem CSc.of {psc : Scope} {N : List Str} {sc : Scope} {N' : List Str} {k : Nat} {ix : List Nat} (h : cscOk psc N sc N' k ix = true) : CSc psc N sc N' k ix := by
 unfold cscOk at h
 simp only [Bool.and_eq_true, decide_eq_true_eq, List.all_eq_true, Bool.or_eq_true] at h
 obtain ⟨⟨⟨⟨h1, h2⟩, h3⟩, h4⟩, h5⟩ := h
 refine ⟨h1, fun y hy e => ?_, fun y hy e => ?_, fun y hy e => ?_, h3, h4, fun j i e => ?_⟩
 ·rcases (h2 y hy).1.1 with z | z
  ·exact absurd e z
  ·exact z
 ·rcases (h2 y hy).1.2 with z | z
  ·exact absurd e z
  ·exact z
 ·rcases (h2 y hy).2 with (z | z) | z
  ·exact absurd e z
  ·exact .inl z
  ·exact .inr z
 ·obtain ⟨hj, ei⟩ := List.getElem?_eq_some_iff.mp e
  have := h5 j (List.mem_range.mpr hj)
  have e2 : ix.getD j 0 = i := by rw [List.getD_eq_getElem?_getD, e]; rfl
  rw [e2] at this
  split at this
  ·rename_i y z ey ez
   simp only [Bool.and_eq_true, decide_eq_true_eq] at this
   obtain ⟨rfl, hl⟩ := this
   exact ⟨y, ey, ez, hl⟩
  ·cases this
noncomputable def cS (k : Nat) (ix : List Nat) (σ : St) : St := List.replicate k none ++ ix.map fun i => (σ[i]?).join
theorem relabel_free {env : Env} : ∀ {names : List (Str × NameKind)} {x : Str},
    ((names.map fun (n, k) => if (k == NameKind.free && env.scope.kind == .function && env.kindOf n == some .cell) then (n, NameKind.cell) else (n, k)).lookup x = some .cell ∨
     (names.map fun (n, k) => if (k == NameKind.free && env.scope.kind == .function && env.kindOf n == some .cell) then (n, NameKind.cell) else (n, k)).lookup x = some .free) → names.lookup x = some .free ∨ names.lookup x = some .cell
  | [], _, h => by simp at h
  | (n, k) :: r, x, h => by
    have ih := @relabel_free env r x
    rw [List.map_cons] at h
    dsimp only at h
    by_cases hcd : (k == NameKind.free && env.scope.kind == .function && env.kindOf n == some .cell) = true
    · have hkf : k = .free := by
        simp only [Bool.and_eq_true] at hcd
        exact eq_of_beq hcd.1.1
      rw [if_pos hcd] at h
      cases hx : x == n with
      | true => rw [List.lookup_cons, hx, hkf]; exact .inl rfl
      | false => simp only [List.lookup_cons, hx] at h; simp only [List.lookup_cons, hx]; exact ih h
    · rw [if_neg hcd] at h
      cases hx : x == n with
      | true =>
        simp only [List.lookup_cons, hx] at h
        rw [List.lookup_cons, hx]
        rcases h with h | h
        · exact .inr h
        · exact .inl h
      | false => simp only [List.lookup_cons, hx] at h; simp only [List.lookup_cons, hx]; exact ih h
theorem relabel_cap {env : Env} : ∀ {names : List (Str × NameKind)} {x : Str}, names.lookup x = some .free →
    ((names.map fun (n, k) => if (k == NameKind.free && env.scope.kind == .function && env.kindOf n == some .cell) then (n, NameKind.cell) else (n, k)).lookup x = some .cell ∨
     (names.map fun (n, k) => if (k == NameKind.free && env.scope.kind == .function && env.kindOf n == some .cell) then (n, NameKind.cell) else (n, k)).lookup x = some .free)
  | [], _, h => by simp at h
  | (n, k) :: r, x, h => by
    have ih := @relabel_cap env r x
    rw [List.map_cons]
    dsimp only
    cases hx : x == n with
    | true =>
      rw [List.lookup_cons, hx] at h
      cases h
      by_cases hcd : (NameKind.free == NameKind.free && env.scope.kind == .function && env.kindOf n == some .cell) = true
      · rw [if_pos hcd]; simp [List.lookup_cons, hx]
      · rw [if_neg hcd]; simp [List.lookup_cons, hx]
    | false =>
      rw [List.lookup_cons, hx] at h
      by_cases hcd : (k == NameKind.free && env.scope.kind == .function && env.kindOf n == some .cell) = true
      · rw [if_pos hcd]; simp only [List.lookup_cons, hx]; exact ih h
      · rw [if_neg hcd]; simp only [List.lookup_cons, hx]; exact ih h
structure ClOk (X : Cx) (sc : Scope) (cl : List (Str × Addr)) (C : Addr) (h4 : Heap) : Prop where
 src : ∀ x c, cl.lookup x = some c → X.env.cells.lookup x = some c ∨ (C < c ∧ h4.IsCell c none)
 inj : ∀ x y c, cl.lookup x = some c → cl.lookup y = some c → x = y
 has : ∀ x, (sc.names.lookup x = some .free ∨ sc.names.lookup x = some .cell) → ∃ c, cl.lookup x = some c
 own : ∀ x c, sc.names.lookup x = some .cell → cl.lookup x = some c → C < c
 old : ∀ x c, sc.names.lookup x = some .free → cl.lookup x = some c → X.env.cells.lookup x = some c
theorem cellsFrom_acc : ∀ (names : List (Str × NameKind)) (n : Nat) (acc : List (Str × Addr)), cellsFrom n names acc = cellsFrom n names [] ++ acc
 | [], n, acc => rfl
 | (x, k) :: r, n, acc => by
  unfold cellsFrom
  split
  ·rw [cellsFrom_acc r (n + 1) ((x, n) :: acc), cellsFrom_acc r (n + 1) [(x, n)], List.append_assoc]; rfl
  ·exact cellsFrom_acc r n acc
theorem cellsFrom_in : ∀ (names : List (Str × NameKind)) (n : Nat) (y : Str × Addr), y ∈ cellsFrom n names [] → (y.1, NameKind.cell) ∈ names
 | [], n, y, h => by cases h
 | (x, k) :: r, n, y, h => by
  unfold cellsFrom at h
  split at h
  ·rename_i hk
   rw [cellsFrom_acc] at h
   rcases List.mem_append.mp h with h | h
   ·exact List.mem_cons_of_mem _ (cellsFrom_in r _ y h)
   ·have e : y = (x, n) := by simpa using h
    subst e
    have hk' : k = .cell := eq_of_beq hk
    subst hk'
    exact List.mem_cons_self
  ·exact List.mem_cons_of_mem _ (cellsFrom_in r _ y h)
theorem lookup_app {β : Type} : ∀ (l1 l2 : List (Str × β)) (x : Str), (l1 ++ l2).lookup x = (match l1.lookup x with | some v => some v | none => l2.lookup x)
 | [], l2, x => rfl
 | (a, b) :: l1, l2, x => by
  rw [List.cons_append, List.lookup_cons, List.lookup_cons]
  cases x == a with
  | true => rfl
  | false => exact lookup_app l1 l2 x
theorem wpAny_newEnvC {M : Model} {A : Around} {E : Value → Shared → Prop} {s : Shared} {scope : Scope} {globals : Addr} {cl : List (Str × Addr)} {qual : Str} {env : Env} {builtins : Addr} {Q : Env → Shared → Prop}
  (hQ : Q (newEnv scope s.heap.objs.size globals (cellsFrom (s.heap.objs.size + 1) scope.names cl) qual none .none (some env) builtins) { s with heap := pushCells (s.heap.push { cls := .type "dict", data := .dict #[] }) scope.names }) :
  wpAny M A (newFunctionEnv scope globals cl [] qual none .none (some env) builtins) Q E s := by
 simp only [newFunctionEnv, Option.isSome_some, if_true]
 refine wpAny_bind (wpAny_alloc ?_)
 refine wpAny_bind (wpAny_layCells _ (fun name kind cells => by cases hkc : kind == NameKind.cell <;> simp [hkc]) _ _ _ _ ?_)
 rw [show ({ s with heap := s.heap.push { cls := .type "dict", data := .dict #[] } } : Shared).heap.objs.size = s.heap.objs.size + 1 from Heap.size_push ..]
 simp only [List.forIn_nil]
 exact wpAny_bind (wpAny_pure (wpAny_pure hQ))
section
variable {X : Cx} {pins : List (Addr × Obj)} {σ : St} {H : Hp} {s2 : Shared}
theorem ClOk.of {sc : Scope} {N' : List Str} {ix : List Nat} {k : Nat} (I : Inv X pins σ H s2) (S : CSc X.env.scope X.N sc N' k ix) {cl : List (Str × Addr)} (hcl1 : ∀ x c, cl.lookup x = some c → X.env.cells.lookup x = some c) (hcl2 : ∀ x, (x, NameKind.free) ∈ sc.names → ∃ c, cl.lookup x = some c)
  {g : Heap} {o : Obj} (hg : s2.heap.objs.size ≤ g.objs.size) : ClOk X sc (cellsFrom (g.objs.size + 1) sc.names cl) g.objs.size (pushCells (g.push o) sc.names) := by
 have ok := cellsFrom_ok sc.names (g.push o) (g.objs.size + 1) [] ⟨(fun _ _ hm => nomatch hm), List.Pairwise.nil⟩ (by rw [Heap.size_push]; exact Nat.le_refl _)
 rw [Heap.size_push] at ok
 rw [cellsFrom_acc]
 have hnew : ∀ x c, (cellsFrom (g.objs.size + 1) sc.names []).lookup x = some c → g.objs.size < c ∧ (pushCells (g.push o) sc.names).IsCell c none ∧ (x, NameKind.cell) ∈ sc.names := fun x c e => by
  have hm := lookup_mem e
  have := ok.empty x c hm
  exact ⟨Nat.lt_of_succ_le this.2, this.1, cellsFrom_in _ _ _ hm⟩
 have hold : ∀ x c, cl.lookup x = some c → c < g.objs.size := fun x c e => by
  obtain ⟨v, ob, hob, _⟩ := I.cell x c (hcl1 x c e)
  exact Nat.lt_of_lt_of_le (Heap.lt_size hob) hg
 have hget : ∀ x c, (cellsFrom (g.objs.size + 1) sc.names [] ++ cl).lookup x = some c → ((cellsFrom (g.objs.size + 1) sc.names []).lookup x = some c) ∨ ((cellsFrom (g.objs.size + 1) sc.names []).lookup x = none ∧ cl.lookup x = some c) := fun x c e => by
  rw [lookup_app] at e
  cases q : (cellsFrom (g.objs.size + 1) sc.names []).lookup x with
  | some v => rw [q] at e; exact .inl e
  | none => rw [q] at e; exact .inr ⟨rfl, e⟩
 have hnone : ∀ x, sc.names.lookup x = some .free → (cellsFrom (g.objs.size + 1) sc.names []).lookup x = none := fun x hx => by
  cases q : (cellsFrom (g.objs.size + 1) sc.names []).lookup x with
  | none => rfl
  | some c =>
   have := S.cel (x, .cell) (hnew x c q).2.2 rfl
   rw [hx] at this; cases this
 refine ⟨fun x c e => ?_, fun x y c e1 e2 => ?_, fun x hx => ?_, fun x c hx e => ?_, fun x c hx e => ?_⟩
 ·rcases hget x c e with q | ⟨_, q⟩
  ·exact .inr ⟨(hnew x c q).1, (hnew x c q).2.1⟩
  ·exact .inl (hcl1 x c q)
 ·rcases hget x c e1 with q1 | ⟨_, q1⟩
  ·rcases hget y c e2 with q2 | ⟨_, q2⟩
   ·have m1 := lookup_mem q1
    have m2 := lookup_mem q2
    by_cases hxy : x = y
    ·exact hxy
    ·exfalso
     have := ok.apart
     obtain ⟨i, hi, ei⟩ := List.getElem_of_mem m1
     obtain ⟨j, hj, ej⟩ := List.getElem_of_mem m2
     have pw := List.pairwise_iff_getElem.mp this
     rcases Nat.lt_trichotomy i j with h | h | h
     ·have := pw i j hi hj h
      rw [ei, ej] at this; exact this rfl
     ·subst h
      rw [ei] at ej
      exact hxy (congrArg Prod.fst ej)
     ·have := pw j i hj hi h
      rw [ei, ej] at this; exact this rfl
   ·exact absurd (hold y c q2) (Nat.not_lt.mpr (Nat.le_of_lt (hnew x c q1).1))
  ·rcases hget y c e2 with q2 | ⟨_, q2⟩
   ·exact absurd (hold x c q1) (Nat.not_lt.mpr (Nat.le_of_lt (hnew y c q2).1))
   ·exact I.ok.inj x y c (hcl1 x c q1) (hcl1 y c q2)
 ·rw [lookup_app]
  rcases hx with hx | hx
  ·rw [hnone x hx]
   exact hcl2 x (lookup_mem hx)
  ·obtain ⟨c, hc⟩ := cell_has (n := g.objs.size + 1) hx
   rw [hc]; exact ⟨c, rfl⟩
 ·rcases hget x c e with q | ⟨q, _⟩
  ·exact (hnew x c q).1
  ·obtain ⟨c', hc⟩ := cell_has (n := g.objs.size + 1) hx
   rw [hc] at q; cases q
 ·rcases hget x c e with q | ⟨_, q⟩
  ·rw [hnone x hx] at q; cases q
  ·exact hcl1 x c q
theorem Inv.child {fp : List Addr} {sc : Scope} {N' : List Str} {ix : List Nat} {k : Nat} (I : Inv X pins σ H s2) (S : CSc X.env.scope X.N sc N' k ix) (hf : ∀ b ∈ fp, FpOk X pins H b)
  (hfo : ∀ b ∈ fp, ∃ o, s2.heap.get? b = some o) {cl : List (Str × Addr)}
  {C : Addr} {s4 : Shared} (L : ClOk X sc cl C s4.heap) (hC : s2.heap.objs.size ≤ C) (keep : ∀ b o, s2.heap.get? b = some o → s4.heap.get? b = some o) {m0 : Str → Option Value} (hns : s4.heap.Ns C m0) (ho : s4.os = s2.os) (hg : AllBare s4.gens) :
  Inv (X.comp N' sc cl C s2 H fp) [] (cS k ix σ) H s4 where
 ok := {
  mod := I.ok.mod
  kind := S.kind
  glob := I.ok.glob
  blt := I.ok.blt
  above := hC
  inj := L.inj
  has := fun x hx => L.has x (relabel_free (env := X.env) hx)
  cab := fun x c h e => Nat.le_trans hC (Nat.le_of_lt (L.own x c (of_decide_eq_true h) e))
  hd := I.ok.hd
  frames := I.ok.frames
  stk := .inl rfl
  exf := fun b hb => by
   obtain ⟨f0, f1, f2, f3, f4, f5⟩ := hf b hb
   obtain ⟨o, e⟩ := hfo b hb
   refine ⟨Nat.ne_of_lt (Nat.lt_of_lt_of_le (Heap.lt_size e) hC), fun x c z => ?_⟩
   rcases L.src x c z with z | z
   ·exact f4 x c z
   ·exact Ne.symm (Nat.ne_of_lt (Nat.lt_trans (Nat.lt_of_lt_of_le (Heap.lt_size e) hC) z.1))
  bs := fun b o e => I.bs b o e
  bsz := Nat.le_trans I.ok.bsz I.sz
  noex := fun b o e hb => by
   obtain ⟨f0, f1, f2, f3, f4, f5⟩ := hf b hb
   rcases f3 with z | z
   ·exact I.ok.noex b o e z
   ·exact absurd (Nat.lt_of_lt_of_le (Heap.lt_size (I.ok.bs b o e).1) z) (Nat.lt_irrefl _)
  exfs := fun b hb hz => by
   obtain ⟨f0, f1, f2, f3, f4, f5⟩ := hf b hb
   rcases List.mem_cons.mp (I.stkSub b hz) with z | z
   ·exact f1 z
   ·exact f2 z
  funs := I.stack
  frf := I.stkFree }
 os := ho
 bare := hg
 base := Un.kept keep
 loc := ⟨m0, hns, fun i x v e1 e2 e3 => by
  unfold cS at e2
  by_cases hi : i < k
  ·rw [List.getElem?_append_left (by simpa using hi), List.getElem?_replicate, if_pos hi] at e2
   cases e2
  ·obtain ⟨j, rfl⟩ : ∃ j, i = k + j := ⟨i - k, by omega⟩
   rw [List.getElem?_append_right (by simp), List.length_replicate, Nat.add_sub_cancel_left, List.getElem?_map] at e2
   cases q : ix[j]? with
   | none => rw [q] at e2; cases e2
   | some i0 =>
    rw [q] at e2
    obtain ⟨y, hy1, hy2, hy3⟩ := S.cap j i0 q
    have ey : y = x := by
     have : (X.comp N' sc cl C s2 H fp).N[k + j]? = some y := hy1
     rw [this] at e1; exact Option.some.inj e1
    subst ey
    have ev : σ[i0]? = some (some v) := by
     simp only [Option.map_some, Option.some.injEq] at e2
     cases r : σ[i0]? with
     | none => rw [r] at e2; cases e2
     | some z => rw [r] at e2; exact congrArg some e2
    obtain ⟨m, hn, hl⟩ := I.loc
    have hfr := S.fre (y, .free) (lookup_mem hy3) rfl
    have hv : Vis X.env.scope y := .inr hfr
    obtain ⟨u, r1, l1⟩ := hl i0 y v hy2 ev hv
    refine ⟨u, r1, .inr ⟨relabel_cap (env := X.env) hy3, ?_⟩⟩
    obtain ⟨c, hc⟩ := L.has y (.inl hy3)
    refine ⟨c, hc, ?_⟩
    have hc' := L.old y c hy3 hc
    rcases l1 with ⟨hk, _⟩ | ⟨_, c', hc2, z⟩
    ·have hk' : X.env.scope.names.lookup y = some .local := hk
     rcases hfr with w | w
     ·rw [hk'] at w; cases w
     ·rw [hk'] at w; cases w
    ·rw [hc'] at hc2; cases hc2
     obtain ⟨ob, hob, hd⟩ := z
     exact ⟨ob, keep _ _ hob, hd⟩⟩
 cell := fun x c e => by
  rcases L.src x c e with e | e
  ·obtain ⟨v, ob, hob, hd⟩ := I.cell x c e
   exact ⟨v, ob, keep _ _ hob, hd⟩
  ·exact ⟨none, e.2⟩
 free := I.hok.fresh hC
 freeC := fun x c e => by
  rcases L.src x c e with e | e
  ·exact I.freeC x c e
  ·exact I.hok.fresh (Nat.le_trans hC (Nat.le_of_lt e.1))
 pin := fun p hp => by cases hp
 hok := I.hok.kept keep
 len := by
  show (cS k ix σ).length = N'.length
  rw [S.len]; unfold cS; simp
theorem Inv.back {fp : List Addr} {sc : Scope} {N' : List Str} {cl : List (Str × Addr)} {C : Addr} {pl : List (Addr × Obj)} {σc : St} {H5 : Hp} {s5 : Shared} (I : Inv X pins σ H s2) (hf : ∀ b ∈ fp, FpOk X pins H b) (J : Inv (X.comp N' sc cl C s2 H fp) pl σc H5 s5) : Inv X pins σ H5 s5 :=
 I.call' (ch := fp) J.os J.base J.hok J.bare fun b hb => by
  obtain ⟨f0, f1, f2, f3, f4, f5⟩ := hf b hb
  exact ⟨f3, f1, f4, f5⟩
end
section
variable {X : Cx} {pins : List (Addr × Obj)} {σ : St} {H : Hp} {s : Shared}
theorem Inv.track {a : Addr} {o : HO} (I : Inv X pins σ H s) (ha : X.s₀.heap.objs.size ≤ a) (hn : H a = none) (hL : a ≠ X.env.locals) (hc : ∀ x c, X.env.cells.lookup x = some c → c ≠ a) (hp : ∀ p ∈ X.pn ++ pins, p.1 ≠ a)
  (new : ObjOk X.prog X.w (upd H a o) s.heap a o) : Inv X pins σ (upd H a o) s where
 ok := I.ok
 os := I.os
 bare := I.bare
 base := {
  keep := I.base.keep
  slot := I.base.slot
  free := fun b ob e n hx => by
   rw [upd_ne (Nat.ne_of_lt (Nat.lt_of_lt_of_le (Heap.lt_size e) ha))]
   exact I.base.free b ob e n hx
  there := I.base.there
  tups := fun b xs e => by
   have := I.base.tups b xs e
   rw [upd_ne (ne_of_none this hn)]; exact this
  frzs := fun b ob u e => by
   have := I.base.frzs b ob u e
   rw [upd_ne (ne_of_none this hn)]; exact this
  tbls := fun b ps e => by
   obtain ⟨mo, this⟩ := I.base.tbls b ps e
   exact ⟨mo, by rw [upd_ne (ne_of_none this hn)]; exact this⟩ }
 loc := I.loc
 cell := I.cell
 free := by rw [upd_ne (Ne.symm hL)]; exact I.free
 freeC := fun x c e => by rw [upd_ne (hc x c e)]; exact I.freeC x c e
 pin := fun p h => by
  obtain ⟨e, n, r⟩ := I.pin p h
  exact ⟨e, by rw [upd_ne (hp p h)]; exact n, r⟩
 hok := fun b u q => by
  by_cases hb : b = a
  ·subst hb; rw [upd_same] at q; cases q; exact new
  ·rw [upd_ne hb] at q
   exact (I.hok b u q).stay (fun c v _ r => r) (fun c r => by rw [upd_ne (ne_of_none r hn)]; exact r) fun c xs r => by rw [upd_ne (ne_of_none r hn)]; exact r
 len := I.len
end
noncomputable def PF (X : Cx) (ifs : List Expr) (t : TT) : Prop :=
 ∀ (pins : List (Addr × Obj)) (s : Shared) (σ : St) (H : Hp) (Q : Bool → Hp → Prop), Inv X pins σ H s → t σ H Q →
  wpAny (model X.prog X.w) X.A (forIn ifs true fun c r => if r = true then do let ok ← isTrue c X.env (eval c X.env); pure (ForInStep.yield ok) else pure (ForInStep.yield r)) (TP X pins σ Q) X.xe s
noncomputable def tTrue : TT := fun _ H Q => Q true H
theorem pf_nil {X : Cx} : PF X [] tTrue := fun _ _ _ H _ I h => wpAny_tests_nil ⟨H, I, h⟩
theorem pf_one {X : Cx} {c : Expr} {t : TT} (h : PT X c t) : PF X [c] t := fun pins s σ H Q I hw => wpAny_tests_one (h pins s σ H Q I hw)
theorem compLoop_go {prog : Program} {w : World} {A : Around} {R : Result → Shared → Prop} {s : Shared} {elt target iter : Expr} {ifs : List Expr} {scope : Scope} {pos : Pos} {it acc : Value} {env : Env} (I : Nat → Shared → Prop)
  (turn : ∀ n s, I n s → wpAny (model prog w) A (pyNext it) (fun r s₁ => match r with
   | none => R (.ok .next) s₁
   | some v => wpAny (model prog w) A (letOwnedTupleGo target it v) (fun _ s₁ => wpAny (model prog w) A (assign target env v) (fun _ s₂ =>
     wpAny (model prog w) A (forIn ifs true fun c r => if r = true then do let ok ← isTrue c env (eval c env); pure (ForInStep.yield ok) else pure (ForInStep.yield r)) (fun ok s₃ =>
      if ok = true then wpAny (model prog w) A (eval elt env) (fun x s₄ =>
       wpAny (model prog w) A (call (.builtin "list.append") [acc, x]) (fun _ s₅ => ∃ m, m < n ∧ I m s₅) (fun _ _ => False) s₄) (fun _ _ => False) s₃
      else ∃ m, m < n ∧ I m s₃) (fun _ _ => False) s₂) (fun _ _ => False) s₁) (fun _ _ => False) s₁) (fun _ _ => False) s)
  (n : Nat) (h : I n s) :
  codeAny (model prog w) A (.compLoop (.ListComp elt [⟨target, iter, ifs, 0⟩] scope pos) 0 it acc env) R s := by
 refine codeAny_loop rfl I (fun n s hI => ?_) n h
 show wpAny _ A ((compTurn (.ListComp elt [⟨target, iter, ifs, 0⟩] scope pos) 0 it acc env).onRaise (fun x => do noteFrame x env; theTreesLotGoes x)) _ _ s
 refine wpAny_noted ?_
 rw [compTurn_list]
 refine wpAny_bind (wpAny_standAt (wpAny_bind (wpAny_mono (turn n s hI) (fun r s₁ h₁ => ?_) fun _ _ f => f.elim)))
 cases r with
 | none => exact wpAny_pure h₁
 | some v =>
  refine wpAny_bind (wpAny_mono h₁ (fun _ s₂ h₂ => ?_) fun _ _ f => f.elim)
  refine wpAny_bind (wpAny_mono h₂ (fun _ s₂ h₂ => wpAny_bind (wpAny_mono h₂ (fun ok s₃ h₃ => ?_) fun _ _ f => f.elim)) fun _ _ f => f.elim)
  cases ok with
  | false => exact wpAny_pure ⟨rfl, h₃⟩
  | true =>
   exact wpAny_bind (wpAny_bind (wpAny_mono h₃ (fun x s₄ h₄ => wpAny_bind (wpAny_mono h₄ (fun _ s₅ h₅ => wpAny_pure (wpAny_pure ⟨rfl, h₅⟩)) fun _ _ f => f.elim)) fun _ _ f => f.elim))
noncomputable def cRun (k : Nat) (ix : List Nat) (g : TG) (tt : TT) (te : TE) (σ : St) (J : It) (H1 : Hp) (Q : List V → Hp → Prop) : Prop :=
 ∃ W : Nat → Nat → List V → Hp → Prop, (∃ m, W 0 m [] H1) ∧ ∀ i m ys H, W i m ys H → ys.length < sizeLine ∧
  ((J.stop i H ∧ Q ys H) ∨ (J.go i H ∧ ∃ N : List V → Hp → Prop, (∀ ys' H', N ys' H' → ∃ m', m' < m ∧ W (i + 1) m' ys' H') ∧ ∀ x H', J.yld i H x H' → g x (cS k ix σ) H' fun σ2 H2 => σ2.drop k = (cS k ix σ).drop k ∧ tt σ2 H2 fun b H3 =>
   if b = true then te σ2 H3 fun y H4 => N (ys ++ [y]) H4 else N ys H3))
noncomputable def tComp (k : Nat) (ix : List Nat) (wi : TI) (g : TG) (tt : TT) (te : TE) : TE := fun σ H Q =>
 wi σ H fun J H1 => cRun k ix g tt te σ J H1 fun ys H2 => ∀ p, H2 p = none → Q (.ref p) (upd H2 p (.lst ys))
noncomputable abbrev lobj (ys : List Value) (n : Nat) : Obj := { cls := .type "list", data := .seq ys.toArray n }
section
variable {X : Cx} {pins : List (Addr × Obj)} {σ : St} {H : Hp} {s2 : Shared}
theorem comp_core {elt tg iter : Expr} {ifs : List Expr} {scope : Scope} {pos : Pos} {N' : List Str} {k : Nat} {ix : List Nat} {g : TG} {tt : TT} {te : TE} {cl : List (Str × Addr)} {it : Addr} {fp : List Addr} {tn : Nat → Heap → Prop} {J : It}
  {Q : List V → Hp → Prop} {RR : Value → Addr → Result → Shared → Prop} {E : Value → Shared → Prop} (hcalm : X.calm = true)
  (S : CSc X.env.scope X.N scope N' k ix)
  (hg : ∀ cl C s2 H2 fp, PG (X.comp N' scope cl C s2 H2 fp) tg g) (ht : ∀ cl C s2 H2 fp, PF (X.comp N' scope cl C s2 H2 fp) ifs tt) (he : ∀ cl C s2 H2 fp, PE (X.comp N' scope cl C s2 H2 fp) elt te)
  (I2 : Inv X pins σ H s2) (T : Turn X.prog X.w X.K tg J fp it tn) (st2 : tn 0 s2.heap) (f2 : ∀ b ∈ fp, FpOk X pins H b) (hR : cRun k ix g tt te σ J H Q)
  (hcl1 : ∀ x c, cl.lookup x = some c → X.env.cells.lookup x = some c) (hcl2 : ∀ x, (x, NameKind.free) ∈ scope.names → ∃ c, cl.lookup x = some c)
  (fin : ∀ (D C : Addr) (ys : List V) (H5 : Hp) (s5 : Shared) (m : Str → Option Value), Inv X pins σ (upd H5 D (.lst ys)) s5 → Q ys H5 → H5 D = none → s5.heap.Ns C m → C ≠ D → s2.heap.objs.size ≤ C → upd H5 D (.lst ys) C = none →
   RR (.ref D) C (.ok .next) s5) :
  wpAny (model X.prog X.w) X.A (newList []) (fun acc s₃ => wpAny (model X.prog X.w) X.A (newFunctionEnv scope X.env.globals cl [] X.env.qual none .none (some X.env)) (fun cenv s₄ =>
   codeAny (model X.prog X.w) X.A (.compStart (.ListComp elt [⟨tg, iter, ifs, 0⟩] scope pos) 0 (.ref it) acc { cenv with scope := relabel scope X.env }) (RR acc cenv.locals) s₄) E s₃) E s2 := by
 refine wpAny_newObj_type (wpAny_newEnvC ?_)
 dsimp only
 generalize hH2 : s2.heap.push { cls := .type "list", dict := none, data := .seq ([] : List Value).toArray } = G2
 have hC : G2.objs.size = s2.heap.objs.size + 1 := by rw [← hH2, Heap.size_push]
 have hDC : s2.heap.objs.size ≠ G2.objs.size := by rw [hC]; exact Nat.ne_of_lt (Nat.lt_succ_self _)
 have hCle : s2.heap.objs.size ≤ G2.objs.size := by rw [hC]; exact Nat.le_succ _
 have L := ClOk.of I2 S hcl1 hcl2 (g := G2) (o := { cls := .type "dict", data := .dict #[] }) hCle
 have below : ∀ b, b < s2.heap.objs.size → b ≠ G2.objs.size ∧ b ≠ s2.heap.objs.size := fun b hb => ⟨by rw [hC]; exact Nat.ne_of_lt (Nat.lt_succ_of_lt hb), Nat.ne_of_lt hb⟩
 have old : ∀ b o, s2.heap.get? b = some o → (pushCells (G2.push { cls := .type "dict", data := .dict #[] }) scope.names).get? b = some o := fun b o e => pushCells_keeps _ _ b o (Heap.get?_push_of_some _ (hH2 ▸ Heap.get?_push_of_some _ e))
 have hacc : (pushCells (G2.push { cls := .type "dict", data := .dict #[] }) scope.names).get? s2.heap.objs.size = some (lobj [] 0) := pushCells_keeps _ _ _ _ (Heap.get?_push_of_some _ (hH2 ▸ Heap.get?_push_size _ rfl))
 have hns₁ : (pushCells (G2.push { cls := .type "dict", data := .dict #[] }) scope.names).Ns G2.objs.size _ := (Heap.Ns.new G2 (.type "dict")).keeps (pushCells_keeps _ _)
 generalize pushCells (G2.push { cls := .type "dict", data := .dict #[] }) scope.names = h₁ at L old hacc hns₁ ⊢
 generalize cellsFrom (G2.objs.size + 1) scope.names cl = cl2 at L ⊢
 have st1 : tn 0 h₁ := T.keep _ _ _ st2 fun b _ o e => old b o e
 have hfo : ∀ b ∈ fp, ∃ o, s2.heap.get? b = some o := fun b hb => let ⟨o, e, _⟩ := T.obj _ _ st2 b hb; ⟨o, e⟩
 have Ic : Inv (X.comp N' scope cl2 G2.objs.size s2 H fp) [] (cS k ix σ) H { s2 with heap := h₁ } :=
  I2.child S f2 hfo L hCle old hns₁ rfl I2.bare
 -- the accumulator D, as a pin
 have dfs : s2.heap.objs.size ∉ (X.comp N' scope cl2 G2.objs.size s2 H fp).fs := fun hz => by
  rcases List.mem_cons.mp (I2.stkSub _ hz) with z | z
  ·exact absurd I2.lt (by rw [← z]; exact Nat.lt_irrefl _)
  ·exact I2.nofs (Nat.le_refl _) z
 have dcell : ∀ x c, cl2.lookup x = some c → c ≠ s2.heap.objs.size := fun x c e => by
  rcases L.src x c e with e | e
  ·obtain ⟨v, ob, hob, _⟩ := I2.cell x c e
   exact Nat.ne_of_lt (Heap.lt_size hob)
  ·exact Ne.symm (Nat.ne_of_lt (Nat.lt_of_le_of_lt hCle e.1))
 have dpin : ∀ (ys : List Value) (n : Nat) (σ' : St) (H' : Hp) (s' : Shared), Inv (X.comp N' scope cl2 G2.objs.size s2 H fp) [] σ' H' s' → s'.heap.get? s2.heap.objs.size = some (lobj ys n) → H' s2.heap.objs.size = none →
   Inv (X.comp N' scope cl2 G2.objs.size s2 H fp) [(s2.heap.objs.size, lobj ys n)] σ' H' s' := fun ys n σ' H' s' I' e hn => I'.pins_of fun p hp => by
  have e' : p = (s2.heap.objs.size, lobj ys n) := by simpa using hp
  subst e'
  exact ⟨e, hn, hDC, dfs, fun v z => by cases z⟩
 have fpc : ∀ (ys : List Value) (n : Nat) (H' : Hp), (∀ b ∈ fp, H' b = none) → ∀ b ∈ fp, FpOk (X.comp N' scope cl2 G2.objs.size s2 H fp) [(s2.heap.objs.size, lobj ys n)] H' b := fun ys n H' hn b hb => by
  obtain ⟨f0, f1, f2', f3, f4, f5⟩ := f2 b hb
  obtain ⟨o, e⟩ := hfo b hb
  have hb2 := below b (Heap.lt_size e)
  refine ⟨hn b hb, hb2.1, fun hz => ?_, .inl hb, fun x c z => ?_, fun p hp => ?_⟩
  ·rcases List.mem_cons.mp (I2.stkSub b hz) with z | z
   ·exact f1 z
   ·exact f2' z
  ·rcases L.src x c z with z | z
   ·exact f4 x c z
   ·exact Ne.symm (Nat.ne_of_lt (Nat.lt_trans (Nat.lt_of_lt_of_le (Heap.lt_size e) hCle) z.1))
  ·have e' : p = (s2.heap.objs.size, lobj ys n) := by simpa using hp
   subst e'
   exact Ne.symm hb2.2
 obtain ⟨W, ⟨m0, w0⟩, turn⟩ := hR
 have loop : codeAny (model X.prog X.w) X.A (.compLoop (.ListComp elt [⟨tg, iter, ifs, 0⟩] scope pos) 0 (.ref it) (.ref s2.heap.objs.size) (compEnvC scope cl2 G2.objs.size X.env)) (RR (.ref s2.heap.objs.size) G2.objs.size)
   { s2 with heap := h₁ } := by
  refine compLoop_go (fun n s' => ∃ i ys its c H', Inv (X.comp N' scope cl2 G2.objs.size s2 H fp) [(s2.heap.objs.size, lobj its c)] (cS k ix σ) H' s' ∧ Vals ys its ∧ tn i s'.heap ∧ (∀ b ∈ fp, H' b = none) ∧ W i n ys H') ?_ m0
   ⟨0, [], [], 0, H, dpin _ _ _ _ _ Ic hacc (I2.hok.fresh (Nat.le_refl _)), .nil, st1, fun b hb => (f2 b hb).1, w0⟩
  rintro n s3 ⟨i, ys, its, c, H3, I3, rv, st3, fr3, w3⟩
  obtain ⟨hlen, hw⟩ := turn i n ys H3 w3
  have hDn : H3 s2.heap.objs.size = none := (I3.pin (s2.heap.objs.size, lobj its c) (by simp)).2.1
  have hDe : s3.heap.get? s2.heap.objs.size = some (lobj its c) := (I3.pin (s2.heap.objs.size, lobj its c) (by simp)).1
  rcases hw with ⟨stop, q⟩ | ⟨go, N, hN, step⟩
  ·refine thn (T.done (X.comp N' scope cl2 G2.objs.size s2 H fp) rfl rfl rfl hcalm i _ s3 _ H3 _ I3 (fpc _ _ _ fr3) st3 stop) fun r s4 ⟨hr, I4⟩ => ?_
   subst hr
   have hDe4 : s4.heap.get? s2.heap.objs.size = some (lobj its c) := (I4.pin (s2.heap.objs.size, lobj its c) (by simp)).1
   have Ib : Inv X pins σ H3 s4 := I2.back f2 I4
   have hz : ys.length ≤ sizeLine := Nat.le_of_lt hlen
   obtain ⟨m', hn', _⟩ := I4.loc
   have It : Inv X pins σ (upd H3 s2.heap.objs.size (.lst ys)) s4 := Ib.track I2.sz hDn (Ne.symm (Nat.ne_of_lt I2.lt)) (fun x c e => by
    obtain ⟨v, ob, hob, _⟩ := I2.cell x c e
    exact Nat.ne_of_lt (Heap.lt_size hob)) (fun p hp => Nat.ne_of_lt (Heap.lt_size (I2.pin p hp).1)) ⟨hz, its, c, rv, hDe4⟩
   exact fin _ _ ys H3 s4 m' It q hDn hn' (Ne.symm hDC) hCle (by rw [upd_ne (Ne.symm hDC)]; exact I4.free)
  ·refine thn (T.item (X.comp N' scope cl2 G2.objs.size s2 H fp) rfl rfl rfl hcalm i _ s3 _ H3 _ I3 (fpc _ _ _ fr3) st3 go) fun r s4 ⟨u, hr, h4⟩ => ?_
   subst hr
   refine thn h4 fun _ s5 ⟨x, H5, I5, r5, y5, st5, fr5⟩ => ?_
   have I5' := I5.pinned (fpc its c H5 fr5) (T.obj _ _ st5)
   refine thn (hg _ _ _ _ _ _ s5 _ H5 x u _ I5' r5 (step x H5 y5)) fun _ s6 ⟨σ6, H6, I6, hσ, q6⟩ => ?_
   refine thn (ht _ _ _ _ _ _ s6 σ6 H6 _ I6 q6) fun ok s7 ⟨H7, I7, q7⟩ => ?_
   have wk : ∀ {pl : List (Addr × Obj)} {H' : Hp} {s' : Shared}, Inv (X.comp N' scope cl2 G2.objs.size s2 H fp) pl σ6 H' s' → Inv (X.comp N' scope cl2 G2.objs.size s2 H fp) pl (cS k ix σ) H' s' := fun {pl H' s'} I' =>
    I'.weak (by rw [Ic.len, I'.len]) fun j v ev => by
     by_cases hj : j < k
     ·unfold cS at ev
      rw [List.getElem?_append_left (by simpa using hj), List.getElem?_replicate, if_pos hj] at ev
      cases ev
     ·obtain ⟨j', rfl⟩ : ∃ j', j = k + j' := ⟨j - k, by omega⟩
      rw [← List.getElem?_drop, hσ, List.getElem?_drop]
      exact ev
   have itk : ∀ {σ' : St} {H' : Hp} {s' : Shared}, Inv (X.comp N' scope cl2 G2.objs.size s2 H fp) ([(s2.heap.objs.size, lobj its c)] ++ pinsAt fp s5.heap) σ' H' s' → tn (i + 1) s'.heap ∧ ∀ b ∈ fp, H' b = none := fun {σ' H' s'} I' =>
    ⟨T.keep _ _ _ st5 fun b hb o e => (I'.pin (b, o) (List.mem_append_right _ (List.mem_append_right _ (mem_pinsAt hb e)))).1, fun b hb => by
     obtain ⟨o, e, _⟩ := T.obj _ _ st5 b hb
     exact (I'.pin (b, o) (List.mem_append_right _ (List.mem_append_right _ (mem_pinsAt hb e)))).2.1⟩
   cases ok with
   | false =>
    rw [if_neg (by decide)] at q7 ⊢
    obtain ⟨m', hm, w7⟩ := hN _ _ q7
    obtain ⟨t7, f7⟩ := itk I7
    exact ⟨m', hm, i + 1, ys, its, c, H7, wk I7.unpinned, rv, t7, f7, w7⟩
   | true =>
    rw [if_pos rfl] at q7 ⊢
    refine thn (he _ _ _ _ _ _ s7 σ6 H7 _ I7 q7) fun yv s8 ⟨y, H8, I8, r8, n8q⟩ => ?_
    obtain ⟨m', hm, w8⟩ := hN _ _ n8q
    obtain ⟨t8, f8⟩ := itk I8
    have I8' : Inv (X.comp N' scope cl2 G2.objs.size s2 H fp) [(s2.heap.objs.size, lobj its c)] σ6 H8 s8 := I8.unpinned
    have e8 : s8.heap.get? s2.heap.objs.size = some (lobj its c) := (I8'.pin (s2.heap.objs.size, lobj its c) (by simp)).1
    have n8 : H8 s2.heap.objs.size = none := (I8'.pin (s2.heap.objs.size, lobj its c) (by simp)).2.1
    refine call_meets F.slot_list_append ⟨_, e8, rfl⟩ F.entry_list_append (F.args_list_append_2 _ _) (PySem.list_append s2.heap.objs.size its.toArray c yv (by
     have := rv.length
     rw [List.size_toArray]; omega)) ⟨e8, ?_⟩
    have q9 := PySem.IsL.update e8 (·.push yv)
    rw [show its.toArray.push yv = (its ++ [yv]).toArray by simp] at q9
    have I8n : Inv (X.comp N' scope cl2 G2.objs.size s2 H fp) [] σ6 H8 s8 := I8'.pins_of fun p hp => by cases hp
    have I9 : Inv (X.comp N' scope cl2 G2.objs.size s2 H fp) [] σ6 H8 { s8 with heap := s8.heap.update s2.heap.objs.size (Obj.mapSeq (·.push yv)) } :=
     I8n.turned (t' := s8.toks) (fun b o hb e => (Heap.get?_update_other s8.heap _ (Ne.symm hb)).trans e) n8 hDC (.inr (Nat.le_refl _)) (fun x c e => dcell x c e) (fun p hp => by cases hp)
    refine ⟨m', hm, i + 1, ys ++ [y], its ++ [yv], _, H8, wk (dpin _ _ _ _ _ I9 q9 n8), rv.append (.cons r8 .nil), ?_, f8, w8⟩
    exact T.keep _ _ _ t8 fun b hb o e => (Heap.get?_update_other s8.heap _ (by
     obtain ⟨o', e'⟩ := hfo b hb
     exact Ne.symm (below b (Heap.lt_size e')).2)).trans e
 exact codeAny_compStart_list loop (T.self X.A 0 _ _ _ st1 loop)
theorem comp_cells {X : Cx} {pins : List (Addr × Obj)} {σ : St} {H : Hp} {s : Shared} {scope : Scope} {N' : List Str} {k : Nat} {ix : List Nat} (I : Inv X pins σ H s) (S : CSc X.env.scope X.N scope N' k ix) :
  ∃ cl, closureFor scope X.env = pure cl ∧ (∀ x c, cl.lookup x = some c → X.env.cells.lookup x = some c) ∧ (∀ x, (x, NameKind.free) ∈ scope.names → ∃ c, cl.lookup x = some c) :=
 closure_of fun y hy e => by
  rcases S.fre y hy e with z | z
  ·exact I.ok.has _ (.inl z)
  ·exact I.ok.has _ (.inr z)
theorem Inv.letgo {H5 : Hp} {s5 : Shared} {σ5 : St} {C : Addr} {h' : Heap} (I2 : Inv X pins σ H s2) (I5 : Inv X pins σ5 H5 s5) (hCs : s2.heap.objs.size ≤ C) (hCn : H5 C = none) (hs : Heap.SameBut C s5.heap h') : Inv X pins σ5 H5 { s5 with heap := h' } :=
 I5.turned (t' := s5.toks) (it := C) (fun b o hb e => (hs.2 b hb).trans e) hCn (Ne.symm (Nat.ne_of_lt (Nat.lt_of_lt_of_le I2.lt hCs))) (.inr (Nat.le_trans I2.sz hCs))
  (fun x c e => by
   obtain ⟨v, ob, hob, _⟩ := I2.cell x c e
   exact Nat.ne_of_lt (Nat.lt_of_lt_of_le (Heap.lt_size hob) hCs))
  (fun p hp => Nat.ne_of_lt (Nat.lt_of_lt_of_le (Heap.lt_size (I2.pin p hp).1) hCs))
end
section
variable {X : Cx} {elt tg iter : Expr} {ifs : List Expr} {scope : Scope} {pos : Pos} {N' : List Str} {k : Nat} {ix : List Nat} {g : TG} {tt : TT} {te : TE} {wi : TI}
theorem pe_comp (hcalm : X.calm = true) (S : CSc X.env.scope X.N scope N' k ix) (hi : PI X tg iter wi)
  (hg : ∀ cl C s2 H2 fp, PG (X.comp N' scope cl C s2 H2 fp) tg g) (ht : ∀ cl C s2 H2 fp, PF (X.comp N' scope cl C s2 H2 fp) ifs tt) (he : ∀ cl C s2 H2 fp, PE (X.comp N' scope cl C s2 H2 fp) elt te)
  (hs : ∀ x, foldedSetIterable iter X.env x = pure x := by intro _; rfl) : PE X (.ListComp elt [⟨tg, iter, ifs, 0⟩] scope pos) (tComp k ix wi g tt te) := by
 intro pins s σ H Q I h
 obtain ⟨cl, ecl, hcl1, hcl2⟩ := comp_cells I S
 rw [eval_ListComp]
 refine wpAny_comprehension_free (use := none) rfl hs ecl S.kind S.loc (thn (hi pins s σ H _ I h) fun v s1 h1 => thn h1 fun itv s2 h2 => ?_)
 obtain ⟨it, fp, tn, J, H2, e, I2, T, st2, f2, hR⟩ := h2
 subst e
 refine comp_core (RR := fun acc C => compPost (model X.prog X.w) X.A X.xe none (EP X pins σ Q) acc C) hcalm S hg ht he I2 T st2 f2 hR hcl1 hcl2 ?_
 intro D C ys H5 s5 m I5 q hD hn hCD hCs hCn
 exact ⟨m, hn, fun h' hs' => ⟨.ref D, upd H5 D (.lst ys), I2.letgo I5 hCs hCn hs', rfl, q D hD⟩⟩
theorem ps_setC {i : Nat} {x : Str} {pos' spos : Pos} (hN : X.N.Nodup) (hi' : X.N[i]? = some x) (hx : Loc X.env.scope x) (hcalm : X.calm = true) (S : CSc X.env.scope X.N scope N' k ix) (hi : PI X tg iter wi)
  (hg : ∀ cl C s2 H2 fp, PG (X.comp N' scope cl C s2 H2 fp) tg g) (ht : ∀ cl C s2 H2 fp, PF (X.comp N' scope cl C s2 H2 fp) ifs tt) (he : ∀ cl C s2 H2 fp, PE (X.comp N' scope cl C s2 H2 fp) elt te)
  (hsw : swapsWith (.ListComp elt [⟨tg, iter, ifs, 0⟩] scope pos) (some (.Name x pos')) spos.line X.env = pure true)
  (hs : ∀ x, foldedSetIterable iter X.env x = pure x := by intro _; rfl) (hf : X.fn x = true ∨ X.env.scope.names.lookup x = some .local := by first | exact .inl rfl | exact .inr rfl | assumption) :
  PS X (.Assign [.Name x pos'] (.ListComp elt [⟨tg, iter, ifs, 0⟩] scope pos) spos) (tAsg (tComp k ix wi g tt te) (gName i)) := by
 intro pins s σ H D' I h
 obtain ⟨cl, ecl, hcl1, hcl2⟩ := comp_cells I S
 rw [exec_Assign_Name_used _ _ _ _ hsw]
 refine wpAny_bind (wpAny_standAt (wpAny_bind ?_))
 show wpAny _ X.A (do let _ ← comprehension (.ListComp elt [⟨tg, iter, ifs, 0⟩] scope pos) scope X.env _ (newList []) false (eval iter X.env) (some (assign (.Name x pos') X.env))) _ _ s
 refine wpAny_bind (wpAny_mono (wpAny_comprehension_free (use := some (assign (.Name x pos') X.env)) (Q := fun _ s' => SP X pins D' .next s') rfl hs ecl S.kind S.loc
  (thn (hi pins s σ H _ I h) fun v s1 h1 => thn h1 fun itv s2 h2 => ?_)) (fun _ s' hq => wpAny_pure (wpAny_pure hq)) fun _ _ e => e)
 obtain ⟨it, fp, tn, J, H2, e, I2, T, st2, f2, hR⟩ := h2
 subst e
 refine comp_core (RR := fun acc C => compPost (model X.prog X.w) X.A X.xe (some (assign (.Name x pos') X.env)) (fun _ s' => SP X pins D' .next s') acc C) hcalm S hg ht he I2 T st2 f2 hR hcl1 hcl2 ?_
 intro D C ys H5 s5 m I5 q hD hn hCD hCs hCn
 show wpAny _ X.A (assign (.Name x pos') X.env (.ref D)) _ _ s5
 refine wpAny_assign_Name (store_ok2 (v := .ref D) I5 hN hi' hx rfl (fun s' I' ⟨a, sb, ha⟩ => ?_) hf)
 have hCa : C ≠ a := by
  rcases ha with rfl | ha
  ·exact Ne.symm (Nat.ne_of_lt (Nat.lt_of_lt_of_le I2.lt hCs))
  ·obtain ⟨v, ob, hob, _⟩ := I2.cell x a ha
   exact Ne.symm (Nat.ne_of_lt (Nat.lt_of_lt_of_le (Heap.lt_size hob) hCs))
 exact ⟨m, hn.sameBut sb hCa, fun h' hs' => ⟨_, _, I2.letgo I' hCs hCn hs', q D hD⟩⟩
end
end L2
namespace L2
open PySem PySem.Spec PyProof.Rows
mutual
/-- the value v stands for the data d; no list of it lies in M -/
inductive Rep (M : Addr → Prop) (H : Hp) : V → PyData → Prop
 | none : Rep M H .non .none
 | bool (b : Bool) : Rep M H (.bl b) (.bool b)
 | int (i : Int) : Rep M H (.int i) (.int i)
 | str (x : Str) : Rep M H (.str x) (.str x)
 | list {a : Addr} {vs : List V} {ds : List PyData} : H a = some (.lst vs) → ¬ M a → RepL M H vs ds → Rep M H (.ref a) (.list ds)
 | tuple {a : Addr} {vs : List V} {ds : List PyData} : H a = some (.tup vs) → RepL M H vs ds → Rep M H (.ref a) (.tuple ds)
inductive RepL (M : Addr → Prop) (H : Hp) : List V → List PyData → Prop
 | nil : RepL M H [] []
 | cons {v : V} {vs : List V} {d : PyData} {ds : List PyData} : Rep M H v d → RepL M H vs ds → RepL M H (v :: vs) (d :: ds)
end
noncomputable def SameM (M : Addr → Prop) (H H' : Hp) : Prop := ∀ b o, ¬ M b → H b = some o → H' b = some o
noncomputable def TupM (H H' : Hp) : Prop := ∀ b xs, H b = some (.tup xs) → H' b = some (.tup xs)
structure Grow (M : Addr → Prop) (H H' : Hp) : Prop where
 same : SameM M H H'
 tups : TupM H H'
 stay : ∀ b, H b ≠ none → H' b ≠ none
theorem Same.grow {M : Addr → Prop} {H H' : Hp} (s : Same H H') : Grow M H H' :=
 ⟨fun b o _ e => s b o e, fun b xs e => s b _ e, fun b h => by
  cases q : H b with
  | none => exact absurd q h
  | some o => rw [s b o q]; exact fun z => nomatch z⟩
mutual
theorem Rep.grow {M : Addr → Prop} {H H' : Hp} (g : Grow M H H') : ∀ {v : V} {d : PyData}, Rep M H v d → Rep M H' v d
 | _, _, .none => .none
 | _, _, .bool b => .bool b
 | _, _, .int i => .int i
 | _, _, .str x => .str x
 | _, _, .list e n r => .list (g.same _ _ n e) n (RepL.grow g r)
 | _, _, .tuple e r => .tuple (g.tups _ _ e) (RepL.grow g r)
theorem RepL.grow {M : Addr → Prop} {H H' : Hp} (g : Grow M H H') : ∀ {vs : List V} {ds : List PyData}, RepL M H vs ds → RepL M H' vs ds
 | _, _, .nil => .nil
 | _, _, .cons r t => .cons (Rep.grow g r) (RepL.grow g t)
end
mutual
/-- fewer addresses may change; or one more that is not there -/
theorem Rep.less {M M' : Addr → Prop} {H : Hp} (g : ∀ b, M' b → H b ≠ none → M b) : ∀ {v : V} {d : PyData}, Rep M H v d → Rep M' H v d
 | _, _, .none => .none
 | _, _, .bool b => .bool b
 | _, _, .int i => .int i
 | _, _, .str x => .str x
 | _, _, .list e n r => .list e (fun z => n (g _ z (by rw [e]; exact fun z => nomatch z))) (RepL.less g r)
 | _, _, .tuple e r => .tuple e (RepL.less g r)
theorem RepL.less {M M' : Addr → Prop} {H : Hp} (g : ∀ b, M' b → H b ≠ none → M b) : ∀ {vs : List V} {ds : List PyData}, RepL M H vs ds → RepL M' H vs ds
 | _, _, .nil => .nil
 | _, _, .cons r t => .cons (Rep.less g r) (RepL.less g t)
end
theorem RepL.length {M : Addr → Prop} {H : Hp} : ∀ {vs : List V} {ds : List PyData}, RepL M H vs ds → vs.length = ds.length
 | _, _, .nil => rfl
 | _, _, .cons _ t => by rw [List.length_cons, List.length_cons, RepL.length t]
theorem RepL.append {M : Addr → Prop} {H : Hp} : ∀ {vs ws : List V} {ds es : List PyData}, RepL M H vs ds → RepL M H ws es → RepL M H (vs ++ ws) (ds ++ es)
 | _, _, _, _, .nil, s => s
 | _, _, _, _, .cons r t, s => .cons r (RepL.append t s)
theorem RepL.get {M : Addr → Prop} {H : Hp} : ∀ {vs : List V} {ds : List PyData} {i : Nat} {v : V}, RepL M H vs ds → vs[i]? = some v → ∃ d, ds[i]? = some d ∧ Rep M H v d
 | _, _, _, _, .nil, e => by simp at e
 | _, _, 0, _, .cons r _, e => by simp at e; subst e; exact ⟨_, rfl, r⟩
 | _, _, i + 1, v, .cons _ t, e => by
  obtain ⟨u, h1, h2⟩ := RepL.get (i := i) (v := v) t (by simpa using e)
  exact ⟨u, by simpa using h1, h2⟩
theorem RepL.get' {M : Addr → Prop} {H : Hp} {vs : List V} {ds : List PyData} {i : Nat} {d : PyData} (r : RepL M H vs ds) (e : ds[i]? = some d) : ∃ v, vs[i]? = some v ∧ Rep M H v d := by
 have hl := r.length
 have hi : i < vs.length := by rw [hl]; exact (List.getElem?_eq_some_iff.mp e).1
 obtain ⟨d', e', r'⟩ := r.get (i := i) (v := vs[i]) (by simp [hi])
 rw [e] at e'; cases e'
 exact ⟨vs[i], by simp [hi], r'⟩
theorem RepL.take {M : Addr → Prop} {H : Hp} : ∀ {vs : List V} {ds : List PyData} (n : Nat), RepL M H vs ds → RepL M H (vs.take n) (ds.take n)
 | _, _, 0, _ => .nil
 | _, _, _ + 1, .nil => .nil
 | _, _, n + 1, .cons r t => .cons r (RepL.take n t)
theorem RepL.drop {M : Addr → Prop} {H : Hp} : ∀ {vs : List V} {ds : List PyData} (n : Nat), RepL M H vs ds → RepL M H (vs.drop n) (ds.drop n)
 | _, _, 0, r => r
 | _, _, _ + 1, .nil => .nil
 | _, _, n + 1, .cons _ t => RepL.drop n t
theorem RepL.ints {M : Addr → Prop} {H : Hp} : ∀ (ns : List Int), RepL M H (ns.map V.int) (ns.map PyData.int)
 | [] => .nil
 | n :: ns => .cons (.int n) (RepL.ints ns)
mutual
theorem Rep.reads {P : Program} {w : World} {M : Addr → Prop} {H : Hp} {h : Heap} (ok : HOk P w H h) : ∀ {v : V} {d : PyData} {u : Value}, Rep M H v d → RelV v u → ∃ as, Reads h u d as
 | _, _, _, .none, r => by cases (show _ = Value.none from r); exact ⟨_, .none⟩
 | _, _, _, .bool b, r => by cases (show _ = Value.bool b from r); exact ⟨_, .bool b⟩
 | _, _, _, .int i, r => by obtain ⟨t, e⟩ := (show ∃ t, _ = Value.int i t from r); cases e; exact ⟨_, .int i t⟩
 | _, _, _, .str x, r => by obtain ⟨t, e⟩ := (show ∃ t, _ = Value.str x t from r); cases e; exact ⟨_, .str x t⟩
 | _, _, _, .list (a := a) (vs := vs) e n q, r => by
  cases (show _ = Value.ref a from r)
  obtain ⟨_, its, c, rv, ho⟩ := (show ObjOk P w H h a (.lst vs) from ok a _ e)
  obtain ⟨as, z⟩ := RepL.reads ok q rv
  exact ⟨_, .list ho rfl rfl (by simpa using z)⟩
 | _, _, _, .tuple (a := a) (vs := vs) e q, r => by
  cases (show _ = Value.ref a from r)
  obtain ⟨_, its, rv, o, ho, hc, c, hd⟩ := (show ObjOk P w H h a (.tup vs) from ok a _ e)
  obtain ⟨as, z⟩ := RepL.reads ok q rv
  exact ⟨_, .tuple ho hc hd (by simpa using z)⟩
theorem RepL.reads {P : Program} {w : World} {M : Addr → Prop} {H : Hp} {h : Heap} (ok : HOk P w H h) : ∀ {vs : List V} {ds : List PyData} {us : List Value}, RepL M H vs ds → Vals vs us → ∃ as, ReadsAll h us ds as
 | _, _, _, .nil, r => by cases r; exact ⟨_, .nil⟩
 | _, _, _, .cons q t, r => by
  cases r with
  | cons r rs =>
   obtain ⟨as, z⟩ := Rep.reads ok q r
   obtain ⟨bs, y⟩ := RepL.reads ok t rs
   exact ⟨_, .cons z y⟩
end
section
variable (X : Cx)
noncomputable def wpE (e : Expr) : TE := fun σ H Q => ∀ (pins : List (Addr × Obj)) (s : Shared), Inv X pins σ H s → wpAny (model X.prog X.w) X.A (eval e X.env) (EP X pins σ Q) X.xe s
noncomputable def wpT (e : Expr) : TT := fun σ H Q => ∀ (pins : List (Addr × Obj)) (s : Shared), Inv X pins σ H s → wpAny (model X.prog X.w) X.A (isTrue e X.env (eval e X.env)) (TP X pins σ Q) X.xe s
noncomputable def wpW (e : Expr) : TT := fun σ H Q => ∀ (whole : Sem Value) (pins : List (Addr × Obj)) (s : Shared), Inv X pins σ H s → wpAny (model X.prog X.w) X.A (isTrue e X.env whole) (TP X pins σ Q) X.xe s
noncomputable def wpA (es : List Expr) : TA := fun σ H Q => ∀ (pos : Pos) (pins : List (Addr × Obj)) (s : Shared), Inv X pins σ H s → wpAny (model X.prog X.w) X.A (spliced (backTo pos (starEach es X.env))) (AP X pins σ Q) X.xe s
noncomputable def wpS (st : Stmt) : TS := fun D σ H => ∀ (pins : List (Addr × Obj)) (s : Shared), Inv X pins σ H s → wpAny (model X.prog X.w) X.A (exec st X.env) (SP X pins D) X.xe s
noncomputable def wpB (st : List Stmt) : TS := fun D σ H => ∀ (pins : List (Addr × Obj)) (s : Shared), Inv X pins σ H s → wpAny (model X.prog X.w) X.A (execs st X.env) (SP X pins D) X.xe s
noncomputable def wpG (tg : Expr) : TG := fun v σ H Q => ∀ (pins : List (Addr × Obj)) (s : Shared) (u : Value), Inv X pins σ H s → RelV v u → wpAny (model X.prog X.w) X.A (assign tg X.env u) (fun _ s' => ∃ σ' H', Inv X pins σ' H' s' ∧ Q σ' H') X.xe s
noncomputable def wpF (ifs : List Expr) : TT := fun σ H Q => ∀ (pins : List (Addr × Obj)) (s : Shared), Inv X pins σ H s →
 wpAny (model X.prog X.w) X.A (forIn ifs true fun c r => if r = true then do let ok ← isTrue c X.env (eval c X.env); pure (ForInStep.yield ok) else pure (ForInStep.yield r)) (TP X pins σ Q) X.xe s
noncomputable def wpI (tg iter : Expr) : TI := fun σ H R => ∀ (pins : List (Addr × Obj)) (s : Shared), Inv X pins σ H s →
  wpAny (model X.prog X.w) X.A (eval iter X.env) (fun v s1 => wpAny (model X.prog X.w) X.A (pyIter v) (PIE X pins σ tg R) X.xe s1) X.xe s
end
section
variable {X : Cx} {e : Expr} {es : List Expr} {st : Stmt} {sts : List Stmt} {tg iter : Expr} {σ : St} {H : Hp}
theorem pe_self : PE X e (wpE X e) := fun pins s σ H Q I h => h pins s I
theorem pt_self : PT X e (wpT X e) := fun pins s σ H Q I h => h pins s I
theorem pw_self : PW X e (wpW X e) := fun wh pins s σ H Q I h => h wh pins s I
theorem pa_self : PA X es (wpA X es) := fun pos pins s σ H Q I h => h pos pins s I
theorem ps_self : PS X st (wpS X st) := fun pins s σ H D I h => h pins s I
theorem pss_self : PSs X sts (wpB X sts) := fun pins s σ H D I h => h pins s I
theorem pg_self : PG X tg (wpG X tg) := fun pins s σ H v u Q I r h => h pins s u I r
theorem pi_self : PI X tg iter (wpI X tg iter) := fun pins s σ H R I h => h pins s I
theorem PE.wp {t : TE} {Q : VK} (h : PE X e t) (q : t σ H Q) : wpE X e σ H Q := fun pins s I => h pins s σ H Q I q
theorem PT.wp {t : TT} {Q : Bool → Hp → Prop} (h : PT X e t) (q : t σ H Q) : wpT X e σ H Q := fun pins s I => h pins s σ H Q I q
theorem PW.wp {t : TT} {Q : Bool → Hp → Prop} (h : PW X e t) (q : t σ H Q) : wpW X e σ H Q := fun wh pins s I => h wh pins s σ H Q I q
theorem PA.wp {t : TA} {Q : List V → Hp → Prop} (h : PA X es t) (q : t σ H Q) : wpA X es σ H Q := fun pos pins s I => h pos pins s σ H Q I q
theorem PS.wp {t : TS} {D : Ends} (h : PS X st t) (q : t D σ H) : wpS X st D σ H := fun pins s I => h pins s σ H D I q
theorem PSs.wp {t : TS} {D : Ends} (h : PSs X sts t) (q : t D σ H) : wpB X sts D σ H := fun pins s I => h pins s σ H D I q
theorem PG.wp {t : TG} {v : V} {Q : St → Hp → Prop} (h : PG X tg t) (q : t v σ H Q) : wpG X tg v σ H Q := fun pins s u I r => h pins s σ H v u Q I r q
theorem PF.wp {ifs : List Expr} {t : TT} {Q : Bool → Hp → Prop} (h : PF X ifs t) (q : t σ H Q) : wpF X ifs σ H Q := fun pins s I => h pins s σ H Q I q
theorem PI.wp {t : TI} {R : It → Hp → Prop} (h : PI X tg iter t) (q : t σ H R) : wpI X tg iter σ H R := fun pins s I => h pins s σ H R I q
theorem wpE.mono {Q Q' : VK} (h : wpE X e σ H Q) (k : ∀ v H', Q v H' → Q' v H') : wpE X e σ H Q' := fun pins s I => thn (h pins s I) fun u s' ⟨v, H', a, b, c⟩ => ⟨v, H', a, b, k v H' c⟩
theorem wpA.mono {Q Q' : List V → Hp → Prop} (h : wpA X es σ H Q) (k : ∀ v H', Q v H' → Q' v H') : wpA X es σ H Q' := fun pos pins s I => thn (h pos pins s I) fun u s' ⟨v, H', a, b, c⟩ => ⟨v, H', a, b, k v H' c⟩
end
noncomputable def Al (M : Addr → Prop) (H : Hp) : Prop := ∀ a, M a → H a ≠ none
inductive Ent where
 | d (x : PyData)
 | v (x : V)
noncomputable abbrev Ge := List (Option Ent)
structure RS (M : Addr → Prop) (Γ : Ge) (σ : St) (H : Hp) : Prop where
 al : Al M H
 at' : ∀ (i : Nat) (d : PyData), Γ[i]? = some (some (.d d)) → ∃ v, σ[i]? = some (some v) ∧ Rep M H v d
 av : ∀ (i : Nat) (v : V), Γ[i]? = some (some (.v v)) → σ[i]? = some (some v)
noncomputable def EntOk (M : Addr → Prop) (H : Hp) (v : V) : Ent → Prop
 | .d d => Rep M H v d
 | .v u => v = u
theorem RS.setE {M : Addr → Prop} {Γ : Ge} {σ : St} {H : Hp} {v : V} {z : Ent} {i : Nat} (h : RS M Γ σ H) (r : EntOk M H v z) (hi : i < σ.length) : RS M (Γ.set i (some z)) (σ.set i (some v)) H := ⟨h.al, fun j d' e => by
 by_cases hj : j = i
 ·subst hj
  by_cases hl : j < Γ.length
  ·rw [List.getElem?_set_self hl] at e
   cases e
   exact ⟨v, by rw [List.getElem?_set_self hi], r⟩
  ·rw [List.getElem?_eq_none (by simpa using hl)] at e; cases e
 ·rw [List.getElem?_set_ne (Ne.symm hj)] at e ⊢
  exact h.at' j d' e, fun j d' e => by
 by_cases hj : j = i
 ·subst hj
  by_cases hl : j < Γ.length
  ·rw [List.getElem?_set_self hl] at e
   cases e
   rw [List.getElem?_set_self hi]; exact congrArg (fun x => some (some x)) r
  ·rw [List.getElem?_eq_none (by simpa using hl)] at e; cases e
 ·rw [List.getElem?_set_ne (Ne.symm hj)] at e ⊢
  exact h.av j d' e⟩
theorem RS.setV {M : Addr → Prop} {Γ : Ge} {σ : St} {H : Hp} {v : V} {i : Nat} (h : RS M Γ σ H) (hi : i < σ.length) : RS M (Γ.set i (some (.v v))) (σ.set i (some v)) H := h.setE rfl hi
section
variable {X : Cx} {Γ : Ge} {pos p : Pos} {a b c : Expr} {es : List Expr} {d d1 d2 : PyData} {ds : List PyData}
theorem upd_new {H : Hp} {p : Addr} {o : HO} (n : H p = none) : Same H (upd H p o) := fun b u e => by rw [upd_ne (ne_of_none e n)]; exact e
theorem op_deepEq (hu : ∀ n, n ≤ 60 → X.A.units + n < cLine) : OpR X (compareOp .Eq) (fun x y H Q => ∃ M M' d1 d2, Rep M H x d1 ∧ Rep M' H y d2 ∧ d1.canLay0 = true ∧ d2.canLay0 = true ∧ min d1.depth d2.depth ≤ 60 ∧ Q (.bl (PyData.eqv d1 d2)) H) := by
 intro pins s σ H x y v u Q I rx ry h
 obtain ⟨M, M', d1, d2, r1, r2, c1, c2, hd, q⟩ := h
 obtain ⟨as, z1⟩ := r1.reads I.hok rx
 obtain ⟨bs, z2⟩ := r2.reads I.hok ry
 exact SeqAt.compareEq_reads z1 z2 c1 c2 (hu _ hd) ⟨.bl _, H, I, rfl, q⟩
theorem op_deepNe (hu : ∀ n, n ≤ 60 → X.A.units + n < cLine) : OpR X (compareOp .NotEq) (fun x y H Q => ∃ M M' d1 d2, Rep M H x d1 ∧ Rep M' H y d2 ∧ d1.canLay0 = true ∧ d2.canLay0 = true ∧ min d1.depth d2.depth ≤ 60 ∧ Q (.bl (!PyData.eqv d1 d2)) H) := by
 intro pins s σ H x y v u Q I rx ry h
 obtain ⟨M, M', d1, d2, r1, r2, c1, c2, hd, q⟩ := h
 obtain ⟨as, z1⟩ := r1.reads I.hok rx
 obtain ⟨bs, z2⟩ := r2.reads I.hok ry
 exact SeqAt.compareNe_reads z1 z2 c1 c2 (hu _ hd) ⟨.bl _, H, I, rfl, q⟩
theorem Room.u60 {k : Nat} {A : Around} (r : Room k A) : ∀ n, n ≤ 60 → A.units + n < cLine := fun n h => by have := r.units; omega
end
end L2
namespace PySem
open PySem.AutoSeq1 (wpAny_loadPart')
theorem tuple_mulW3 (l : Addr) (items : Array Value) (n : Nat) (dd : Option Addr) (sl : Array (Option Value)) (x : Int) (u : Tok) (hb1 : ¬ (decide (x < -(2 ^ 63)) || decide (x ≥ 2 ^ 63)) = true) (hc0 : ¬ (items.isEmpty || x == 1) = true) (hc1 : ¬ (decide (x ≤ 0) || items.isEmpty) = true) (hc2 : ¬ (items.size : Int) * x > (2 ^ 63 - 1) / 8) (hc3 : ¬ Builtin.Tuple.tupleTooMany ((items.size : Int) * x) = true) (hsz : ((List.replicate x.toNat items).foldl (· ++ ·) #[]).size ≤ sizeLine) :
  Meets (Builtin.«tuple.__mul__» ⟨[.ref l, .int x u], []⟩) (fun _ R s => s.heap.get? l = some { cls := .type "tuple", dict := dd, data := .seq items n, slots := sl } ∧ R (.ok (.ret (Value.ref s.heap.objs.size))) { s with heap := s.heap.push { cls := Value.type "tuple", data := Data.seq ((List.replicate x.toNat items).foldl (· ++ ·) #[]) }, toks := s.toks }) :=
 .of_wp fun prog w A R s h => by
  obtain ⟨hp, g, d, tk, os⟩ := s; obtain ⟨hl, h⟩ := h
  have f1 := AutoSeq1.idx_int
  wp_walk using wpAny_loadPart' hl
  refine wpAny_ite_false (decide_eq_false hb1) ?_
  wp_walk using wpAny_loadPart' hl
  first | (refine wpAny_ite_false (decide_eq_false hc2) ?_; wp_walk using wpAny_loadPart' hl) | skip
  first | (refine wpAny_ite_false (decide_eq_false (Nat.not_lt.mpr hsz)) ?_; wp_walk using wpAny_loadPart' hl) | skip
  exact ⟨_, rfl, h⟩
theorem tuple_mulW0 (l : Addr) (items : Array Value) (n : Nat) (dd : Option Addr) (sl : Array (Option Value)) (x : Int) (u : Tok) (hb1 : ¬ (decide (x < -(2 ^ 63)) || decide (x ≥ 2 ^ 63)) = true) (hc0 : (items.isEmpty || x == 1) = true) :
  Meets (Builtin.«tuple.__mul__» ⟨[.ref l, .int x u], []⟩) (fun _ R s => s.heap.get? l = some { cls := .type "tuple", dict := dd, data := .seq items n, slots := sl } ∧ R (.ok (.ret (Value.ref l))) { s with heap := s.heap, toks := s.toks }) :=
 .of_wp fun prog w A R s h => by
  obtain ⟨hp, g, d, tk, os⟩ := s; obtain ⟨hl, h⟩ := h
  have f1 := AutoSeq1.idx_int
  wp_walk using wpAny_loadPart' hl
  refine wpAny_ite_false (decide_eq_false hb1) ?_
  wp_walk using wpAny_loadPart' hl
  exact ⟨_, rfl, h⟩
theorem tuple_mulW1 (l : Addr) (items : Array Value) (n : Nat) (dd : Option Addr) (sl : Array (Option Value)) (x : Int) (u : Tok) (hb1 : ¬ (decide (x < -(2 ^ 63)) || decide (x ≥ 2 ^ 63)) = true) (hc0 : ¬ (items.isEmpty || x == 1) = true) (hc1 : (decide (x ≤ 0) || items.isEmpty) = true) :
  Meets (Builtin.«tuple.__mul__» ⟨[.ref l, .int x u], []⟩) (fun _ R s => s.heap.get? l = some { cls := .type "tuple", dict := dd, data := .seq items n, slots := sl } ∧ R (.ok (.ret (Value.ref s.heap.objs.size))) { s with heap := s.heap.push { cls := Value.type "tuple", data := Data.seq #[] }, toks := s.toks }) :=
 .of_wp fun prog w A R s h => by
  obtain ⟨hp, g, d, tk, os⟩ := s; obtain ⟨hl, h⟩ := h
  have f1 := AutoSeq1.idx_int
  wp_walk using wpAny_loadPart' hl
  refine wpAny_ite_false (decide_eq_false hb1) ?_
  wp_walk using wpAny_loadPart' hl
  exact ⟨_, rfl, h⟩
theorem noFill_tuple_mulW : fillsNumberSlot (.type "tuple") "mul" = pure false :=
 fillsNumberSlot_seq (id := "tuple.__mul__") (r := some (.builtin "tuple.__rmul__")) F.slot_tuple_mul.lookup (by decide +kernel) F.slot_tuple_rmul.lookup (by decide +kernel)
theorem repeat_tupleW : seqRepeat? (.type "tuple") = pure (some (.builtin "tuple.__mul__")) := by
 unfold seqRepeat?
 rw [seqSlot_of (T := "tuple") (name := "__mul__") (id := "tuple.__mul__") F.slot_tuple_mul.lookup (by decide +kernel), seqSlot_of (T := "tuple") (name := "__rmul__") (id := "tuple.__rmul__") F.slot_tuple_rmul.lookup (by decide +kernel)]
 rfl
theorem int_rmul_tupleW (a : Int) (t : Tok) (l : Addr) (items : Array Value) (n : Nat) (dd : Option Addr) (sl : Array (Option Value)) :
  Meets (Builtin.«int.__rmul__» ⟨[.int a t, .ref l], []⟩) (fun _ R s => s.heap.get? l = some { cls := .type "tuple", dict := dd, data := .seq items n, slots := sl } ∧ R (.ok (.ret Value.notImplemented)) s) :=
 .of_wp fun prog w A R s h => by obtain ⟨hp, g, d, tk, os⟩ := s; obtain ⟨hl, h⟩ := h; wp_walk using wpAny_loadPart' hl; exact ⟨_, rfl, h⟩
end PySem
namespace L2
open PySem PySem.Spec PyProof.Rows
section
variable {X : Cx}
noncomputable def rRepT (K : PySem.W.Frag) : R2 := fun x y H Q => ∃ l k xs, x = .ref l ∧ y = .int k ∧ SqT K H l xs ∧ -(2 ^ 63) ≤ k ∧ k < 2 ^ 63 ∧ xs.length * k.toNat ≤ sizeLine ∧
 ((xs = [] ∨ k = 1) → Q (.ref l) H) ∧ ∀ p, H p = none → Q (.ref p) (upd H p (.tup (List.replicate k.toNat xs).flatten))
theorem op_repT : OpR X (binaryOp .Mult) (rRepT X.K) := by
 intro pins s σ H x y v u Q I rx ry h
 obtain ⟨l, k, xs, rfl, rfl, hH, h1, h2, hz, qs, q⟩ := h
 cases rx
 obtain ⟨t, rfl⟩ := ry
 obtain ⟨its, r, hit, hzz⟩ := I.tuple hH
 have hl := r.length
 obtain ⟨⟨cls, dd, data, sl⟩, ho, hc, n, hd⟩ := id hit
 simp only at hc hd
 subst hc hd
 have hb1 : ¬ (decide (k < -(2 ^ 63)) || decide (k ≥ 2 ^ 63)) = true := by
  simp only [Bool.or_eq_true, decide_eq_true_eq]; omega
 have hnew : List.foldl (fun x1 x2 => x1 ++ x2) #[] (List.replicate k.toNat its.toArray) = (List.replicate k.toNat its).flatten.toArray := by
  have := foldl_rep its k.toNat []
  rw [List.nil_append] at this
  exact this
 refine wpAny_binaryOp_repeat_ref (T := "tuple") (U := "int") (by decide) ⟨_, ho, rfl⟩ (fun s' => typeIs_int s' k t) noFill_tuple_mulW F.fills_int_mul F.slot_int_rmul repeat_tupleW F.slot_int_index.lookup
  (call_meets F.slot_int_rmul (typeIs_int s k t) F.entry_int_rmul (F.args_int_rmul_2 _ _) (int_rmul_tupleW k t l its.toArray n dd sl) ⟨ho, rfl, ⟨_, ho, rfl⟩, ?_⟩)
 by_cases hc0 : (its.toArray.isEmpty || k == 1) = true
 ·refine call_meets F.slot_tuple_mul ⟨_, ho, rfl⟩ F.entry_tuple_mul (F.args_tuple_mul_2 _ _) (tuple_mulW0 l its.toArray n dd sl k t hb1 hc0) ⟨ho, ?_⟩
  refine ⟨.ref l, H, I, rfl, qs ?_⟩
  simp only [Bool.or_eq_true, beq_iff_eq] at hc0
  rcases hc0 with z | z
  ·left
   have : its = [] := by simpa using z
   subst this
   exact List.eq_nil_of_length_eq_zero hl
  ·exact .inr z
 ·by_cases hc1 : (decide (k ≤ 0) || its.toArray.isEmpty) = true
  ·refine call_meets F.slot_tuple_mul ⟨_, ho, rfl⟩ F.entry_tuple_mul (F.args_tuple_mul_2 _ _) (tuple_mulW1 l its.toArray n dd sl k t hb1 hc0 hc1) ⟨ho, ?_⟩
   have e0 : (List.replicate k.toNat xs).flatten = [] := by
    simp only [Bool.or_eq_true, decide_eq_true_eq] at hc1
    rcases hc1 with z | z
    ·rw [show k.toNat = 0 by omega]; rfl
    ·exact absurd (by simp [z]) hc0
   refine ⟨.ref s.heap.objs.size, _, I.laid (t' := s.toks) (o := .tup []) (fun b u e => Heap.get?_push_of_some _ e) (Nat.le_refl _) ?_, rfl, by have := q _ (I.hok.fresh (Nat.le_refl _)); rw [e0] at this; exact this⟩
   exact ⟨Nat.zero_le _, [], .nil, ⟨_, Heap.get?_push_size _ rfl, rfl, _, rfl⟩⟩
  ·have hlen : its.length * k.toNat ≤ sizeLine := by rw [← hl]; exact hz
   have hk0 : 0 < k := by
    simp only [Bool.or_eq_true, decide_eq_true_eq] at hc1; omega
   have hm : ((its.toArray.size : Int) * k) = ((its.length * k.toNat : Nat) : Int) := by
    rw [List.size_toArray]
    have : k = (k.toNat : Int) := by omega
    rw [Int.natCast_mul, ← this]
   have hsl : (sizeLine : Nat) ≤ (2 ^ 63 - 1) / 8 := by decide
   have hc2 : ¬ (its.toArray.size : Int) * k > (2 ^ 63 - 1) / 8 := by
    rw [hm]
    have h63 : ((2 ^ 63 - 1) / 8 : Int) = (((2 ^ 63 - 1) / 8 : Nat) : Int) := by decide
    rw [h63]
    intro z
    have := Int.ofNat_lt.mp z
    omega
   have hc3 : ¬ Builtin.Tuple.tupleTooMany ((its.toArray.size : Int) * k) = true := by
    unfold Builtin.Tuple.tupleTooMany
    rw [hm, decide_eq_true_eq]
    intro z
    have := Int.ofNat_lt.mp z
    omega
   refine call_meets F.slot_tuple_mul ⟨_, ho, rfl⟩ F.entry_tuple_mul (F.args_tuple_mul_2 _ _) (tuple_mulW3 l its.toArray n dd sl k t hb1 hc0 hc1 hc2 hc3 (by rw [hnew, List.size_toArray, len_rep, Nat.mul_comm]; exact hlen)) ⟨ho, ?_⟩
   rw [hnew]
   refine ⟨.ref s.heap.objs.size, _, I.laid (t' := s.toks) (o := .tup (List.replicate k.toNat xs).flatten) (fun b u e => Heap.get?_push_of_some _ e) (Nat.le_refl _) ?_, rfl, q _ (I.hok.fresh (Nat.le_refl _))⟩
   exact ⟨by rw [len_rep, Nat.mul_comm]; exact hz, _, r.rep k.toNat, ⟨_, Heap.get?_push_size _ rfl, rfl, _, rfl⟩⟩
theorem RepL.rep {M : Addr → Prop} {H : Hp} {vs : List V} {ds : List PyData} (h : RepL M H vs ds) : ∀ k : Nat, RepL M H (List.replicate k vs).flatten (List.replicate k ds).flatten
 | 0 => .nil
 | k + 1 => by rw [List.replicate_succ, List.replicate_succ, List.flatten_cons, List.flatten_cons]; exact h.append (RepL.rep h k)
theorem Rep.tup_inv {M : Addr → Prop} {H : Hp} {v : V} {ds : List PyData} (r : Rep M H v (.tuple ds)) : ∃ a vs, v = .ref a ∧ H a = some (.tup vs) ∧ RepL M H vs ds := by
 cases r with
 | tuple e q => exact ⟨_, _, rfl, e, q⟩
theorem Rep.lst_inv {M : Addr → Prop} {H : Hp} {v : V} {ds : List PyData} (r : Rep M H v (.list ds)) : ∃ a vs, v = .ref a ∧ H a = some (.lst vs) ∧ ¬ M a ∧ RepL M H vs ds := by
 cases r with
 | list e n q => exact ⟨_, _, rfl, e, n, q⟩
variable {Γ : Ge} {pos p p2 : Pos} {a b c : Expr} {es : List Expr} {d d1 d2 : PyData} {ds ds1 ds2 : List PyData}
noncomputable def rCatT2 (K : PySem.W.Frag) : R2 := fun x y H Q => ∃ a b xs ys, x = .ref a ∧ y = .ref b ∧ SqT K H a xs ∧ SqT K H b ys ∧ xs.length + ys.length ≤ sizeLine ∧ (xs = [] → Q (.ref b) H) ∧ (ys = [] → Q (.ref a) H) ∧ ∀ p, H p = none → Q (.ref p) (upd H p (.tup (xs ++ ys)))
theorem op_catT2 : OpR X (binaryOp .Add) (rCatT2 X.K) := by
 intro pins s σ H x y v u Q I rx ry h
 obtain ⟨a, b, xs, ys, rfl, rfl, ha, hb, hz, q0, q1, q⟩ := h
 cases rx
 cases ry
 obtain ⟨its, r, hit, _⟩ := I.tuple ha
 obtain ⟨its2, r2, hit2, _⟩ := I.tuple hb
 by_cases hv : its = []
 ·obtain ⟨⟨cls, dd, data, sl⟩, ho, hc, n, hd⟩ := id hit
  obtain ⟨⟨cls2, dd2, data2, sl2⟩, ho2, hc2, n2, hd2⟩ := id hit2
  simp only at hc hd hc2 hd2
  subst hc hd hc2 hd2
  refine concat_meets ⟨_, ho, rfl⟩ ⟨_, ho2, rfl⟩ noFill_tuple_add seq_tuple_add PySem.F.slot_tuple_add PySem.F.entry_tuple_add (PySem.F.args_tuple_add_2 _ _)
   (tuple_addW0 a b its.toArray its2.toArray n n2 dd dd2 sl sl2 (by simp [hv])) ⟨ho, ho2, ⟨.ref b, H, I, rfl, q0 ?_⟩⟩
  exact r.nil_iff.mp hv
 ·refine HT.cat_tup hit hit2 hv (fun hw => ⟨.ref a, H, I, rfl, q1 (r2.nil_iff.mp hw)⟩) (fun _ => ?_) (by rw [← r.length, ← r2.length]; exact hz)
  refine ⟨.ref s.heap.objs.size, _, I.laid (t' := s.toks) (o := .tup (xs ++ ys)) (fun b u e => Heap.get?_push_of_some _ e) (Nat.le_refl _) ?_, rfl, q _ (I.hok.fresh (Nat.le_refl _))⟩
  exact ⟨by rw [List.length_append]; exact hz, _, r.append r2, ⟨_, Heap.get?_push_size _ rfl, rfl, _, rfl⟩⟩
theorem atI_rep {M : Addr → Prop} {H : Hp} {vs : List V} {ds : List PyData} {i : Int} {d : PyData} (r : RepL M H vs ds) (h : atI ds i = some d) : ∃ v, atI vs i = some v ∧ Rep M H v d := by
 unfold atI at h ⊢
 rw [r.length]
 cases e : ixN ds.length i with
 | none => rw [e] at h; cases h
 | some j =>
  rw [e] at h
  exact r.get' h
end
end L2
namespace L2
open PySem PySem.Spec PyProof.Rows
noncomputable def tyD : PyData → String
 | .none => "NoneType"
 | .bool _ => "bool"
 | .int _ => "int"
 | .str _ => "str"
 | .list _ => "list"
 | .tuple _ => "tuple"
 | .dict _ => "dict"
theorem Rep.ty {K : PySem.W.Frag} {M : Addr → Prop} {H : Hp} {v : V} {d : PyData} (r : Rep M H v d) : TyOf K H v (.type (tyD d)) := by
 cases r with
 | none => exact .non
 | bool b => exact .bl b
 | int i => exact .int i
 | str x => exact .str x
 | list e n q => exact .lst e
 | tuple e q => exact .tup e
section
variable {X : Cx}
theorem call_isi : CallR X (.builtin "isinstance") (fun xs H Q => ∃ x T t k, xs = [x, .ty T] ∧ TyOf X.K H x t ∧ PySem.W.kitOne X.K t (.type T) = some k ∧ Q (.bl k) H) := by
 intro pins s σ H xs us Q I r h
 obtain ⟨x, T, t, k, rfl, ty, e, q⟩ := h
 obtain ⟨u, w', rfl, rx, rc⟩ := vals2 r
 cases (show w' = Value.type T from rc)
 exact isinst_ok I rx ty e fun tk => ⟨.bl k, H, I.tok tk, rfl, q⟩
variable {Γ : Ge} {pos p p2 : Pos} {a b c : Expr} {es : List Expr} {d d1 d2 : PyData} {ds ds1 ds2 : List PyData}
theorem range_all (bs : List Bool) : (List.range bs.length).all (fun i => (bs[i]?).getD false) = bs.all id := by
 have e : (List.range bs.length).map (fun i => (bs[i]?).getD false) = bs := by
  apply List.ext_getElem
  ·simp
  ·intro i h1 h2
   simp [h2]
 have h := congrArg (fun l => List.all l id) e
 rw [List.all_map] at h
 exact h
theorem vals_bl {bs : List Bool} {its : List Value} (rv : Vals (bs.map V.bl) its) {i : Nat} {v : Value} (e : its[i]? = some v) : ∃ b, bs[i]? = some b ∧ v = .bool b := by
 have hi : i < its.length := (List.getElem?_eq_some_iff.mp e).1
 have hl := rv.length
 rw [List.length_map] at hl
 have hb : i < bs.length := by omega
 obtain ⟨u, hu, ru⟩ := rv.get (i := i) (x := V.bl bs[i]) (by simp [hb])
 rw [e] at hu; cases hu
 exact ⟨bs[i], by simp [hb], ru⟩
theorem call_allB (hc : X.calm = true) : CallR X (.builtin "all") (fun xs H Q => ∃ (p : Addr) (bs : List Bool), xs = [.ref p] ∧ SqL X.K H p (bs.map V.bl) ∧ Q (.bl (bs.all id)) H) := by
 intro pins s σ H xs us Q I r h
 obtain ⟨p, bs, rfl, hq, q⟩ := h
 obtain ⟨u, rfl, rx⟩ := vals1 r
 cases rx
 obtain ⟨its, rv, pl, hz⟩ := I.list hq
 have hne : p ≠ s.heap.objs.size := by
  obtain ⟨o, n, e, _⟩ := pl
  exact Nat.ne_of_lt (Heap.lt_size e)
 have hl := rv.length
 rw [List.length_map] at hl
 refine call_all_walk (wpAny_pyIter_list pl.isList ⟨s.heap.objs.size, _, _, _, _, _, fun i => (bs[i]?).getD false, rfl, Walks.list (A := X.A.in1) (show X.A.in1.handled = none from I.ok.hd hc) s.heap.objs.size p hne its.toArray,
  ⟨⟨_, Heap.get?_push_size _ rfl, rfl, rfl⟩, pl.isList.at fun o e => Heap.get?_push_of_some _ e⟩, fun i v s' Q' E' hP hQ => ?_, fun h' tk hk => ?_⟩)
 ·obtain ⟨b, hb, rfl⟩ := vals_bl rv (by simpa using hP)
  dsimp only at hQ; rw [hb] at hQ
  exact wpAny_truthy_bool hQ
 ·rw [List.size_toArray, ← hl, range_all]
  refine ⟨.bl _, H, I.kept (t' := tk) fun b o e => hk b o ?_ (Heap.get?_push_of_some _ e), rfl, q⟩
  intro z
  rw [List.mem_singleton] at z
  exact absurd (Heap.lt_size e) (by rw [z]; exact Nat.lt_irrefl _)
theorem RepL.bls {M : Addr → Prop} {H : Hp} : ∀ {vs : List V} {bs : List Bool}, RepL M H vs (bs.map PyData.bool) → vs = bs.map V.bl
 | _, [], .nil => rfl
 | _, b :: bs, .cons q t => by cases q; rw [List.map_cons, ← RepL.bls t]
theorem boot_allW : bootBuiltins "all" = some (.builtin "all") := by decide +kernel
theorem boot_listW : bootBuiltins "list" = some (.type "list") := by decide +kernel
theorem boot_tupleW : bootBuiltins "tuple" = some (.type "tuple") := by decide +kernel
theorem boot_intW : bootBuiltins "int" = some (.type "int") := by decide +kernel
theorem boot_boolW : bootBuiltins "bool" = some (.type "bool") := by decide +kernel
end
section
variable {X : Cx} {Γ : Ge} {tg iter a b : Expr} {ds : List PyData} {p pos : Pos}
noncomputable def rangeD (n : Nat) : List PyData := (List.range n).map fun (i : Nat) => PyData.int (i : Int)
theorem rangeD_length (n : Nat) : (rangeD n).length = n := by simp [rangeD]
theorem rangeD_get {n i : Nat} {d : PyData} (h : (rangeD n)[i]? = some d) : i < n ∧ d = .int (i : Int) := by
 unfold rangeD at h
 rw [List.getElem?_map] at h
 have hi : i < n := by
  cases e : (List.range n)[i]? with
  | none => rw [e] at h; cases h
  | some j => simpa using (List.getElem?_eq_some_iff.mp e).1
 rw [List.getElem?_range hi] at h
 exact ⟨hi, (Option.some.inj h).symm⟩
end
noncomputable def wpGs (X : Cx) (ts : List Expr) : TGs := fun vs σ H Q => ∀ (pins : List (Addr × Obj)) (s : Shared) (us : List Value), Inv X pins σ H s → Vals vs us →
  wpAny (model X.prog X.w) X.A (assignInOrder ((assignEach ts X.env).map (·.2)) us) (fun _ s' => ∃ σ' H', Inv X pins σ' H' s' ∧ Q σ' H') X.xe s
theorem pgs_self {X : Cx} {ts : List Expr} : PGs X ts (wpGs X ts) := fun pins s σ H vs us Q I r h => h pins s us I r
theorem PGs.wp {X : Cx} {ts : List Expr} {t : TGs} {vs : List V} {σ : St} {H : Hp} {Q : St → Hp → Prop} (h : PGs X ts t) (q : t vs σ H Q) : wpGs X ts vs σ H Q := fun pins s us I r => h pins s σ H vs us Q I r q
section
variable {X : Cx} {k : Nat} {Γ Γ1 Γ2 : Ge} {tg : Expr} {ts : List Expr} {d : PyData} {ds : List PyData} {pos : Pos}
end
theorem cS_get {k : Nat} {ix : List Nat} {σ : St} {j i0 : Nat} {v : V} (q : ix[j]? = some i0) (h : σ[i0]? = some (some v)) : (cS k ix σ)[k + j]? = some (some v) := by
 unfold cS
 rw [List.getElem?_append_right (by simp), List.length_replicate, Nat.add_sub_cancel_left, List.getElem?_map, q]
 simp [h]
section
variable {X : Cx} {elt tg iter : Expr} {ifs : List Expr} {scope : Scope} {pos : Pos} {N' : List Str} {k : Nat} {ix : List Nat} {Γ : Ge} {ds : List PyData} {M : Addr → Prop} {σ : St} {H : Hp} {Q : VK}
noncomputable def gU (X : Cx) (N' : List Str) (scope : Scope) (tg : Expr) : TG := fun v σ H Q => ∀ cl C s2 H2 fp, wpG (X.comp N' scope cl C s2 H2 fp) tg v σ H Q
noncomputable def fU (X : Cx) (N' : List Str) (scope : Scope) (ifs : List Expr) : TT := fun σ H Q => ∀ cl C s2 H2 fp, wpF (X.comp N' scope cl C s2 H2 fp) ifs σ H Q
noncomputable def eU (X : Cx) (N' : List Str) (scope : Scope) (elt : Expr) : TE := fun σ H Q => ∀ cl C s2 H2 fp, wpE (X.comp N' scope cl C s2 H2 fp) elt σ H Q
theorem pe_compU (hcalm : X.calm = true) (S : CSc X.env.scope X.N scope N' k ix) (hf : ∀ x, foldedSetIterable iter X.env x = pure x := by intro _; rfl) :
    PE X (.ListComp elt [⟨tg, iter, ifs, 0⟩] scope pos) (tComp k ix (wpI X tg iter) (gU X N' scope tg) (fU X N' scope ifs) (eU X N' scope elt)) :=
  pe_comp hcalm S pi_self (fun cl C s2 H2 fp pins s σ H v u Q I r h => h cl C s2 H2 fp pins s u I r) (fun cl C s2 H2 fp pins s σ H Q I h => h cl C s2 H2 fp pins s I)
    (fun cl C s2 H2 fp pins s σ H Q I h => h cl C s2 H2 fp pins s I) hf
theorem ps_setU {i : Nat} {x : Str} {pos' spos : Pos} (hN : X.N.Nodup) (hi' : X.N[i]? = some x) (hx : Loc X.env.scope x) (hcalm : X.calm = true) (S : CSc X.env.scope X.N scope N' k ix)
  (hsw : swapsWith (.ListComp elt [⟨tg, iter, ifs, 0⟩] scope pos) (some (.Name x pos')) spos.line X.env = pure true) (hs : ∀ x, foldedSetIterable iter X.env x = pure x := by intro _; rfl)
  (hf : X.fn x = true ∨ X.env.scope.names.lookup x = some .local := by first | exact .inl rfl | exact .inr rfl | assumption) :
  PS X (.Assign [.Name x pos'] (.ListComp elt [⟨tg, iter, ifs, 0⟩] scope pos) spos) (tAsg (tComp k ix (wpI X tg iter) (gU X N' scope tg) (fU X N' scope ifs) (eU X N' scope elt)) (gName i)) :=
 ps_setC hN hi' hx hcalm S pi_self (fun cl C s2 H2 fp pins s σ H v u Q I r h => h cl C s2 H2 fp pins s u I r) (fun cl C s2 H2 fp pins s σ H Q I h => h cl C s2 H2 fp pins s I)
  (fun cl C s2 H2 fp pins s σ H Q I h => h cl C s2 H2 fp pins s I) hsw hs hf
end
inductive Out where
 | next (Γ : Ge)
 | ret (d : PyData)
 | new (ds : List PyData)
section
variable {X : Cx} {Γ Γ1 : Ge} {st : Stmt} {sts body els : List Stmt} {o : Out} {d : PyData} {e c tg : Expr} {pos : Pos}
end
structure Kn (P : Program) (w : World) (K : PySem.W.Frag) (mg : Str → Option Value) (base : Heap) (CX : CXT) (x : Str) (k : Nat) (sp : Sp) : Prop where
 ex : ∃ (f : Addr) (fd : FuncData) (ps : List Str), FnOk P w K mg base CX k f fd ps sp ∧ mg x = some (.ref f) ∧ PySem.W.keepIn K (.ref f) = true ∧ Binds K fd ps []
section
variable {X : Cx} {Γ : Ge} {x : Str} {k : Nat} {CX : CXT} {E : XK} {n : Nat} {pre : List PyData → Prop} {e : Expr} {es : List Expr} {ds : List PyData} {p pos : Pos}
theorem wp_call {sp : Sp} {σ : St} {H : Hp} {Q : VK} (kn : Kn X.prog X.w X.K X.mg X.base CX x k sp) (hr : Room k X.A) (hg : Gl X x) (hx : Passes CX X E) (h : wpA X (e :: es) σ H fun vs H1 => sp vs H1 Q E) (hdb : (x == ("__debug__" : Str)) = false := by decide)
    (he : starEach (e :: es) X.env = (false, eval e X.env) :: starEach es X.env := by rfl) (hpl : (backTo pos (starEach es X.env)).any (·.1) = false := by rfl) : wpE X (.Call (.Name x p) (e :: es) [] pos) σ H Q := by
  obtain ⟨f, fd, ps, F, hm, hk, hb⟩ := kn.ex
  refine (pe_call F hr hg hm hk hb .nil hx pa_self hdb he hpl).wp (h.mono fun vs H1 q => ?_)
  show sp (vs ++ []) H1 Q E
  rw [List.append_nil]; exact q
end
theorem start_length {N : List Str} {vs : List V} (h : vs.length ≤ N.length) : (start N vs).length = N.length := by
 unfold start; simp; omega
structure Df (K : PySem.W.Frag) (mg : Str → Option Value) (x : Str) (st : Stmt) (ps : List Str) : Prop where
 ex : ∃ f fd, Fun K x x st f fd ∧ mg x = some (.ref f) ∧ Binds K fd ps []
section
variable {P : Program} {w : World} {K : PySem.W.Frag} {mg : Str → Option Value} {base : Heap} {x : Str} {st : Stmt} {N ps : List Str} {k : Nat}
theorem Df.kn {sp : Sp} (D : Df K mg x st ps) (S : FnScope N ps (defScope st)) (len : ∀ vs H Q E, sp vs H Q E → vs.length = ps.length)
  (hbody : ∀ (f : Addr) (cdv : Value) (A : Around) (outer : List Env) (s : Shared) (H : Hp) (vs : List V) (Q : VK) (E : XK), Room k (A.deeper (envOfC x (defScope st) s.heap.objs.size f cdv)) → sp vs H Q E →
   wpB (cxOf CX0 P w K mg base N x (defScope st) f cdv A outer s H E).nox (defBody st) { nx := fun _ H' => Q .non H', rt := Q } (start N vs) H) : Kn P w K mg base CX0 x (k + 1) sp := by
 obtain ⟨f, fd, F, hm, hb⟩ := D.ex
 exact ⟨f, fd, ps, F.ok S len (fun cdv A outer s H vs Q E hr h => ⟨_, pss_self, hbody f cdv A outer s H vs Q E hr h⟩), hm, F.kp, hb⟩
end
section
variable {X : Cx} {M : Addr → Prop} {Γ Γ1 : Ge} {σ : St} {H : Hp} {D : Ends} {st : Stmt} {sts body els : List Stmt} {o : Out} {d : PyData} {e c tg : Expr} {pos pos' : Pos} {x : Str}
theorem wb_wp (i : Nat) {Q : VK} (hN : X.N.Nodup) (h : wpE X e σ H Q) (k : ∀ v H', Q v H' → wpB X sts D (σ.set i (some v)) H') (hi : X.N[i]? = some x := by rfl) (hx : Loc X.env.scope x := by first | exact Or.inl rfl | exact Or.inr rfl) (hs : swapsWith e (some (.Name x pos')) pos.line X.env = pure false := by rfl)
    (hf : X.fn x = true ∨ X.env.scope.names.lookup x = some .local := by first | exact .inl rfl | exact .inr rfl | assumption) : wpB X (.Assign [.Name x pos'] e pos :: sts) D σ H :=
  (pss_cons (ps_set hN hi hx pe_self hs hf) pss_self).wp (h.mono k)
end
section
variable {X : Cx} {M : Addr → Prop} {Γ Γ1 : Ge} {σ : St} {H : Hp} {D : Ends} {sts : List Stmt} {e : Expr} {ds : List PyData} {d : PyData} {pos pos' : Pos} {x : Str}
end
mutual
/-- no list within -/
noncomputable def noL : PyData → Bool
 | .list _ => false
 | .tuple ds => noLs ds
 | .dict _ => false
 | _ => true
noncomputable def noLs : List PyData → Bool
 | [] => true
 | d :: ds => noL d && noLs ds
end
mutual
theorem Rep.free {M M' : Addr → Prop} {H : Hp} : ∀ {v : V} {d : PyData}, noL d = true → Rep M H v d → Rep M' H v d
 | _, _, _, .none => .none
 | _, _, _, .bool b => .bool b
 | _, _, _, .int i => .int i
 | _, _, _, .str x => .str x
 | _, _, h, .list e n r => by simp [noL] at h
 | _, _, h, .tuple e r => .tuple e (RepL.free (by simpa [noL] using h) r)
theorem RepL.free {M M' : Addr → Prop} {H : Hp} : ∀ {vs : List V} {ds : List PyData}, noLs ds = true → RepL M H vs ds → RepL M' H vs ds
 | _, _, _, .nil => .nil
 | _, _, h, .cons r t => by
  rw [noLs, Bool.and_eq_true] at h
  exact .cons (Rep.free h.1 r) (RepL.free h.2 t)
end
section
variable {X : Cx} {M : Addr → Prop} {Γ Γ1 : Ge} {σ : St} {H : Hp} {D : Ends} {sts : List Stmt} {e : Expr} {ds : List PyData} {d : PyData} {pos pos' p2 p3 : Pos} {x : Str} {l : Addr} {vs : List V}
end
theorem Df.of {K : PySem.W.Frag} {mg : Str → Option Value} {h : Heap} {x : Str} {st : Stmt} {ps : List Str} {f : Addr} {oc : Value} {od an : Option Addr} {sl : Array (Option Value)} {kV dc pm cd ct : Value} (X : K.In h) (G : h.Ns mainGlobals mg)
  (a : PySem.W.nsIn K mainGlobals x = some (some (.ref f))) (l : K.lookup f = some ⟨oc, od, .func (PySem.W.fnOf x x (defArgs st) (defBody st) (defScope st) .none kV dc pm an cd ct), sl⟩) (c : PySem.W.codeIn K cd x = true) (k : PySem.W.keepIn K (.ref f) = true)
  (hb : ∀ (kV doc pm : Value) (an : Option Addr) (cdv ct : Value) (us : List Value), us.length = ps.length → bindArgs (PySem.W.fnOf x x (defArgs st) (defBody st) (defScope st) .none kV doc pm an cdv ct) ⟨us, []⟩ = pure (ps.zip us)) : Df K mg x st ps :=
 ⟨f, _, fun_mk (st := st) l c k, PySem.W.mg_of X G a, (fun_mk (st := st) l c k).binds hb⟩
structure Dl (K : PySem.W.Frag) (x : Str) (st : Stmt) (fa : Addr) (p : Str) : Prop where
 ex : ∃ fd : FuncData, Fun K x x st fa fd ∧ ∀ (s : Shared) (u : Value), BindsTo s fd ⟨[u], []⟩ [(p, u)]
theorem Dl.of {K : PySem.W.Frag} {mg : Str → Option Value} {h : Heap} {x p : Str} {st : Stmt} {f fa : Addr} {oc : Value} {od an : Option Addr} {sl : Array (Option Value)} {kV dc pm cd ct : Value} (X : K.In h) (G : h.Ns mainGlobals mg) (hfa : mg x = some (.ref fa))
  (a : PySem.W.nsIn K mainGlobals x = some (some (.ref f))) (l : K.lookup f = some ⟨oc, od, .func (PySem.W.fnOf x x (defArgs st) (defBody st) (defScope st) .none kV dc pm an cd ct), sl⟩) (c : PySem.W.codeIn K cd x = true) (k : PySem.W.keepIn K (.ref f) = true)
  (hb : ∀ (s : Shared) (u : Value), BindsTo s (PySem.W.fnOf x x (defArgs st) (defBody st) (defScope st) .none kV dc pm an cd ct) ⟨[u], []⟩ [(p, u)]) : Dl K x st fa p := by
 have e := hfa.symm.trans (PySem.W.mg_of X G a)
 cases e
 exact ⟨_, fun_mk (st := st) l c k, hb⟩
noncomputable def spLaw (K : PySem.W.Frag) : Sp := fun vs H Q _ => ∃ (a : Addr) (ns : List Int), vs = [.ref a] ∧ SqL K H a (ns.map V.int) ∧ ns.length ≤ 63 ∧ ∀ H', Q (.bl true) H'
theorem Fun.law {P : Program} {w : World} {K : PySem.W.Frag} {mg : Str → Option Value} {base : Heap} {x p : Str} {st : Stmt} {N : List Str} {k : Nat} {f : Addr} {fd : FuncData} (F : Fun K x x st f fd) (S : FnScope N [p] (defScope st))
  (hbody : ∀ (cdv : Value) (A : Around) (outer : List Env) (s : Shared) (H : Hp) (Q : VK) (E : XK) (a : Addr) (ns : List Int), Room k (A.deeper (envOfC x (defScope st) s.heap.objs.size f cdv)) → SqL K H a (ns.map V.int) → ns.length ≤ 63 → (∀ H', Q (.bl true) H') →
   wpB (cxOf CX0 P w K mg base N x (defScope st) f cdv A outer s H E).nox (defBody st) { nx := fun _ H' => Q .non H', rt := Q } (start N [.ref a]) H) : FnOk P w K mg base CX0 (k + 1) f fd [p] (spLaw K) :=
 F.ok S (fun vs H Q E ⟨a, ns, e, _⟩ => by rw [e]; rfl) fun cdv A outer s H vs Q E hr ⟨a, ns, e, hS, hlen, kk⟩ => ⟨_, pss_self, by subst e; exact hbody cdv A outer s H Q E a ns hr hS hlen kk⟩
theorem walkL {l : PySem.W.OpenLaw} {q : Program} {loose : List Str} {XP : (Str → Option Value) → Heap → Prop} {YP : World → Heap → Prop} {d : DefRec} {K : Params → PySem.W.Frag} {k : Nat} {st : Stmt} (hn : l.most = some 63) (hdf : d.params.defaults = []) (hk : Room k callerA)
  (hY : ∀ (w : World) (h : Heap), YP w h → (K w.params).In h)
  (F : ∀ (w : World) (mg : Str → Option Value) (fa : Addr) (h : Heap), (K w.params).In h → h.Ns mainGlobals mg → mg d.name = some (.ref fa) →
   Dl (K w.params) "law" st fa "_law_script" ∧ ∀ (fd : FuncData), Fun (K w.params) "law" "law" st fa fd → ∀ base : Heap, FnOk l.prog w (K w.params) mg base CX0 k fa fd ["_law_script"] (spLaw (K w.params))) :
  PySem.W.WalkO q loose XP YP l.row.toRowW d [] (fun f vs => PySem.call f vs) :=
 L2.walk_of (n := 63) (k := k) (x := "_law_script") (CX := fun _ => CX0) (sp := fun w => spLaw (K w.params)) hn (by decide) hdf hk hY (fun w mg fa h KX G hm => by
  obtain ⟨⟨fd, Ff, hb⟩, hF⟩ := F w mg fa h KX G hm
  exact ⟨fd, hb, fun base _ _ => hF fd Ff base⟩) (fun _ _ a ns hl _ hS => ⟨a, ns, rfl, hS, hl, fun _ => rfl⟩) fun _ _ _ _ _ z => z
end L2
namespace L3
open PySem PySem.Spec PyProof.Rows L2
inductive OV where
 | d (x : PyData)
 | l (xs : List OV)
 | t (xs : List OV)
noncomputable abbrev Gv := List (Option OV)
mutual
noncomputable def OV.view : OV → PyData
 | .d x => x
 | .l xs => .list (OV.views xs)
 | .t xs => .tuple (OV.views xs)
noncomputable def OV.views : List OV → List PyData
 | [] => []
 | x :: xs => x.view :: OV.views xs
end
theorem OV.views_map (xs : List OV) : OV.views xs = xs.map OV.view := by
 induction xs with
 | nil => rfl
 | cons x xs ih => simp [OV.views, ih]
mutual
/-- v stands for the value; its own lists lie at A -/
inductive OR (M : Addr → Prop) (H : Hp) : V → OV → List Addr → Prop
 | d {v : V} {x : PyData} : Rep M H v x → OR M H v (.d x) []
 | l {a : Addr} {vs : List V} {xs : List OV} {A : List Addr} : H a = some (.lst vs) → ORL M H vs xs A → OR M H (.ref a) (.l xs) (a :: A)
 | t {a : Addr} {vs : List V} {xs : List OV} {A : List Addr} : H a = some (.tup vs) → ORL M H vs xs A → OR M H (.ref a) (.t xs) A
inductive ORL (M : Addr → Prop) (H : Hp) : List V → List OV → List Addr → Prop
 | nil : ORL M H [] [] []
 | cons {v : V} {vs : List V} {x : OV} {xs : List OV} {A B : List Addr} : OR M H v x A → ORL M H vs xs B → ORL M H (v :: vs) (x :: xs) (A ++ B)
end
noncomputable abbrev Nothing : Addr → Prop := fun _ => False
mutual
theorem OR.go {M M' : Addr → Prop} {H H' : Hp} (hr : ∀ v d, Rep M H v d → Rep M' H' v d) (ht : ∀ b xs, H b = some (.tup xs) → H' b = some (.tup xs)) : ∀ {v : V} {o : OV} {A : List Addr}, (∀ a ∈ A, H' a = H a) → OR M H v o A → OR M' H' v o A
 | _, _, _, _, .d r => .d (hr _ _ r)
 | _, _, _, h, .l e r => .l (by rw [h _ List.mem_cons_self]; exact e) (ORL.go hr ht (fun a ha => h a (List.mem_cons_of_mem _ ha)) r)
 | _, _, _, h, .t e r => .t (ht _ _ e) (ORL.go hr ht h r)
theorem ORL.go {M M' : Addr → Prop} {H H' : Hp} (hr : ∀ v d, Rep M H v d → Rep M' H' v d) (ht : ∀ b xs, H b = some (.tup xs) → H' b = some (.tup xs)) : ∀ {v : List V} {o : List OV} {A : List Addr}, (∀ a ∈ A, H' a = H a) → ORL M H v o A → ORL M' H' v o A
 | _, _, _, _, .nil => .nil
 | _, _, _, h, .cons r t =>   .cons (OR.go hr ht (fun a ha => h a (List.mem_append_left _ ha)) r) (ORL.go hr ht (fun a ha => h a (List.mem_append_right _ ha)) t)
end
mutual
/-- given up: it is data from now on -/
theorem OR.rep {M M' : Addr → Prop} {H : Hp} (hm : ∀ b, M' b → M b) : ∀ {v : V} {o : OV} {A : List Addr}, (∀ a ∈ A, ¬ M' a) → OR M H v o A → Rep M' H v o.view
 | _, _, _, _, .d r => r.less fun b hb _ => hm b hb
 | _, _, _, h, .l e r => .list e (h _ List.mem_cons_self) (ORL.rep hm (fun a ha => h a (List.mem_cons_of_mem _ ha)) r)
 | _, _, _, h, .t e r => .tuple e (ORL.rep hm h r)
theorem ORL.rep {M M' : Addr → Prop} {H : Hp} (hm : ∀ b, M' b → M b) : ∀ {v : List V} {o : List OV} {A : List Addr}, (∀ a ∈ A, ¬ M' a) → ORL M H v o A → RepL M' H v (OV.views o)
 | _, _, _, _, .nil => .nil
 | _, _, _, h, .cons r t => .cons (OR.rep hm (fun a ha => h a (List.mem_append_left _ ha)) r) (ORL.rep hm (fun a ha => h a (List.mem_append_right _ ha)) t)
end
theorem OR.weak {M : Addr → Prop} {H : Hp} {v : V} {o : OV} {A : List Addr} (r : OR M H v o A) : Rep Nothing H v o.view := r.rep (fun _ h => h.elim) fun _ _ h => h
mutual
theorem OR.laid {M : Addr → Prop} {H : Hp} : ∀ {v : V} {o : OV} {A : List Addr}, OR M H v o A → ∀ a ∈ A, ∃ vs, H a = some (.lst vs)
 | _, _, _, .d _, a, h => by cases h
 | _, _, _, .l e r, a, h => by
  rcases List.mem_cons.mp h with rfl | h
  ·exact ⟨_, e⟩
  ·exact ORL.laid r a h
 | _, _, _, .t e r, a, h => ORL.laid r a h
theorem ORL.laid {M : Addr → Prop} {H : Hp} : ∀ {v : List V} {o : List OV} {A : List Addr}, ORL M H v o A → ∀ a ∈ A, ∃ vs, H a = some (.lst vs)
 | _, _, _, .nil, a, h => by cases h
 | _, _, _, .cons r t, a, h => by
  rcases List.mem_append.mp h with h | h
  ·exact OR.laid r a h
  ·exact ORL.laid t a h
end
theorem ORL.length {M : Addr → Prop} {H : Hp} : ∀ {vs : List V} {os : List OV} {A : List Addr}, ORL M H vs os A → vs.length = os.length
 | _, _, _, .nil => rfl
 | _, _, _, .cons _ t => by rw [List.length_cons, List.length_cons, ORL.length t]
theorem ORL.data {M : Addr → Prop} {H : Hp} : ∀ {vs : List V} {ds : List PyData}, RepL M H vs ds → ORL M H vs (ds.map .d) []
 | _, _, .nil => .nil
 | _, _, .cons r t => .cons (A := []) (.d r) (ORL.data t)
noncomputable abbrev Fp := Nat → List Addr
noncomputable def fset (F : Fp) (i : Nat) (A : List Addr) : Fp := fun j => if j = i then A else F j
theorem fset_same {F : Fp} {i : Nat} {A : List Addr} : fset F i A i = A := by unfold fset; rw [if_pos rfl]
theorem fset_ne {F : Fp} {i j : Nat} {A : List Addr} (h : j ≠ i) : fset F i A j = F j := by unfold fset; rw [if_neg h]
noncomputable def MM (M0 : Addr → Prop) (F : Fp) : Addr → Prop := fun a => M0 a ∨ ∃ i, a ∈ F i
noncomputable abbrev Nu := List (Option V)
structure RS (M0 : Addr → Prop) (F : Fp) (Γ : Gv) (ν : Nu) (H : Hp) : Prop where
 al0 : ∀ a, M0 a → H a ≠ none
 dis0 : ∀ i a, a ∈ F i → ¬ M0 a
 nd : ∀ i, (F i).Nodup
 dis : ∀ i j a, a ∈ F i → a ∈ F j → i = j
 at' : ∀ i o, Γ[i]? = some (some o) → ∃ v, ν[i]? = some (some v) ∧ OR (MM M0 F) H v o (F i)
 emp : ∀ i, (∀ o, Γ[i]? ≠ some (some o)) → F i = []
 len : ν.length = Γ.length
structure Stp (F : Fp) (H : Hp) (F' : Fp) (H' : Hp) : Prop where
 keep : ∀ b o, H b = some o → (∀ i, b ∉ F i) → H' b = some o ∧ ∀ i, b ∉ F' i
 tups : ∀ b xs, H b = some (.tup xs) → H' b = some (.tup xs)
 stay : ∀ b, H b ≠ none → H' b ≠ none
theorem Stp.refl (F : Fp) (H : Hp) : Stp F H F H := ⟨fun _ _ e n => ⟨e, n⟩, fun _ _ e => e, fun _ h => h⟩
theorem Stp.trans {F F1 F2 : Fp} {H H1 H2 : Hp} (a : Stp F H F1 H1) (b : Stp F1 H1 F2 H2) : Stp F H F2 H2 :=
 ⟨fun c o e n => let ⟨e1, n1⟩ := a.keep c o e n; b.keep c o e1 n1, fun c xs e => b.tups c xs (a.tups c xs e), fun c h => b.stay c (a.stay c h)⟩
theorem Stp.same {F : Fp} {H H' : Hp} (s : Same H H') : Stp F H F H' := ⟨fun b o e n => ⟨s b o e, n⟩, fun b xs e => s b _ e, fun b h => by
 cases q : H b with
 | none => exact absurd q h
 | some o => rw [s b o q]; exact fun z => nomatch z⟩
theorem Stp.free {F F' : Fp} {H H' : Hp} (s : Stp F H F' H') {a : Addr} (n : H' a = none) : H a = none := by
 cases q : H a with
 | none => rfl
 | some o => exact absurd n (s.stay a (by rw [q]; exact fun z => nomatch z))
section
variable {M0 : Addr → Prop} {F F' : Fp} {Γ Γ' : Gv} {ν ν' : Nu} {H H' : Hp}
theorem RS.laidF (r : RS M0 F Γ ν H) {i : Nat} {a : Addr} (h : a ∈ F i) : ∃ vs, H a = some (.lst vs) := by
 by_cases q : ∃ o, Γ[i]? = some (some o)
 ·obtain ⟨o, q⟩ := q
  obtain ⟨v, _, z⟩ := r.at' i o q
  exact z.laid a h
 ·rw [r.emp i fun o e => q ⟨o, e⟩] at h; cases h
theorem RS.al (r : RS M0 F Γ ν H) : Al (MM M0 F) H := fun a h => by
 rcases h with h | ⟨i, h⟩
 ·exact r.al0 a h
 ·obtain ⟨vs, e⟩ := r.laidF h
  rw [e]; exact fun z => nomatch z
mutual
/-- data goes through a step -/
theorem rep_stp (s : Stp F H F' H') (h0 : ∀ a, M0 a → H a ≠ none) : ∀ {v : V} {d : PyData}, Rep (MM M0 F) H v d → Rep (MM M0 F') H' v d
 | _, _, .none => .none
 | _, _, .bool b => .bool b
 | _, _, .int i => .int i
 | _, _, .str x => .str x
 | _, _, .list (a := a) e n q => by
  have hn : ∀ i, a ∉ F i := fun i h => n (.inr ⟨i, h⟩)
  obtain ⟨e', n'⟩ := s.keep a _ e hn
  refine .list e' ?_ (repL_stp s h0 q)
  rintro (h | ⟨i, h⟩)
  ·exact n (.inl h)
  ·exact n' i h
 | _, _, .tuple e q => .tuple (s.tups _ _ e) (repL_stp s h0 q)
theorem repL_stp (s : Stp F H F' H') (h0 : ∀ a, M0 a → H a ≠ none) : ∀ {vs : List V} {ds : List PyData}, RepL (MM M0 F) H vs ds → RepL (MM M0 F') H' vs ds
 | _, _, .nil => .nil
 | _, _, .cons r t => .cons (rep_stp s h0 r) (repL_stp s h0 t)
end
theorem RS.same (r : RS M0 F Γ ν H) (s : Same H H') : RS M0 F Γ ν H' where
 al0 a h := by
  have := r.al0 a h
  cases q : H a with
  | none => exact absurd q this
  | some o => rw [s a o q]; exact fun z => nomatch z
 dis0 := r.dis0
 nd := r.nd
 dis := r.dis
 at' i o e := by
  obtain ⟨v, e1, q⟩ := r.at' i o e
  exact ⟨v, e1, q.go (fun v d x => x.grow s.grow) (fun b xs e => s b _ e) fun a ha => by
   obtain ⟨vs, z⟩ := q.laid a ha
   rw [z, s a _ z]⟩
 emp := r.emp
 len := r.len
theorem RS.put {i : Nat} {o : OV} {v : V} {A : List Addr} (r : RS M0 F Γ ν H) (s : Stp F H (fset F i A) H') (hF : ∀ j, j ≠ i → ∀ a ∈ F j, H' a = H a)
  (hm : ∀ a, M0 a → H' a ≠ none) (hA0 : ∀ a ∈ A, ¬ M0 a) (hAn : A.Nodup) (hAd : ∀ j, j ≠ i → ∀ a ∈ A, a ∉ F j) (hi : i < Γ.length)
  (q : OR (MM M0 (fset F i A)) H' v o A) : RS M0 (fset F i A) (Γ.set i (some o)) (ν.set i (some v)) H' where
 al0 := hm
 dis0 j a h := by
  by_cases hj : j = i
  ·subst hj; rw [fset_same] at h; exact hA0 a h
  ·rw [fset_ne hj] at h; exact r.dis0 j a h
 nd j := by
  by_cases hj : j = i
  ·subst hj; rw [fset_same]; exact hAn
  ·rw [fset_ne hj]; exact r.nd j
 dis j k a h1 h2 := by
  by_cases hj : j = i
  ·by_cases hk : k = i
   ·rw [hj, hk]
   ·subst hj; rw [fset_same] at h1; rw [fset_ne hk] at h2; exact absurd h2 (hAd k hk a h1)
  ·by_cases hk : k = i
   ·subst hk; rw [fset_same] at h2; rw [fset_ne hj] at h1; exact absurd h1 (hAd j hj a h2)
   ·rw [fset_ne hj] at h1; rw [fset_ne hk] at h2; exact r.dis j k a h1 h2
 at' j p e := by
  by_cases hj : j = i
  ·subst hj
   rw [List.getElem?_set_self hi] at e
   cases e
   refine ⟨v, by rw [List.getElem?_set_self (by rw [r.len]; exact hi)], ?_⟩
   rw [fset_same]; exact q
  ·rw [List.getElem?_set_ne (Ne.symm hj)] at e ⊢
   obtain ⟨u, e1, z⟩ := r.at' j p e
   refine ⟨u, e1, ?_⟩
   rw [fset_ne hj]
   exact z.go (fun v d x => rep_stp s r.al0 x) s.tups (hF j hj)
 emp j h := by
  by_cases hj : j = i
  ·subst hj
   rw [List.getElem?_set_self hi] at h
   exact absurd rfl (h o)
  ·rw [fset_ne hj]
   refine r.emp j fun p e => h p ?_
   rw [List.getElem?_set_ne (Ne.symm hj)]; exact e
 len := by rw [List.length_set, List.length_set]; exact r.len
theorem RS.setD {i : Nat} {d : PyData} {v : V} (r : RS M0 F Γ ν H) (q : Rep (MM M0 F) H v d) (hi : i < Γ.length) : ∃ F', RS M0 F' (Γ.set i (some (.d d))) (ν.set i (some v)) H ∧ Stp F H F' H := by
 have s : Stp F H (fset F i []) H := ⟨fun b o e n => ⟨e, fun j => by
  by_cases hj : j = i
  ·subst hj; rw [fset_same]; exact fun z => nomatch z
  ·rw [fset_ne hj]; exact n j⟩, fun _ _ e => e, fun _ h => h⟩
 exact ⟨_, r.put s (fun _ _ _ _ => rfl) r.al0 (fun _ h => nomatch h) .nil (fun _ _ _ h => nomatch h) hi (.d (rep_stp s r.al0 q)), s⟩
noncomputable def fcut (F : Fp) (n : Nat) : Fp := fun j => if j < n then F j else []
theorem fcut_lt {n j : Nat} (h : j < n) : fcut F n j = F j := by unfold fcut; rw [if_pos h]
theorem fcut_ge {n j : Nat} (h : ¬ j < n) : fcut F n j = [] := by unfold fcut; rw [if_neg h]
theorem fcut_sub {n j : Nat} {a : Addr} (h : a ∈ fcut F n j) : j < n ∧ a ∈ F j := by
 unfold fcut at h
 split at h
 ·exact ⟨by assumption, h⟩
 ·cases h
theorem stp_sub (h : ∀ j a, a ∈ F' j → ∃ k, a ∈ F k) : Stp F H F' H := ⟨fun b o e n => ⟨e, fun j hj => let ⟨k, hk⟩ := h j b hj; n k hk⟩, fun _ _ e => e, fun _ h => h⟩
theorem RS.cut (r : RS M0 F Γ ν H) (n : Nat) : RS M0 (fcut F n) (Γ.take n) (ν.take n) H ∧ Stp F H (fcut F n) H := by
 have s : Stp F H (fcut F n) H := stp_sub fun j a h => ⟨j, (fcut_sub h).2⟩
 refine ⟨⟨r.al0, fun j a h => r.dis0 j a (fcut_sub h).2, fun j => ?_, fun j k a h1 h2 => r.dis j k a (fcut_sub h1).2 (fcut_sub h2).2, fun j o e => ?_, fun j h => ?_, ?_⟩, s⟩
 ·by_cases hj : j < n
  ·rw [fcut_lt hj]; exact r.nd j
  ·rw [fcut_ge hj]; exact .nil
 ·have hj : j < n := by
   by_cases hj : j < n
   ·exact hj
   ·rw [List.getElem?_eq_none (by rw [List.length_take]; omega)] at e; cases e
  rw [List.getElem?_take_of_lt hj] at e ⊢
  obtain ⟨v, e1, q⟩ := r.at' j o e
  exact ⟨v, e1, by rw [fcut_lt hj]; exact q.go (fun _ _ x => rep_stp s r.al0 x) s.tups fun _ _ => rfl⟩
 ·by_cases hj : j < n
  ·rw [fcut_lt hj]
   refine r.emp j fun o e => h o ?_
   rw [List.getElem?_take_of_lt hj]; exact e
  ·exact fcut_ge hj
 ·rw [List.length_take, List.length_take, r.len]
theorem RS.ext (r : RS M0 F Γ ν H) (k : Nat) : RS M0 F (Γ ++ List.replicate k none) (ν ++ List.replicate k none) H := by
 have get : ∀ {α : Type} (l : List (Option α)) (j : Nat) (o : α), (l ++ List.replicate k none)[j]? = some (some o) → l[j]? = some (some o) := fun {α} l j o e => by
  by_cases hj : j < l.length
  ·rw [List.getElem?_append_left hj] at e; exact e
  ·rw [List.getElem?_append_right (by omega), List.getElem?_replicate] at e
   split at e <;> cases e
 have put : ∀ {α : Type} (l : List (Option α)) (j : Nat) (o : α), l[j]? = some (some o) → (l ++ List.replicate k none)[j]? = some (some o) := fun {α} l j o e => by
  rw [List.getElem?_append_left (List.getElem?_eq_some_iff.mp e).1]; exact e
 exact ⟨r.al0, r.dis0, r.nd, r.dis, fun j o e => let ⟨v, e1, q⟩ := r.at' j o (get _ _ _ e); ⟨v, put _ _ _ e1, q⟩, fun j h => r.emp j fun o e => h o (put _ _ _ e), by simp [r.len]⟩
theorem set_last {α : Type} (l : List (Option α)) (x : α) : (l ++ List.replicate 1 none).set l.length (some x) = l ++ [some x] := by
 rw [List.set_append_right _ _ (Nat.le_refl _)]; simp
theorem RS.newO {p : Addr} {vs : List V} {ds : List PyData} (r : RS M0 F Γ ν H) (n : H p = none) (q : RepL (MM M0 F) H vs ds) :
  RS M0 (fset F Γ.length [p]) (Γ ++ [some (.l (ds.map .d))]) (ν ++ [some (.ref p)]) (upd H p (.lst vs)) ∧ Stp F H (fset F Γ.length [p]) (upd H p (.lst vs)) := by
 have hp : ∀ i, p ∉ F i := fun i h => by
  obtain ⟨vs, e⟩ := r.laidF h
  rw [n] at e; cases e
 have he : F Γ.length = [] := r.emp _ fun o e => by
  rw [List.getElem?_eq_none (Nat.le_refl _)] at e; cases e
 have s : Stp F H (fset F Γ.length [p]) (upd H p (.lst vs)) := ⟨fun b o e nb => ⟨upd_new n b o e, fun j h => by
  by_cases hj : j = Γ.length
  ·subst hj; rw [fset_same] at h
   have e' : b = p := by simpa using h
   subst e'; rw [n] at e; cases e
  ·rw [fset_ne hj] at h; exact nb j h⟩, fun b xs e => upd_new n b _ e, fun b h => by
   by_cases e : b = p
   ·subst e; exact absurd n h
   ·rw [upd_ne e]; exact h⟩
 have r1 := (r.ext 1).put (i := Γ.length) (o := .l (ds.map .d)) (v := .ref p) (A := [p]) (H' := upd H p (.lst vs)) s (fun j _ a ha => upd_ne (fun e => hp j (by rw [← e]; exact ha)))
  (fun a h => s.stay a (r.al0 a h)) (fun a ha h => by
   have e : a = p := by simpa using ha
   subst e; exact r.al0 a h n) (List.nodup_cons.mpr ⟨(fun z => nomatch z), .nil⟩) (fun j _ a ha => by
   have e : a = p := by simpa using ha
   subst e; exact hp j) (by simp) (.l upd_same (ORL.data (repL_stp s r.al0 q)))
 rw [set_last] at r1
 have e2 : (ν ++ List.replicate 1 none).set Γ.length (some (V.ref p)) = ν ++ [some (V.ref p)] := by rw [← r.len, set_last]
 rw [e2] at r1
 exact ⟨r1, s⟩
theorem RS.move {i : Nat} {o : OV} {v : V} (r : RS M0 F (Γ ++ [some o]) (ν ++ [some v]) H) (hi : i < Γ.length) : ∃ F', RS M0 F' (Γ.set i (some o)) (ν.set i (some v)) H ∧ Stp F H F' H := by
 have hl : ν.length = Γ.length := by have := r.len; simp at this; exact this
 have hni : Γ.length ≠ i := Nat.ne_of_gt hi
 let F' : Fp := fun j => if j = i then F Γ.length else if j < Γ.length then F j else []
 have hFi : F' i = F Γ.length := by show (if i = i then _ else _) = _; rw [if_pos rfl]
 have hFj : ∀ j, j ≠ i → j < Γ.length → F' j = F j := fun j h1 h2 => by show (if j = i then _ else _) = _; rw [if_neg h1, if_pos h2]
 have hFo : ∀ j, j ≠ i → ¬ j < Γ.length → F' j = [] := fun j h1 h2 => by show (if j = i then _ else _) = _; rw [if_neg h1, if_neg h2]
 have sub : ∀ j a, a ∈ F' j → (j = i ∧ a ∈ F Γ.length) ∨ (j ≠ i ∧ j < Γ.length ∧ a ∈ F j) := fun j a h => by
  by_cases h1 : j = i
  ·subst h1; rw [hFi] at h; exact .inl ⟨rfl, h⟩
  ·by_cases h2 : j < Γ.length
   ·rw [hFj j h1 h2] at h; exact .inr ⟨h1, h2, h⟩
   ·rw [hFo j h1 h2] at h; cases h
 have s : Stp F H F' H := stp_sub fun j a h => by
  rcases sub j a h with ⟨_, h⟩ | ⟨_, _, h⟩
  ·exact ⟨_, h⟩
  ·exact ⟨_, h⟩
 refine ⟨F', ⟨r.al0, fun j a h => ?_, fun j => ?_, fun j k a h1 h2 => ?_, fun j p e => ?_, fun j h => ?_, by simp [hl]⟩, s⟩
 ·rcases sub j a h with ⟨_, h⟩ | ⟨_, _, h⟩
  ·exact r.dis0 _ a h
  ·exact r.dis0 _ a h
 ·by_cases h1 : j = i
  ·subst h1; rw [hFi]; exact r.nd _
  ·by_cases h2 : j < Γ.length
   ·rw [hFj j h1 h2]; exact r.nd _
   ·rw [hFo j h1 h2]; exact .nil
 ·rcases sub j a h1 with ⟨e1, z1⟩ | ⟨n1, l1, z1⟩
  ·rcases sub k a h2 with ⟨e2, z2⟩ | ⟨n2, l2, z2⟩
   ·rw [e1, e2]
   ·have := r.dis _ _ a z1 z2; omega
  ·rcases sub k a h2 with ⟨e2, z2⟩ | ⟨n2, l2, z2⟩
   ·have := r.dis _ _ a z1 z2; omega
   ·exact r.dis _ _ a z1 z2
 ·by_cases hj : j = i
  ·subst hj
   rw [List.getElem?_set_self hi] at e
   cases e
   obtain ⟨u, e1, q⟩ := r.at' Γ.length o (by rw [List.getElem?_append_right (Nat.le_refl _)]; simp)
   rw [List.getElem?_append_right (by omega), hl] at e1
   simp at e1
   subst e1
   refine ⟨v, by rw [List.getElem?_set_self (by omega)], ?_⟩
   rw [hFi]; exact q.go (fun _ _ x => rep_stp s r.al0 x) s.tups fun _ _ => rfl
  ·rw [List.getElem?_set_ne (Ne.symm hj)] at e ⊢
   have hjl : j < Γ.length := (List.getElem?_eq_some_iff.mp e).1
   obtain ⟨u, e1, q⟩ := r.at' j p (by rw [List.getElem?_append_left hjl]; exact e)
   rw [List.getElem?_append_left (by omega)] at e1
   exact ⟨u, e1, by rw [hFj j hj hjl]; exact q.go (fun _ _ x => rep_stp s r.al0 x) s.tups fun _ _ => rfl⟩
 ·by_cases hj : j = i
  ·subst hj; rw [List.getElem?_set_self hi] at h; exact absurd rfl (h o)
  ·by_cases h2 : j < Γ.length
   ·rw [hFj j hj h2]
    refine r.emp j fun p e => h p ?_
    rw [List.getElem?_append_left h2] at e
    rw [List.getElem?_set_ne (Ne.symm hj)]; exact e
   ·exact hFo j hj h2
theorem RS.dropD {o : OV} {v : V} (r : RS M0 F (Γ ++ [some o]) (ν ++ [some v]) H) : ∃ F', RS M0 F' Γ ν H ∧ Stp F H F' H ∧ Rep (MM M0 F') H v o.view := by
 have hl : ν.length = Γ.length := by have := r.len; simp at this; exact this
 obtain ⟨r1, s⟩ := r.cut Γ.length
 have e1 : (Γ ++ [some o]).take Γ.length = Γ := by simp
 have e2 : (ν ++ [some v]).take Γ.length = ν := by rw [← hl]; simp
 rw [e1, e2] at r1
 refine ⟨_, r1, s, ?_⟩
 obtain ⟨u, e, q⟩ := r.at' Γ.length o (by rw [List.getElem?_append_right (Nat.le_refl _)]; simp)
 rw [List.getElem?_append_right (by omega), hl] at e
 simp at e
 subst e
 refine q.rep (fun b hb => ?_) (fun a ha hb => ?_)
 ·rcases hb with hb | ⟨j, hb⟩
  ·exact .inl hb
  ·exact .inr ⟨j, (fcut_sub hb).2⟩
 ·rcases hb with hb | ⟨j, hb⟩
  ·exact r.dis0 _ a ha hb
  ·have := r.dis _ _ a ha (fcut_sub hb).2
   have := (fcut_sub hb).1
   omega
theorem RS.frz {i : Nat} {o : OV} (r : RS M0 F Γ ν H) (e : Γ[i]? = some (some o)) : ∃ F' v, ν[i]? = some (some v) ∧ RS M0 F' (Γ.set i (some (.d o.view))) ν H ∧ Stp F H F' H ∧ Rep (MM M0 F') H v o.view := by
 obtain ⟨v, ev, q⟩ := r.at' i o e
 have hi := (List.getElem?_eq_some_iff.mp e).1
 have s : Stp F H (fset F i []) H := stp_sub fun j a h => by
  by_cases hj : j = i
  ·subst hj; rw [fset_same] at h; cases h
  ·rw [fset_ne hj] at h; exact ⟨j, h⟩
 have hq : Rep (MM M0 (fset F i [])) H v o.view := q.rep (fun b hb => by
  rcases hb with hb | ⟨j, hb⟩
  ·exact .inl hb
  ·by_cases hj : j = i
   ·subst hj; rw [fset_same] at hb; cases hb
   ·rw [fset_ne hj] at hb; exact .inr ⟨j, hb⟩) (fun a ha hb => by
  rcases hb with hb | ⟨j, hb⟩
  ·exact r.dis0 _ a ha hb
  ·by_cases hj : j = i
   ·subst hj; rw [fset_same] at hb; cases hb
   ·rw [fset_ne hj] at hb; exact hj (r.dis _ _ a hb ha))
 have r1 := r.put (i := i) (A := []) s (fun _ _ _ _ => rfl) r.al0 (fun _ h => nomatch h) .nil (fun _ _ _ h => nomatch h) hi (.d hq)
 have e2 : ν.set i (some v) = ν := by
  apply List.ext_getElem?
  intro j
  by_cases hj : i = j
  ·subst hj; rw [List.getElem?_set_self (List.getElem?_eq_some_iff.mp ev).1, ev]
  ·rw [List.getElem?_set_ne hj]
 rw [e2] at r1
 exact ⟨_, v, ev, r1, s, hq⟩
theorem RS.mut {i : Nat} {xs xs' : List OV} {a : Addr} {vs : List V} (r : RS M0 F Γ ν H) (e : Γ[i]? = some (some (.l xs))) (ev : ν[i]? = some (some (.ref a)))
  (h : ∀ us A, H a = some (.lst us) → ORL (MM M0 F) H us xs A → F i = a :: A → ∃ A', (∀ b ∈ A', b ∈ A) ∧ A'.Nodup ∧ ORL (MM M0 F) H vs xs' A') :
  ∃ F', RS M0 F' (Γ.set i (some (.l xs'))) ν (upd H a (.lst vs)) ∧ Stp F H F' (upd H a (.lst vs)) := by
 obtain ⟨v, ev', q⟩ := r.at' i _ e
 rw [ev] at ev'; cases ev'
 have hi := (List.getElem?_eq_some_iff.mp e).1
 generalize hA : F i = Ai at q
 cases q with
 | l ea qa =>
  rename_i us A
  obtain ⟨A', sub, nd', q'⟩ := h us A ea qa hA
  have nd := r.nd i
  rw [hA] at nd
  have hnA : a ∉ A := (List.nodup_cons.mp nd).1
  have inF : ∀ b, b ∈ (a :: A') → b ∈ F i := fun b hb => by
   rw [hA]
   rcases List.mem_cons.mp hb with z | z
   ·rw [z]; exact List.mem_cons_self
   ·exact List.mem_cons_of_mem _ (sub b z)
  have s : Stp F H (fset F i (a :: A')) (upd H a (.lst vs)) := ⟨fun b o eb nb => ⟨by rw [upd_ne (fun z => nb i (by rw [hA, z]; exact List.mem_cons_self))]; exact eb, fun j hj => by
   by_cases z : j = i
   ·subst z; rw [fset_same] at hj; exact nb j (inF b hj)
   ·rw [fset_ne z] at hj; exact nb j hj⟩, fun b xs eb => by rw [upd_ne (ne_of eb ea (by intro z; cases z))]; exact eb, fun b hb => by
   by_cases z : b = a
   ·subst z; rw [upd_same]; exact fun w => nomatch w
   ·rw [upd_ne z]; exact hb⟩
  have r1 := r.put (i := i) (o := .l xs') (v := .ref a) (A := a :: A') s (fun j hj b hb => by
    rw [upd_ne]
    intro z
    subst z
    exact hj (r.dis j i b hb (by rw [hA]; exact List.mem_cons_self))) (fun b hb => s.stay b (r.al0 b hb)) (fun b hb => r.dis0 i b (inF b hb)) (List.nodup_cons.mpr ⟨fun z => hnA (sub a z), nd'⟩)
   (fun j hj b hb hbj => hj (r.dis j i b hbj (inF b hb))) hi (.l upd_same (q'.go (fun _ _ x => rep_stp s r.al0 x) s.tups fun b hb => by
    rw [upd_ne]; intro z; subst z; exact hnA (sub b hb)))
  have e2 : ν.set i (some (V.ref a)) = ν := by
   apply List.ext_getElem?
   intro j
   by_cases hj : i = j
   ·subst hj; rw [List.getElem?_set_self (List.getElem?_eq_some_iff.mp ev).1, ev]
   ·rw [List.getElem?_set_ne hj]
  rw [e2] at r1
  exact ⟨_, r1, s⟩
end
theorem ORL.snoc {M : Addr → Prop} {H : Hp} {v : V} {d : PyData} (q : Rep M H v d) : ∀ {vs : List V} {os : List OV} {A : List Addr}, ORL M H vs os A → ORL M H (vs ++ [v]) (os ++ [.d d]) A
 | _, _, _, .nil => .cons (A := []) (.d q) .nil
 | _, _, _, .cons r t => .cons r (ORL.snoc q t)
theorem ORL.setD {M : Addr → Prop} {H : Hp} {v : V} {d : PyData} (q : Rep M H v d) : ∀ {vs : List V} {os : List OV} {A : List Addr} {j : Nat} {x : PyData}, ORL M H vs os A → os[j]? = some (.d x) → ORL M H (vs.set j v) (os.set j (.d d)) A
 | _, _, _, _, _, .nil, e => by simp at e
 | _, _, _, 0, x, .cons r t, e => by
  simp at e
  subst e
  cases r
  exact .cons (A := []) (.d q) t
 | _, _, _, j + 1, x, .cons r t, e => .cons r (ORL.setD (j := j) q t (by simpa using e))
theorem ORL.get {M : Addr → Prop} {H : Hp} : ∀ {vs : List V} {os : List OV} {A : List Addr} {j : Nat} {x : PyData}, ORL M H vs os A → os[j]? = some (.d x) → ∃ v, vs[j]? = some v ∧ Rep M H v x
 | _, _, _, _, _, .nil, e => by simp at e
 | _, _, _, 0, x, .cons r t, e => by
  simp at e
  subst e
  cases r with
  | d r => exact ⟨_, rfl, r⟩
 | _, _, _, j + 1, x, .cons r t, e => by
  obtain ⟨v, e1, q⟩ := ORL.get (j := j) t (by simpa using e)
  exact ⟨v, by simpa using e1, q⟩
end L3
namespace L3
open PySem PySem.Spec PyProof.Rows L2
noncomputable abbrev St := L2.St
structure Exc where
 cls : Str
 pay : PyData
inductive R (α : Type) where
 | ok (a : α)
 | exc (x : Exc) (Γ : Gv)
 | bad
noncomputable def R.bind {α β : Type} (r : R α) (f : α → R β) : R β := match r with
 | .ok a => f a
 | .exc x Γ => .exc x Γ
 | .bad => .bad
noncomputable abbrev EM (α : Type) := Gv → R (α × Gv)
inductive FV where
 | dat (x : PyData)
 | own (i : Nat)
noncomputable def derf (Γ : Gv) : FV → Option PyData
 | .dat x => some x
 | .own i => match Γ[i]? with
  | some (some o) => some o.view
  | _ => none
noncomputable def derS (Γ : Gv) : FV → Option PyData
 | .dat x => some x
 | .own i => match Γ[i]? with
  | some (some (.d x)) => some x
  | _ => none
noncomputable def leaves : List OV → Option (List PyData)
 | [] => some []
 | .d x :: r => (leaves r).map (x :: ·)
 | .l _ :: _ => none
 | .t _ :: _ => none
noncomputable def derL (Γ : Gv) : FV → Option (List PyData)
 | .dat (.list xs) => some xs
 | .own i => match Γ[i]? with
  | some (some (.l xs)) => leaves xs
  | some (some (.d (.list xs))) => some xs
  | _ => none
 | _ => none
noncomputable abbrev XPT := Exc → Gv → Fp → Nu → St → Hp → Prop
noncomputable def Sees (mp : List Nat) (ν : Nu) (σ : St) : Prop := ∀ (s i : Nat) (v : V), mp[s]? = some i → ν[i]? = some (some v) → σ[s]? = some (some v)
noncomputable def EPost {α : Type} (M0 : Addr → Prop) (F : Fp) (ν : Nu) (σ : St) (H : Hp) (XP : XPT) (P : Fp → Gv → Hp → α → Prop) (r : R (α × Gv)) : Prop := match r with
 | .ok (a, Γ') => ∀ F' H', RS M0 F' Γ' ν H' → Stp F H F' H' → P F' Γ' H' a
 | .exc x Γ' => ∀ F' H', RS M0 F' Γ' ν H' → Stp F H F' H' → XP x Γ' F' ν σ H'
 | .bad => False
section
variable {α β : Type} {M0 : Addr → Prop} {F : Fp} {Γ : Gv} {ν : Nu} {σ : St} {H : Hp} {XP : XPT}
theorem EPost.mono {P P' : Fp → Gv → Hp → α → Prop} {r : R (α × Gv)} (h : EPost M0 F ν σ H XP P r) (k : ∀ F' Γ' H' a, RS M0 F' Γ' ν H' → Stp F H F' H' → P F' Γ' H' a → P' F' Γ' H' a) : EPost M0 F ν σ H XP P' r := by
 cases r with
 | ok a => exact fun F' H' rs s => k F' _ H' _ rs s (h F' H' rs s)
 | exc x Γ' => exact h
 | bad => exact h
theorem EPost.seq {P : Fp → Gv → Hp → β → Prop} {r : R (α × Gv)} {k : α × Gv → R (β × Gv)} (h : EPost M0 F ν σ H XP P (r.bind k)) :
  EPost M0 F ν σ H XP (fun F1 Γ1 H1 a => EPost M0 F1 ν σ H1 XP P (k (a, Γ1))) r := by
 cases r with
 | ok a =>
  obtain ⟨a, Γ1⟩ := a
  intro F1 H1 rs1 s1
  have h' : EPost M0 F ν σ H XP P (k (a, Γ1)) := h
  revert h'
  generalize k (a, Γ1) = r2
  intro h'
  cases r2 with
  | ok b => exact fun F' H' rs s => h' F' H' rs (s1.trans s)
  | exc x Γ' => exact fun F' H' rs s => h' F' H' rs (s1.trans s)
  | bad => exact h'
 | exc x Γ' => exact h
 | bad => exact h
theorem EPost.step {P : Fp → Gv → Hp → α → Prop} {r : R (α × Gv)} {F1 : Fp} {H1 : Hp} (h : EPost M0 F ν σ H XP P r) (s1 : Stp F H F1 H1) : EPost M0 F1 ν σ H1 XP P r := by
 cases r with
 | ok b => exact fun F' H' rs s => h F' H' rs (s1.trans s)
 | exc x Γ' => exact fun F' H' rs s => h F' H' rs (s1.trans s)
 | bad => exact h
end
noncomputable def FOk (M0 : Addr → Prop) (F : Fp) (ν : Nu) (H : Hp) (v : V) : FV → Prop
 | .dat x => Rep (MM M0 F) H v x
 | .own i => ν[i]? = some (some v)
section
variable {M0 : Addr → Prop} {F F' : Fp} {Γ : Gv} {ν : Nu} {H H' : Hp} {v : V} {u : FV} {x : PyData}
theorem FOk.stp (h : FOk M0 F ν H v u) (s : Stp F H F' H') (h0 : ∀ a, M0 a → H a ≠ none) : FOk M0 F' ν H' v u := by
 cases u with
 | dat x => exact rep_stp s h0 h
 | own i => exact h
theorem FOk.weak (h : FOk M0 F ν H v u) (rs : RS M0 F Γ ν H) (e : derf Γ u = some x) : Rep Nothing H v x := by
 cases u with
 | dat y => cases e; exact Rep.less (fun _ z _ => z.elim) h
 | own i =>
  dsimp only [derf] at e
  split at e
  ·rename_i o q
   cases e
   obtain ⟨w, e1, r⟩ := rs.at' i o q
   have h' : ν[i]? = some (some v) := h
   rw [h'] at e1; cases e1
   exact r.weak
  ·cases e
theorem FOk.strong (h : FOk M0 F ν H v u) (rs : RS M0 F Γ ν H) (e : derS Γ u = some x) : Rep (MM M0 F) H v x := by
 cases u with
 | dat y => cases e; exact h
 | own i =>
  dsimp only [derS] at e
  split at e
  ·rename_i y q
   cases e
   obtain ⟨w, e1, r⟩ := rs.at' i _ q
   have h' : ν[i]? = some (some v) := h
   rw [h'] at e1; cases e1
   generalize F i = A at r
   cases r with
   | d r => exact r
  ·cases e
theorem ORL.leaf {M : Addr → Prop} : ∀ {vs : List V} {os : List OV} {A : List Addr} {ds : List PyData}, ORL M H vs os A → leaves os = some ds → RepL M H vs ds ∧ A = []
 | _, _, _, _, .nil, e => by cases e; exact ⟨.nil, rfl⟩
 | _, _, _, _, .cons (x := .d x) r t, e => by
  unfold leaves at e
  rename_i vs xs A B
  cases q : leaves xs with
  | none => rw [q] at e; cases e
  | some ys =>
   rw [q] at e; cases e
   obtain ⟨h1, h2⟩ := ORL.leaf t q
   cases r with
   | d r => exact ⟨.cons r h1, by rw [h2]; rfl⟩
 | _, _, _, _, .cons (x := .l x) r t, e => by cases e
 | _, _, _, _, .cons (x := .t x) r t, e => by cases e
theorem FOk.list {ds : List PyData} (h : FOk M0 F ν H v u) (rs : RS M0 F Γ ν H) (e : derL Γ u = some ds) : ∃ a vs, v = .ref a ∧ H a = some (.lst vs) ∧ RepL (MM M0 F) H vs ds := by
 unfold derL at e
 split at e
 ·cases e
  obtain ⟨a, vs, rfl, e1, _, r⟩ := Rep.lst_inv h
  exact ⟨a, vs, rfl, e1, r⟩
 ·rename_i i
  have h' : ν[i]? = some (some v) := h
  split at e
  ·rename_i q
   obtain ⟨w, e1, r⟩ := rs.at' i _ q
   rw [h'] at e1; cases e1
   generalize F i = A at r
   cases r with
   | l ea qa => exact ⟨_, _, rfl, ea, (ORL.leaf qa e).1⟩
  ·rename_i q
   cases e
   obtain ⟨w, e1, r⟩ := rs.at' i _ q
   rw [h'] at e1; cases e1
   generalize F i = A at r
   cases r with
   | d r =>
    obtain ⟨a, vs, rfl, e1, _, r⟩ := Rep.lst_inv r
    exact ⟨a, vs, rfl, e1, r⟩
  ·cases e
 ·cases e
end
noncomputable def SE (X : Cx) (XP : XPT) (mp : List Nat) (e : Expr) (f : EM FV) : Prop := ∀ (M0 : Addr → Prop) (F : Fp) (Γ : Gv) (ν : Nu) (σ : St) (H : Hp) (Q : VK), RS M0 F Γ ν H → Sees mp ν σ →
 EPost M0 F ν σ H XP (fun F' Γ' H' u => ∀ v, FOk M0 F' ν H' v u → Q v H') (f Γ) → wpE X e σ H Q
noncomputable def SN (X : Cx) (XP : XPT) (mp : List Nat) (e : Expr) (f : EM (List PyData)) : Prop := ∀ (M0 : Addr → Prop) (F : Fp) (Γ : Gv) (ν : Nu) (σ : St) (H : Hp) (Q : VK), RS M0 F Γ ν H → Sees mp ν σ →
 EPost M0 F ν σ H XP (fun F' Γ' H' ds => ∀ vs p, RepL (MM M0 F') H' vs ds → H' p = none → Q (.ref p) (upd H' p (.lst vs))) (f Γ) → wpE X e σ H Q
noncomputable def ST (X : Cx) (XP : XPT) (mp : List Nat) (e : Expr) (f : EM Bool) : Prop := ∀ (M0 : Addr → Prop) (F : Fp) (Γ : Gv) (ν : Nu) (σ : St) (H : Hp) (Q : Bool → Hp → Prop), RS M0 F Γ ν H → Sees mp ν σ →
 EPost M0 F ν σ H XP (fun F' Γ' H' b => Q b H') (f Γ) → wpT X e σ H Q
noncomputable def SW (X : Cx) (XP : XPT) (mp : List Nat) (e : Expr) (f : EM Bool) : Prop := ∀ (M0 : Addr → Prop) (F : Fp) (Γ : Gv) (ν : Nu) (σ : St) (H : Hp) (Q : Bool → Hp → Prop), RS M0 F Γ ν H → Sees mp ν σ →
 EPost M0 F ν σ H XP (fun F' Γ' H' b => Q b H') (f Γ) → wpW X e σ H Q
section
variable {X : Cx} {XP : XPT} {mp : List Nat} {a b c e : Expr} {es : List Expr} {pos p p2 : Pos} {fa fb fc : EM FV} {ta tb : EM Bool} {na nb : EM (List PyData)}
section
variable {β : Type} {M0 : Addr → Prop} {F : Fp} {Γ : Gv} {ν : Nu} {σ : St} {H : Hp} {P : Fp → Gv → Hp → β → Prop}
theorem SE.run {Q : VK} {k : FV × Gv → R (β × Gv)} (ha : SE X XP mp a fa) (rs : RS M0 F Γ ν H) (hs : Sees mp ν σ) (h : EPost M0 F ν σ H XP P ((fa Γ).bind k))
  (kk : ∀ F1 Γ1 H1 u v, RS M0 F1 Γ1 ν H1 → Stp F H F1 H1 → FOk M0 F1 ν H1 v u → EPost M0 F1 ν σ H1 XP P (k (u, Γ1)) → Q v H1) : wpE X a σ H Q :=
 ha M0 F Γ ν σ H Q rs hs (h.seq.mono fun F1 Γ1 H1 u rs1 s1 h1 v hv => kk F1 Γ1 H1 u v rs1 s1 hv h1)
theorem SN.run {Q : VK} {k : List PyData × Gv → R (β × Gv)} (ha : SN X XP mp a na) (rs : RS M0 F Γ ν H) (hs : Sees mp ν σ) (h : EPost M0 F ν σ H XP P ((na Γ).bind k))
  (kk : ∀ F1 Γ1 H1 ds vs p, RS M0 F1 Γ1 ν H1 → Stp F H F1 H1 → RepL (MM M0 F1) H1 vs ds → H1 p = none → EPost M0 F1 ν σ H1 XP P (k (ds, Γ1)) → Q (.ref p) (upd H1 p (.lst vs))) : wpE X a σ H Q :=
 ha M0 F Γ ν σ H Q rs hs (h.seq.mono fun F1 Γ1 H1 u rs1 s1 h1 vs p r n => kk F1 Γ1 H1 u vs p rs1 s1 r n h1)
theorem ST.run {Q : Bool → Hp → Prop} {k : Bool × Gv → R (β × Gv)} (ha : ST X XP mp a ta) (rs : RS M0 F Γ ν H) (hs : Sees mp ν σ) (h : EPost M0 F ν σ H XP P ((ta Γ).bind k))
  (kk : ∀ F1 Γ1 H1 u, RS M0 F1 Γ1 ν H1 → Stp F H F1 H1 → EPost M0 F1 ν σ H1 XP P (k (u, Γ1)) → Q u H1) : wpT X a σ H Q :=
 ha M0 F Γ ν σ H Q rs hs (h.seq.mono fun F1 Γ1 H1 u rs1 s1 h1 => kk F1 Γ1 H1 u rs1 s1 h1)
end
noncomputable def fNew (n : EM (List PyData)) : EM FV := fun Γ => (n Γ).bind fun (ds, Γ1) => .ok (.dat (.list ds), Γ1)
theorem SN.se (h : SN X XP mp a na) : SE X XP mp a (fNew na) := fun M0 F Γ ν σ H Q rs hs hp =>
 h.run rs hs hp fun F1 Γ1 H1 ds vs p rs1 s1 r n h1 => by
  have s2 : Same H1 (upd H1 p (.lst vs)) := upd_new n
  exact h1 F1 _ (rs1.same s2) (.same s2) _ (Rep.list upd_same (fun z => rs1.al p z n) (r.grow s2.grow))
noncomputable def fVar (i : Nat) : EM FV := fun Γ => match Γ[i]? with
 | some (some (.d x)) => .ok (.dat x, Γ)
 | some (some (.l _)) => .ok (.own i, Γ)
 | some (some (.t _)) => .ok (.own i, Γ)
 | _ => .bad
theorem se_var {s i : Nat} {x : Str} (hN : X.N[s]? = some x) (hv : Vis X.env.scope x) (hm : mp[s]? = some i) (hd : (x == ("__debug__" : Str)) = false) (hcd : (x == ("__classdict__" : Str)) = false) :
  SE X XP mp (.Name x pos) (fVar i) := fun M0 F Γ ν σ H Q rs hs hp => by
 unfold fVar at hp
 split at hp
 ·rename_i y q
  obtain ⟨v, e1, r⟩ := rs.at' i _ q
  generalize hA : F i = A at r
  cases r with
  | d r => exact (pe_var hN hv hd hcd).wp ⟨v, hs s i v hm e1, hp F H rs (.refl F H) v r⟩
 ·rename_i y q
  obtain ⟨v, e1, r⟩ := rs.at' i _ q
  exact (pe_var hN hv hd hcd).wp ⟨v, hs s i v hm e1, hp F H rs (.refl F H) v e1⟩
 ·rename_i y q
  obtain ⟨v, e1, r⟩ := rs.at' i _ q
  exact (pe_var hN hv hd hcd).wp ⟨v, hs s i v hm e1, hp F H rs (.refl F H) v e1⟩
 ·exact hp.elim
noncomputable def fFrz (i : Nat) : EM FV := fun Γ => match Γ[i]? with
 | some (some o) => .ok (.dat o.view, Γ.set i (some (.d o.view)))
 | _ => .bad
theorem se_frz {s i : Nat} {x : Str} (hN : X.N[s]? = some x) (hv : Vis X.env.scope x) (hm : mp[s]? = some i) (hd : (x == ("__debug__" : Str)) = false) (hcd : (x == ("__classdict__" : Str)) = false) :
  SE X XP mp (.Name x pos) (fFrz i) := fun M0 F Γ ν σ H Q rs hs hp => by
 unfold fFrz at hp
 split at hp
 ·rename_i o q
  obtain ⟨F', v, e1, rs1, s1, r⟩ := rs.frz q
  exact (pe_var hN hv hd hcd).wp ⟨v, hs s i v hm e1, hp F' H rs1 s1 v r⟩
 ·exact hp.elim
noncomputable def fC (x : PyData) : EM FV := fun Γ => .ok (.dat x, Γ)
theorem se_int {i j} : SE X XP mp (.Constant (.int i) j pos) (fC (.int i)) := fun M0 F Γ ν σ H Q rs hs hp => pe_int.wp (hp F H rs (.refl F H) _ (Rep.int i))
theorem se_bool {x j} : SE X XP mp (.Constant (.bool x) j pos) (fC (.bool x)) := fun M0 F Γ ν σ H Q rs hs hp => pe_bl.wp (hp F H rs (.refl F H) _ (Rep.bool x))
theorem se_none {j} : SE X XP mp (.Constant .none j pos) (fC .none) := fun M0 F Γ ν σ H Q rs hs hp => pe_non.wp (hp F H rs (.refl F H) _ Rep.none)
theorem se_str {x j} : SE X XP mp (.Constant (.str x) j pos) (fC (.str x)) := fun M0 F Γ ν σ H Q rs hs hp => pe_str.wp (hp F H rs (.refl F H) _ (Rep.str x))
theorem se_gint {x : Str} {i : Int} (hg : Gl X x) (hm : ∃ t, X.mg x = some (.int i t)) (hd : (x == ("__debug__" : Str)) = false) : SE X XP mp (.Name x pos) (fC (.int i)) := fun M0 F Γ ν σ H Q rs hs hp => by
 obtain ⟨t, hm⟩ := hm
 exact (pe_glob (v := .int i) hg hm ⟨t, rfl⟩ hd).wp (hp F H rs (.refl F H) _ (Rep.int i))
theorem se_gstr {x : Str} {i : Str} (hg : Gl X x) (hm : ∃ t, X.mg x = some (.str i t)) (hd : (x == ("__debug__" : Str)) = false) : SE X XP mp (.Name x pos) (fC (.str i)) := fun M0 F Γ ν σ H Q rs hs hp => by
 obtain ⟨t, hm⟩ := hm
 exact (pe_glob (v := .str i) hg hm ⟨t, rfl⟩ hd).wp (hp F H rs (.refl F H) _ (Rep.str i))
noncomputable def OpS (X : Cx) (f : Value → Value → Sem Value) (g : PyData → PyData → Option PyData) : Prop := ∀ x y z, g x y = some z → ∃ r : R2, OpR X f r ∧ ∀ (M : Addr → Prop) (H : Hp) (v u : V) (Q : VK),
 Al M H → Rep M H v x → Rep M H u y → (∀ w H', Same H H' → Rep M H' w z → Q w H') → r v u H Q
noncomputable def fBin (g : PyData → PyData → Option PyData) (fa fb : EM FV) : EM FV := fun Γ => (fa Γ).bind fun (u, Γ1) => (fb Γ1).bind fun (w, Γ2) => match derS Γ2 u, derS Γ2 w with
 | some x, some y => match g x y with
  | some z => .ok (.dat z, Γ2)
  | none => .bad
 | _, _ => .bad
theorem se_bin {op : Operator} {g : PyData → PyData → Option PyData} (ho : OpS X (binaryOp op) g) (ha : SE X XP mp a fa) (hb : SE X XP mp b fb) : SE X XP mp (.BinOp a op b pos) (fBin g fa fb) := fun M0 F Γ ν σ H Q rs hs hp => by
 have key : ∀ x y z, g x y = some z → ∃ r : R2, OpR X (binaryOp op) r ∧ ∀ (M : Addr → Prop) (H : Hp) (v u : V) (Q : VK), Al M H → Rep M H v x → Rep M H u y → (∀ w H', Same H H' → Rep M H' w z → Q w H') → r v u H Q := ho
 refine (pe_op (r := fun v u H Q => ∃ M x y z, g x y = some z ∧ Al M H ∧ Rep M H v x ∧ Rep M H u y ∧ ∀ w H', Same H H' → Rep M H' w z → Q w H') ?_ pe_self pe_self).wp
  (ha.run rs hs hp fun F1 Γ1 H1 u v rs1 s1 o1 h1 => hb.run rs1 hs h1 fun F2 Γ2 H2 w v2 rs2 s2 o2 h2 => ?_)
 ·rintro pins s σ H x y v u Q I rx ry ⟨M, dx, dy, dz, e, al, r1, r2, k⟩
  obtain ⟨r, hr, hh⟩ := ho dx dy dz e
  exact hr pins s σ H x y v u Q I rx ry (hh M H x y Q al r1 r2 k)
 ·dsimp only at h2
  split at h2
  ·rename_i x y e1 e2
   split at h2
   ·rename_i z e3
    exact ⟨MM M0 F2, x, y, z, e3, rs2.al, (o1.stp s2 rs1.al0).strong rs2 e1, o2.strong rs2 e2, fun w' H3 s3 r3 => h2 F2 H3 (rs2.same s3) (.same s3) w' r3⟩
   ·exact h2.elim
  ·exact h2.elim
noncomputable def CmpS (X : Cx) (op : CmpOp) (g : PyData → PyData → Option Bool) : Prop := ∀ x y z, g x y = some z → ∃ r : R2, OpR X (compareOp op) r ∧ ∀ (H : Hp) (v u : V) (Q : VK),
 Rep Nothing H v x → Rep Nothing H u y → Q (.bl z) H → r v u H Q
noncomputable def fCmp (g : PyData → PyData → Option Bool) (fa fb : EM FV) : EM Bool := fun Γ => (fa Γ).bind fun (u, Γ1) => (fb Γ1).bind fun (w, Γ2) => match derf Γ2 u, derf Γ2 w with
 | some x, some y => match g x y with
  | some z => .ok (z, Γ2)
  | none => .bad
 | _, _ => .bad
noncomputable def fB (t : EM Bool) : EM FV := fun Γ => (t Γ).bind fun (b, Γ1) => .ok (.dat (.bool b), Γ1)
theorem cmpR_of {op : CmpOp} {g : PyData → PyData → Option Bool} (ho : CmpS X op g) : OpR X (compareOp op) (fun v u H Q => ∃ x y z, g x y = some z ∧ Rep Nothing H v x ∧ Rep Nothing H u y ∧ Q (.bl z) H) := by
 rintro pins s σ H x y v u Q I rx ry ⟨dx, dy, dz, e, r1, r2, k⟩
 obtain ⟨r, hr, hh⟩ := ho dx dy dz e
 exact hr pins s σ H x y v u Q I rx ry (hh H x y Q r1 r2 k)
section
variable {M0 : Addr → Prop} {F : Fp} {Γ : Gv} {ν : Nu} {σ : St} {H : Hp} {β : Type} {P : Fp → Gv → Hp → β → Prop}
theorem cmp_two {g : PyData → PyData → Option Bool} {k : Bool × Gv → R (β × Gv)} {Q : VK} (ha : SE X XP mp a fa) (hb : SE X XP mp b fb) (rs : RS M0 F Γ ν H) (hs : Sees mp ν σ) (hp : EPost M0 F ν σ H XP P ((fCmp g fa fb Γ).bind k))
  (kk : ∀ F2 Γ2 H2 z, RS M0 F2 Γ2 ν H2 → Stp F H F2 H2 → EPost M0 F2 ν σ H2 XP P (k (z, Γ2)) → Q (.bl z) H2) :
  wpE X a σ H fun v H1 => wpE X b σ H1 fun u H2 => ∃ x y z, g x y = some z ∧ Rep Nothing H2 v x ∧ Rep Nothing H2 u y ∧ Q (.bl z) H2 := by
 have hp' : EPost M0 F ν σ H XP P ((fa Γ).bind fun (u, Γ1) => (fb Γ1).bind fun (w, Γ2) => (match derf Γ2 u, derf Γ2 w with
  | some x, some y => match g x y with
   | some z => R.ok (z, Γ2)
   | none => .bad
  | _, _ => .bad).bind k) := by
  have e : ((fCmp g fa fb Γ).bind k) = ((fa Γ).bind fun (u, Γ1) => (fb Γ1).bind fun (w, Γ2) => (match derf Γ2 u, derf Γ2 w with
   | some x, some y => match g x y with
    | some z => R.ok (z, Γ2)
    | none => .bad
   | _, _ => .bad).bind k) := by
   unfold fCmp
   cases fa Γ with
   | ok a =>
    obtain ⟨a, Γ1⟩ := a
    simp only [R.bind]
    cases fb Γ1 <;> rfl
   | exc x y => rfl
   | bad => rfl
  rw [← e]; exact hp
 refine ha.run rs hs hp' fun F1 Γ1 H1 u v rs1 s1 o1 h1 => hb.run rs1 hs h1 fun F2 Γ2 H2 w v2 rs2 s2 o2 h2 => ?_
 dsimp only at h2
 split at h2
 ·rename_i x y e1 e2
  split at h2
  ·rename_i z e3
   exact ⟨x, y, z, e3, (o1.stp s2 rs1.al0).weak rs2 e1, o2.weak rs2 e2, kk F2 Γ2 H2 z rs2 (s1.trans s2) h2⟩
  ·exact h2.elim
 ·exact h2.elim
end
theorem R.bind_ok {α : Type} (r : R α) : r.bind .ok = r := by cases r <;> rfl
theorem se_cmp {op : CmpOp} {g : PyData → PyData → Option Bool} (ho : CmpS X op g) (ha : SE X XP mp a fa) (hb : SE X XP mp b fb) (hm : behindInMarks op b = false) : SE X XP mp (.Compare a [op] [b] pos) (fB (fCmp g fa fb)) := fun M0 F Γ ν σ H Q rs hs hp =>
 (pe_cmpR (cmpR_of ho) pe_self pe_self hm).wp (cmp_two ha hb rs hs hp fun F2 Γ2 H2 z rs2 s2 h2 => h2 F2 H2 rs2 (.refl _ _) _ (Rep.bool z))
theorem st_cmp {op : CmpOp} {g : PyData → PyData → Option Bool} (ho : CmpS X op g) (ha : SE X XP mp a fa) (hb : SE X XP mp b fb) (hm : behindInMarks op b = false) : ST X XP mp (.Compare a [op] [b] pos) (fCmp g fa fb) := fun M0 F Γ ν σ H Q rs hs hp =>
 (pt_cmpR (cmpR_of ho) pe_self pe_self hm).wp (cmp_two (k := .ok) (Q := fun v H' => ∃ k, v = .bl k ∧ Q k H') ha hb rs hs (by rw [R.bind_ok]; exact hp) fun F2 Γ2 H2 z rs2 s2 h2 => ⟨z, rfl, h2 F2 H2 rs2 (.refl _ _)⟩)
end
end L3
namespace L3
open PySem PySem.Spec PyProof.Rows L2
noncomputable def truD : PyData → Option Bool
 | .none => some false
 | .bool b => some b
 | .int i => some (i != 0)
 | .list xs => some (!xs.isEmpty)
 | .tuple xs => some (!xs.isEmpty)
 | _ => none
theorem isEmptyR {M : Addr → Prop} {H : Hp} {vs : List V} {ds : List PyData} (r : RepL M H vs ds) : (!vs.isEmpty) = !ds.isEmpty := by cases r <;> rfl
theorem truV_of {K : PySem.W.Frag} {M : Addr → Prop} {H : Hp} {v : V} {x : PyData} {k : Bool} (r : Rep M H v x) (e : truD x = some k) : TruV K v H k := by
 cases r with
 | none => cases e; rfl
 | bool b => cases e; rfl
 | int i => cases e; rfl
 | str x => cases e
 | list ea n q => cases e; exact .inl ⟨_, SqL.of ea, (isEmptyR q).symm⟩
 | tuple ea q => cases e; exact .inr (.inl ⟨_, SqT.of ea, (isEmptyR q).symm⟩)
section
variable {X : Cx} {XP : XPT} {mp : List Nat} {a b c e : Expr} {es : List Expr} {pos p p2 : Pos} {fa fb fc : EM FV} {ta tb : EM Bool} {na nb : EM (List PyData)}
noncomputable def fTru (fa : EM FV) : EM Bool := fun Γ => (fa Γ).bind fun (u, Γ1) => match (derf Γ1 u).bind truD with
 | some k => .ok (k, Γ1)
 | none => .bad
theorem st_truth (ha : SE X XP mp a fa) (he : ∀ whole, isTrue a X.env whole = (do let v ← whole; standAt a.pos; holding [v] (truthy v))) : ST X XP mp a (fTru fa) := fun M0 F Γ ν σ H Q rs hs hp =>
 (pt_truth pe_self he).wp (ha.run rs hs hp fun F1 Γ1 H1 u v rs1 s1 o1 h1 => by
  dsimp only at h1
  split at h1
  ·rename_i k ek
   cases ex : derf Γ1 u with
   | none => rw [ex] at ek; cases ek
   | some x =>
    rw [ex] at ek
    exact ⟨k, truV_of (o1.weak rs1 ex) ek, h1 F1 H1 rs1 (.refl _ _)⟩
  ·exact h1.elim)
noncomputable def fNotT (ta : EM Bool) : EM Bool := fun Γ => (ta Γ).bind fun (b, Γ1) => .ok (!b, Γ1)
theorem st_not (h : ST X XP mp a ta) : ST X XP mp (.UnaryOp .Not a pos) (fNotT ta) := fun M0 F Γ ν σ H Q rs hs hp =>
 (pt_not pt_self).wp (h.run rs hs hp fun F1 Γ1 H1 b rs1 s1 h1 => h1 F1 H1 rs1 (.refl _ _))
theorem SW.st (h : SW X XP mp a ta) : ST X XP mp a ta := fun M0 F Γ ν σ H Q rs hs hp pins s I => h M0 F Γ ν σ H Q rs hs hp _ pins s I
theorem sw_one1 (h : ST X XP mp a ta) : SW X XP mp (.BoolOp .And [a] pos) ta := fun M0 F Γ ν σ H Q rs hs hp => (pw_and1 pt_self).wp (h M0 F Γ ν σ H Q rs hs hp)
theorem sw_one2 (h : ST X XP mp a ta) : SW X XP mp (.BoolOp .Or [a] pos) ta := fun M0 F Γ ν σ H Q rs hs hp => (pw_or1 pt_self).wp (h M0 F Γ ν σ H Q rs hs hp)
noncomputable def fAndT (ta tb : EM Bool) : EM Bool := fun Γ => (ta Γ).bind fun (b, Γ1) => if b then tb Γ1 else .ok (false, Γ1)
noncomputable def fOrT (ta tb : EM Bool) : EM Bool := fun Γ => (ta Γ).bind fun (b, Γ1) => if b then .ok (true, Γ1) else tb Γ1
theorem sw_and (ha : ST X XP mp a ta) (hb : SW X XP mp (.BoolOp .And (b :: es) pos) tb) : SW X XP mp (.BoolOp .And (a :: b :: es) pos) (fAndT ta tb) := fun M0 F Γ ν σ H Q rs hs hp =>
 (pw_and pt_self pw_self).wp (ha.run rs hs hp fun F1 Γ1 H1 b rs1 s1 h1 => by
  cases b with
  | true => exact iteT (hb M0 F1 Γ1 ν σ H1 Q rs1 hs h1)
  | false => exact iteF (h1 F1 H1 rs1 (.refl _ _)))
theorem sw_or (ha : ST X XP mp a ta) (hb : SW X XP mp (.BoolOp .Or (b :: es) pos) tb) : SW X XP mp (.BoolOp .Or (a :: b :: es) pos) (fOrT ta tb) := fun M0 F Γ ν σ H Q rs hs hp =>
 (pw_or pt_self pw_self).wp (ha.run rs hs hp fun F1 Γ1 H1 b rs1 s1 h1 => by
  cases b with
  | true => exact iteT (h1 F1 H1 rs1 (.refl _ _))
  | false => exact iteF (hb M0 F1 Γ1 ν σ H1 Q rs1 hs h1))
noncomputable def fAndV (fa fb : EM FV) : EM FV := fun Γ => (fa Γ).bind fun (u, Γ1) => match derf Γ1 u with
 | some (.bool true) => fb Γ1
 | some (.bool false) => .ok (.dat (.bool false), Γ1)
 | _ => .bad
noncomputable def fOrV (fa fb : EM FV) : EM FV := fun Γ => (fa Γ).bind fun (u, Γ1) => match derf Γ1 u with
 | some (.bool true) => .ok (.dat (.bool true), Γ1)
 | some (.bool false) => fb Γ1
 | _ => .bad
theorem se_one {op} (h : SE X XP mp a fa) : SE X XP mp (.BoolOp op [a] pos) fa := fun M0 F Γ ν σ H Q rs hs hp => (pe_one pe_self).wp (h M0 F Γ ν σ H Q rs hs hp)
theorem se_and (ha : SE X XP mp a fa) (hb : SE X XP mp (.BoolOp .And (b :: es) pos) fb) : SE X XP mp (.BoolOp .And (a :: b :: es) pos) (fAndV fa fb) := fun M0 F Γ ν σ H Q rs hs hp =>
 (pe_and pe_self pe_self).wp (ha.run rs hs hp fun F1 Γ1 H1 u v rs1 s1 o1 h1 => by
  dsimp only at h1
  split at h1
  ·rename_i ex
   cases o1.weak rs1 ex
   exact ⟨true, rfl, iteT (hb M0 F1 Γ1 ν σ H1 Q rs1 hs h1)⟩
  ·rename_i ex
   cases o1.weak rs1 ex
   exact ⟨false, rfl, iteF (h1 F1 H1 rs1 (.refl _ _) _ (Rep.bool false))⟩
  ·exact h1.elim)
theorem se_or (ha : SE X XP mp a fa) (hb : SE X XP mp (.BoolOp .Or (b :: es) pos) fb) : SE X XP mp (.BoolOp .Or (a :: b :: es) pos) (fOrV fa fb) := fun M0 F Γ ν σ H Q rs hs hp =>
 (pe_or pe_self pe_self).wp (ha.run rs hs hp fun F1 Γ1 H1 u v rs1 s1 o1 h1 => by
  dsimp only at h1
  split at h1
  ·rename_i ex
   cases o1.weak rs1 ex
   exact ⟨true, rfl, iteT (h1 F1 H1 rs1 (.refl _ _) _ (Rep.bool true))⟩
  ·rename_i ex
   cases o1.weak rs1 ex
   exact ⟨false, rfl, iteF (hb M0 F1 Γ1 ν σ H1 Q rs1 hs h1)⟩
  ·exact h1.elim)
theorem un_notT : UnR X (unaryOp .Not) (fun x H Q => ∃ k, TruV X.K x H k ∧ Q (.bl (!k)) H) := by
 intro pins s σ H x v Q I rx h
 obtain ⟨k, hk, q⟩ := h
 exact not_of (thn (tru_ok pins s σ H x v _ I rx ⟨k, hk, q⟩) fun b s' ⟨H', I', q'⟩ => ⟨.bl (!b), H', I', rfl, q'⟩)
theorem se_not (ha : SE X XP mp a fa) : SE X XP mp (.UnaryOp .Not a pos) (fB (fNotT (fTru fa))) := fun M0 F Γ ν σ H Q rs hs hp => by
 refine (pe_un un_notT pe_self).wp (ha.run (k := fun (u, Γ1) => match (derf Γ1 u).bind truD with
  | some k => R.ok (FV.dat (.bool (!k)), Γ1)
  | none => .bad) (P := fun F' Γ' H' u => ∀ (v : V), FOk M0 F' ν H' v u → Q v H') rs hs ?_ fun F1 Γ1 H1 u v rs1 s1 o1 h1 => ?_)
 ·have e : fB (fNotT (fTru fa)) Γ = (fa Γ).bind fun (u, Γ1) => match (derf Γ1 u).bind truD with
   | some k => .ok (.dat (.bool (!k)), Γ1)
   | none => .bad := by
   unfold fB fNotT fTru
   cases fa Γ with
   | ok a =>
    obtain ⟨u, Γ1⟩ := a
    simp only [R.bind]
    cases (derf Γ1 u).bind truD <;> rfl
   | exc x y => rfl
   | bad => rfl
  rw [← e]; exact hp
 ·dsimp only at h1
  split at h1
  ·rename_i k ek
   cases ex : derf Γ1 u with
   | none => rw [ex] at ek; cases ek
   | some x =>
    rw [ex] at ek
    exact ⟨k, truV_of (o1.weak rs1 ex) ek, h1 F1 H1 rs1 (.refl _ _) _ (Rep.bool (!k))⟩
  ·exact h1.elim
noncomputable def fIf (t : EM Bool) (fa fb : EM FV) : EM FV := fun Γ => (t Γ).bind fun (b, Γ1) => if b then fa Γ1 else fb Γ1
theorem se_if (hc : ST X XP mp c ta) (ha : SE X XP mp a fa) (hb : SE X XP mp b fb) : SE X XP mp (.IfExp c a b pos) (fIf ta fa fb) := fun M0 F Γ ν σ H Q rs hs hp =>
 (pe_ifExp pt_self pe_self pe_self).wp (hc.run rs hs hp fun F1 Γ1 H1 b rs1 s1 h1 => by
  cases b with
  | true => exact iteT (ha M0 F1 Γ1 ν σ H1 Q rs1 hs h1)
  | false => exact iteF (hb M0 F1 Γ1 ν σ H1 Q rs1 hs h1))
noncomputable def fChain (g g' : PyData → PyData → Option Bool) (fa fb fc : EM FV) : EM Bool := fun Γ => (fa Γ).bind fun (u, Γ1) => (fb Γ1).bind fun (w, Γ2) => match derf Γ2 u, derf Γ2 w with
 | some x, some y => match g x y with
  | some true => (fc Γ2).bind fun (t, Γ3) => match derf Γ3 w, derf Γ3 t with
   | some y, some z => match g' y z with
    | some k => .ok (k, Γ3)
    | none => .bad
   | _, _ => .bad
  | some false => .ok (false, Γ2)
  | none => .bad
 | _, _ => .bad
theorem R.bind_assoc {α β γ : Type} (r : R α) (f : α → R β) (g : β → R γ) : (r.bind f).bind g = r.bind fun a => (f a).bind g := by cases r <;> rfl
section
variable {M0 : Addr → Prop} {F : Fp} {Γ : Gv} {ν : Nu} {σ : St} {H : Hp} {β : Type} {P : Fp → Gv → Hp → β → Prop}
theorem chain_run {g g' : PyData → PyData → Option Bool} {k : Bool × Gv → R (β × Gv)} {Q : VK} (ha : SE X XP mp a fa) (hb : SE X XP mp b fb) (hc : SE X XP mp c fc) (rs : RS M0 F Γ ν H) (hs : Sees mp ν σ) (hp : EPost M0 F ν σ H XP P ((fChain g g' fa fb fc Γ).bind k))
  (kk : ∀ F2 Γ2 H2 z, RS M0 F2 Γ2 ν H2 → EPost M0 F2 ν σ H2 XP P (k (z, Γ2)) → Q (.bl z) H2) :
  tChain (fun v u H Q => ∃ x y z, g x y = some z ∧ Rep Nothing H v x ∧ Rep Nothing H u y ∧ Q (.bl z) H) (fun v u H Q => ∃ x y z, g' x y = some z ∧ Rep Nothing H v x ∧ Rep Nothing H u y ∧ Q (.bl z) H) (wpE X a) (wpE X b) (wpE X c) σ H Q := by
 unfold fChain at hp
 rw [R.bind_assoc] at hp
 refine ha.run rs hs hp fun F1 Γ1 H1 u v rs1 s1 o1 h1 => ?_
 dsimp only at h1
 rw [R.bind_assoc] at h1
 refine hb.run rs1 hs h1 fun F2 Γ2 H2 w v2 rs2 s2 o2 h2 => ?_
 dsimp only at h2
 split at h2
 ·rename_i x y e1 e2
  split at h2
  ·rename_i e3
   refine ⟨x, y, true, e3, (o1.stp s2 rs1.al0).weak rs2 e1, o2.weak rs2 e2, true, rfl, iteT ?_⟩
   rw [R.bind_assoc] at h2
   refine hc.run rs2 hs h2 fun F3 Γ3 H3 t v3 rs3 s3 o3 h3 => ?_
   dsimp only at h3
   split at h3
   ·rename_i y' z e4 e5
    split at h3
    ·rename_i kz e6
     exact ⟨y', z, kz, e6, (o2.stp s3 rs2.al0).weak rs3 e4, o3.weak rs3 e5, kk F3 Γ3 H3 kz rs3 h3⟩
    ·exact h3.elim
   ·exact h3.elim
  ·rename_i e3
   exact ⟨x, y, false, e3, (o1.stp s2 rs1.al0).weak rs2 e1, o2.weak rs2 e2, false, rfl, iteF (kk F2 Γ2 H2 false rs2 h2)⟩
  ·exact h2.elim
 ·exact h2.elim
end
theorem se_chain {op op' : CmpOp} {g g' : PyData → PyData → Option Bool} (ho : CmpS X op g) (ho' : CmpS X op' g') (ha : SE X XP mp a fa) (hb : SE X XP mp b fb) (hc : SE X XP mp c fc) (hm : lastMarks [op, op'] [b, c] = false) :
  SE X XP mp (.Compare a [op, op'] [b, c] pos) (fB (fChain g g' fa fb fc)) := fun M0 F Γ ν σ H Q rs hs hp =>
 (pe_chain (cmpR_of ho) (cmpR_of ho') pe_self pe_self pe_self hm).wp (chain_run ha hb hc rs hs hp fun F2 Γ2 H2 z rs2 h2 => h2 F2 H2 rs2 (.refl _ _) _ (Rep.bool z))
theorem st_chain {op op' : CmpOp} {g g' : PyData → PyData → Option Bool} (ho : CmpS X op g) (ho' : CmpS X op' g') (ha : SE X XP mp a fa) (hb : SE X XP mp b fb) (hc : SE X XP mp c fc) (hm : lastMarks [op, op'] [b, c] = false) :
  ST X XP mp (.Compare a [op, op'] [b, c] pos) (fChain g g' fa fb fc) := fun M0 F Γ ν σ H Q rs hs hp =>
 (pt_chain (cmpR_of ho) (cmpR_of ho') pe_self pe_self pe_self hm).wp (chain_run (k := .ok) (Q := fun v H' => ∃ k, v = .bl k ∧ Q k H') ha hb hc rs hs (by rw [R.bind_ok]; exact hp) fun F2 Γ2 H2 z rs2 h2 => ⟨z, rfl, h2 F2 H2 rs2 (.refl _ _)⟩)
inductive FOks (M0 : Addr → Prop) (F : Fp) (ν : Nu) (H : Hp) : List V → List FV → Prop
 | nil : FOks M0 F ν H [] []
 | cons {v : V} {vs : List V} {u : FV} {us : List FV} : FOk M0 F ν H v u → FOks M0 F ν H vs us → FOks M0 F ν H (v :: vs) (u :: us)
noncomputable def derSs (Γ : Gv) : List FV → Option (List PyData)
 | [] => some []
 | u :: us => match derS Γ u, derSs Γ us with
  | some x, some xs => some (x :: xs)
  | _, _ => none
theorem FOks.strong {M0 : Addr → Prop} {F : Fp} {Γ : Gv} {ν : Nu} {H : Hp} (rs : RS M0 F Γ ν H) : ∀ {vs : List V} {us : List FV} {ds : List PyData}, FOks M0 F ν H vs us → derSs Γ us = some ds → RepL (MM M0 F) H vs ds
 | _, _, _, .nil, e => by cases e; exact .nil
 | _, _, _, .cons h t, e => by
  unfold derSs at e
  split at e
  ·rename_i e1 e2
   cases e
   exact .cons (h.strong rs e1) (FOks.strong rs t e2)
  ·cases e
theorem FOks.length {M0 : Addr → Prop} {F : Fp} {ν : Nu} {H : Hp} : ∀ {vs : List V} {us : List FV}, FOks M0 F ν H vs us → vs.length = us.length
 | _, _, .nil => rfl
 | _, _, .cons _ t => by rw [List.length_cons, List.length_cons, FOks.length t]
noncomputable def SL (X : Cx) (XP : XPT) (mp : List Nat) (es : List Expr) (f : EM (List FV)) : Prop := ∀ (M0 : Addr → Prop) (F : Fp) (Γ : Gv) (ν : Nu) (σ : St) (H : Hp) (Q : List V → Hp → Prop), RS M0 F Γ ν H → Sees mp ν σ →
 EPost M0 F ν σ H XP (fun F' Γ' H' us => ∀ vs, FOks M0 F' ν H' vs us → Q vs H') (f Γ) → wpA X es σ H Q
theorem SL.run {β : Type} {M0 : Addr → Prop} {F : Fp} {Γ : Gv} {ν : Nu} {σ : St} {H : Hp} {P : Fp → Gv → Hp → β → Prop} {fl : EM (List FV)} {Q : List V → Hp → Prop} {k : List FV × Gv → R (β × Gv)} (ha : SL X XP mp es fl) (rs : RS M0 F Γ ν H) (hs : Sees mp ν σ) (h : EPost M0 F ν σ H XP P ((fl Γ).bind k))
  (kk : ∀ F1 Γ1 H1 us vs, RS M0 F1 Γ1 ν H1 → Stp F H F1 H1 → FOks M0 F1 ν H1 vs us → EPost M0 F1 ν σ H1 XP P (k (us, Γ1)) → Q vs H1) : wpA X es σ H Q :=
 ha M0 F Γ ν σ H Q rs hs (h.seq.mono fun F1 Γ1 H1 u rs1 s1 h1 v hv => kk F1 Γ1 H1 u v rs1 s1 hv h1)
noncomputable def fNil : EM (List FV) := fun Γ => .ok ([], Γ)
noncomputable def fCons (fa : EM FV) (fl : EM (List FV)) : EM (List FV) := fun Γ => (fa Γ).bind fun (u, Γ1) => (fl Γ1).bind fun (us, Γ2) => .ok (u :: us, Γ2)
theorem sl_nil : SL X XP mp [] fNil := fun M0 F Γ ν σ H Q rs hs hp => pa_nil.wp (hp F H rs (.refl _ _) [] .nil)
theorem sl_cons {fl : EM (List FV)} (ha : SE X XP mp a fa) (hl : SL X XP mp es fl) (hst : starEach (a :: es) X.env = (false, eval a X.env) :: starEach es X.env) : SL X XP mp (a :: es) (fCons fa fl) := fun M0 F Γ ν σ H Q rs hs hp =>
 (pa_cons pe_self pa_self hst).wp (ha.run rs hs hp fun F1 Γ1 H1 u v rs1 s1 o1 h1 => hl.run rs1 hs h1 fun F2 Γ2 H2 us vs rs2 s2 o2 h2 => h2 F2 H2 rs2 (.refl _ _) _ (.cons (o1.stp s2 rs1.al0) o2))
theorem sz6 {n : Nat} (h : n ≤ 1000000) : n ≤ sizeLine := by have := sizeLine_eq; omega
noncomputable def fTup (fl : EM (List FV)) : EM FV := fun Γ => (fl Γ).bind fun (us, Γ1) => match derSs Γ1 us with
 | some ds => if us.length ≤ 1000000 then .ok (.dat (.tuple ds), Γ1) else .bad
 | none => .bad
noncomputable def fLst (fl : EM (List FV)) : EM (List PyData) := fun Γ => (fl Γ).bind fun (us, Γ1) => match derSs Γ1 us with
 | some ds => if us.length ≤ 1000000 then .ok (ds, Γ1) else .bad
 | none => .bad
theorem se_tup {fl : EM (List FV)} {x1} (h : SL X XP mp es fl) : SE X XP mp (.Tuple es x1 pos) (fTup fl) := fun M0 F Γ ν σ H Q rs hs hp =>
 (pe_tup pa_self).wp (h.run rs hs hp fun F1 Γ1 H1 us vs rs1 s1 o1 h1 => by
  dsimp only at h1
  split at h1
  ·rename_i ds e
   split at h1
   ·rename_i hz
    exact ⟨by rw [o1.length]; exact sz6 hz, fun p n => h1 F1 _ (rs1.same (upd_new n)) (.same (upd_new n)) _ (Rep.tuple upd_same ((o1.strong rs1 e).grow (upd_new n).grow))⟩
   ·exact h1.elim
  ·exact h1.elim)
theorem sn_lst {fl : EM (List FV)} (h : SL X XP mp es fl) : SN X XP mp (.List es pos) (fLst fl) := fun M0 F Γ ν σ H Q rs hs hp =>
 (pe_lst pa_self).wp (h.run rs hs hp fun F1 Γ1 H1 us vs rs1 s1 o1 h1 => by
  dsimp only at h1
  split at h1
  ·rename_i ds e
   split at h1
   ·rename_i hz
    exact ⟨by rw [o1.length]; exact sz6 hz, fun p n => h1 F1 H1 rs1 (.refl _ _) vs p (o1.strong rs1 e) n⟩
   ·exact h1.elim
  ·exact h1.elim)
noncomputable def itemF (Γ : Gv) (u : FV) (i : Int) : Option PyData := match u with
 | .dat (.list xs) => atI xs i
 | .dat (.tuple xs) => atI xs i
 | .own k => match Γ[k]? with
  | some (some (.l xs)) => match atI xs i with
   | some (.d x) => some x
   | _ => none
  | some (some (.d (.list xs))) => atI xs i
  | _ => none
 | _ => none
theorem atI_nth {α : Type} {xs : List α} {i : Int} {x : α} (h : atI xs i = some x) : ∃ j, ixN xs.length i = some j ∧ xs[j]? = some x := by
 unfold atI at h
 cases e : ixN xs.length i with
 | none => rw [e] at h; cases h
 | some j => rw [e] at h; exact ⟨j, rfl, h⟩
theorem atI_of {α : Type} {xs : List α} {i : Int} {x : α} {j : Nat} (h : ixN xs.length i = some j) (h2 : xs[j]? = some x) : atI xs i = some x := by
 unfold atI; rw [h]; exact h2
theorem FOk.item {M0 : Addr → Prop} {F : Fp} {Γ : Gv} {ν : Nu} {H : Hp} {v : V} {u : FV} {i : Int} {x : PyData} {K : PySem.W.Frag} (h : FOk M0 F ν H v u) (rs : RS M0 F Γ ν H) (e : itemF Γ u i = some x) :
  ∃ l vs w, v = .ref l ∧ (SqL K H l vs ∨ SqT K H l vs) ∧ atI vs i = some w ∧ Rep (MM M0 F) H w x := by
 unfold itemF at e
 split at e
 ·obtain ⟨a, vs, rfl, e1, _, r⟩ := Rep.lst_inv h
  obtain ⟨w, ew, rw'⟩ := atI_rep r e
  exact ⟨a, vs, w, rfl, .inl (SqL.of e1), ew, rw'⟩
 ·obtain ⟨a, vs, rfl, e1, r⟩ := Rep.tup_inv h
  obtain ⟨w, ew, rw'⟩ := atI_rep r e
  exact ⟨a, vs, w, rfl, .inr (SqT.of e1), ew, rw'⟩
 ·rename_i k
  have h' : ν[k]? = some (some v) := h
  split at e
  ·rename_i q
   split at e
   ·rename_i y eo
    cases e
    obtain ⟨w, e1, r⟩ := rs.at' k _ q
    rw [h'] at e1; cases e1
    generalize F k = A at r
    cases r with
    | l ea qa =>
     obtain ⟨j, ej, exj⟩ := atI_nth eo
     obtain ⟨w, ew, r⟩ := qa.get exj
     rw [← qa.length] at ej
     exact ⟨_, _, w, rfl, .inl (SqL.of ea), atI_of ej ew, r⟩
   ·cases e
  ·rename_i q
   obtain ⟨w, e1, r⟩ := rs.at' k _ q
   rw [h'] at e1; cases e1
   generalize F k = A at r
   cases r with
   | d r =>
    obtain ⟨a, vs, rfl, e1, _, r⟩ := Rep.lst_inv r
    obtain ⟨w, ew, rw'⟩ := atI_rep r e
    exact ⟨a, vs, w, rfl, .inl (SqL.of e1), ew, rw'⟩
  ·cases e
 ·cases e
noncomputable def fIx (fa fb : EM FV) : EM FV := fun Γ => (fa Γ).bind fun (u, Γ1) => (fb Γ1).bind fun (w, Γ2) => match derf Γ2 w with
 | some (.int i) => match itemF Γ2 u i with
  | some x => .ok (.dat x, Γ2)
  | none => .bad
 | _ => .bad
theorem se_ix (ha : SE X XP mp a fa) (hb : SE X XP mp b fb) (hx : PlainIx b) : SE X XP mp (.Subscript a b pos) (fIx fa fb) := fun M0 F Γ ν σ H Q rs hs hp =>
 (pe_ix (ix_list.or ix_tup) pe_self pe_self hx).wp (ha.run rs hs hp fun F1 Γ1 H1 u v rs1 s1 o1 h1 => hb.run rs1 hs h1 fun F2 Γ2 H2 w v2 rs2 s2 o2 h2 => by
  dsimp only at h2
  split at h2
  ·rename_i i e1
   split at h2
   ·rename_i x e2
    obtain ⟨l, vs, z, rfl, hq, ez, rz⟩ := (o1.stp s2 rs1.al0).item (K := X.K) rs2 e2
    cases o2.weak rs2 e1
    rcases hq with hq | hq
    ·exact .inl ⟨l, vs, i, z, rfl, rfl, hq, ez, h2 F2 H2 rs2 (.refl _ _) z rz⟩
    ·exact .inr ⟨l, vs, i, z, rfl, rfl, hq, ez, h2 F2 H2 rs2 (.refl _ _) z rz⟩
   ·exact h2.elim
  ·exact h2.elim)
noncomputable def SOp (X : Cx) (XP : XPT) (mp : List Nat) (e : Option Expr) (f : EM (Option Int)) : Prop := ∃ t : TO, PO X e t ∧ ∀ (M0 : Addr → Prop) (F : Fp) (Γ : Gv) (ν : Nu) (σ : St) (H : Hp) (Q : Option Int → Hp → Prop), RS M0 F Γ ν H → Sees mp ν σ →
 EPost M0 F ν σ H XP (fun F' Γ' H' b => Q b H') (f Γ) → t σ H Q
noncomputable def fNoE : EM (Option Int) := fun Γ => .ok (none, Γ)
noncomputable def fEnd (fa : EM FV) : EM (Option Int) := fun Γ => (fa Γ).bind fun (u, Γ1) => match derf Γ1 u with
 | some (.int i) => .ok (some i, Γ1)
 | _ => .bad
theorem so_none : SOp X XP mp none fNoE := ⟨_, po_none, fun M0 F Γ ν σ H Q rs hs hp => hp F H rs (.refl _ _)⟩
theorem so_some (ha : SE X XP mp a fa) : SOp X XP mp (some a) (fEnd fa) := ⟨_, po_some pe_self, fun M0 F Γ ν σ H Q rs hs hp => ha.run rs hs hp fun F1 Γ1 H1 u v rs1 s1 o1 h1 => by
 dsimp only at h1
 split at h1
 ·rename_i i e1
  cases o1.weak rs1 e1
  exact ⟨i, rfl, h1 F1 H1 rs1 (.refl _ _)⟩
 ·exact h1.elim⟩
noncomputable def fCat (fa fb : EM FV) : EM (List PyData) := fun Γ => (fa Γ).bind fun (u, Γ1) => (fb Γ1).bind fun (w, Γ2) => match derL Γ2 u, derL Γ2 w with
 | some xs, some ys => if xs.length + ys.length ≤ 1000000 then .ok (xs ++ ys, Γ2) else .bad
 | _, _ => .bad
theorem sn_cat (ha : SE X XP mp a fa) (hb : SE X XP mp b fb) : SN X XP mp (.BinOp a .Add b pos) (fCat fa fb) := fun M0 F Γ ν σ H Q rs hs hp =>
 (pe_op op_cat pe_self pe_self).wp (ha.run rs hs hp fun F1 Γ1 H1 u v rs1 s1 o1 h1 => hb.run rs1 hs h1 fun F2 Γ2 H2 w v2 rs2 s2 o2 h2 => by
  dsimp only at h2
  split at h2
  ·rename_i xs ys e1 e2
   split at h2
   ·rename_i hz
    obtain ⟨l, vs, rfl, el, rl⟩ := (o1.stp s2 rs1.al0).list rs2 e1
    obtain ⟨l2, vs2, rfl, el2, rl2⟩ := o2.list rs2 e2
    exact ⟨l, l2, vs, vs2, rfl, rfl, el, el2, by rw [rl.length, rl2.length]; exact sz6 hz, fun p n => h2 F2 H2 rs2 (.refl _ _) _ p (rl.append rl2) n⟩
   ·exact h2.elim
  ·exact h2.elim)
structure BiK (X : Cx) (x : Str) (val : Value) : Prop where
 gl : Gl X x
 mg : X.mg x = none
 bt : bootBuiltins x = some val
 n : x ≠ "__name__"
 d : (x == ("__debug__" : Str)) = false
noncomputable def lenD : PyData → Option Nat
 | .list xs => some xs.length
 | .tuple xs => some xs.length
 | _ => none
noncomputable def f1 (g : PyData → Option PyData) (fa : EM FV) : EM FV := fun Γ => (fa Γ).bind fun (u, Γ1) => match (derf Γ1 u).bind g with
 | some y => .ok (.dat y, Γ1)
 | none => .bad
noncomputable def CallS (X : Cx) (f : Value) (g : PyData → Option PyData) : Prop := ∀ x z, g x = some z → noL z = true ∧ ∃ r, CallR X f r ∧ ∀ (H : Hp) (v : V) (Q : VK),
 Rep Nothing H v x → (∀ w, Rep Nothing H w z → Q w H) → r [v] H Q
theorem callR_of {f : Value} {g : PyData → Option PyData} (ho : CallS X f g) : CallR X f (fun vs H Q => ∃ v x z, vs = [v] ∧ g x = some z ∧ Rep Nothing H v x ∧ ∀ w, Rep Nothing H w z → Q w H) := by
 rintro pins s σ H xs us Q I r ⟨v, x, z, rfl, e, rv, k⟩
 obtain ⟨_, r', hr, hh⟩ := ho x z e
 exact hr pins s σ H [v] us Q I r (hh H v Q rv k)
theorem f1_run {M0 : Addr → Prop} {F : Fp} {Γ : Gv} {ν : Nu} {σ : St} {H : Hp} {g : PyData → Option PyData} {Q : VK} (hz : ∀ x z, g x = some z → noL z = true) (ha : SE X XP mp a fa) (rs : RS M0 F Γ ν H) (hs : Sees mp ν σ) (hst : starEach [a] X.env = [(false, eval a X.env)])
  (hp : EPost M0 F ν σ H XP (fun F' Γ' H' u => ∀ v, FOk M0 F' ν H' v u → Q v H') (f1 g fa Γ)) : wpA X [a] σ H fun vs H1 => ∃ v x z, vs = [v] ∧ g x = some z ∧ Rep Nothing H1 v x ∧ ∀ w, Rep Nothing H1 w z → Q w H1 :=
 (pa_cons pe_self pa_nil hst).wp (ha.run rs hs hp fun F1 Γ1 H1 u v rs1 s1 o1 h1 => by
  dsimp only at h1
  split at h1
  ·rename_i y ey
   cases ex : derf Γ1 u with
   | none => rw [ex] at ey; cases ey
   | some x =>
    rw [ex] at ey
    exact ⟨v, x, y, rfl, ey, o1.weak rs1 ex, fun w rw' => h1 F1 H1 rs1 (.refl _ _) w (Rep.free (hz x y ey) rw')⟩
  ·exact h1.elim)
theorem se_b1 {x : Str} {id : String} {g : PyData → Option PyData} (ho : CallS X (.builtin id) g) (B : BiK X x (.builtin id)) (ha : SE X XP mp a fa) (hst : starEach [a] X.env = [(false, eval a X.env)]) : SE X XP mp (.Call (.Name x p) [a] [] pos) (f1 g fa) := fun M0 F Γ ν σ H Q rs hs hp =>
 (pe_callB (callR_of ho) B.gl B.mg B.bt pa_self B.n B.d hst rfl).wp (f1_run (fun x z e => (ho x z e).1) ha rs hs hst hp)
theorem se_t1 {x : Str} {id : String} {g : PyData → Option PyData} (ho : CallS X (.type id) g) (B : BiK X x (.type id)) (ha : SE X XP mp a fa) (hst : starEach [a] X.env = [(false, eval a X.env)]) : SE X XP mp (.Call (.Name x p) [a] [] pos) (f1 g fa) := fun M0 F Γ ν σ H Q rs hs hp =>
 (pe_callTy (callR_of ho) B.gl B.mg B.bt pa_self B.n B.d hst rfl).wp (f1_run (fun x z e => (ho x z e).1) ha rs hs hst hp)
noncomputable def gLen (x : PyData) : Option PyData := (lenD x).map fun n => .int n
theorem cs_len : CallS X (.builtin "len") gLen := fun x z e => by
 cases x with
 | list xs => cases e; exact ⟨rfl, _, call_len_seq, fun H v Q r k => by
   obtain ⟨l, vs, rfl, el, _, rl⟩ := r.lst_inv
   exact ⟨l, vs, rfl, .inl (SqL.of el), by rw [rl.length]; exact k _ (.int _)⟩⟩
 | tuple xs => cases e; exact ⟨rfl, _, call_len_seq, fun H v Q r k => by
   obtain ⟨l, vs, rfl, el, rl⟩ := r.tup_inv
   exact ⟨l, vs, rfl, .inr (SqT.of el), by rw [rl.length]; exact k _ (.int _)⟩⟩
 | _ => cases e
noncomputable def gInt : PyData → Option PyData
 | .int i => some (.int i)
 | .bool b => some (.int (if b then 1 else 0))
 | _ => none
theorem cs_int : CallS X (.type "int") gInt := fun x z e => by
 cases x with
 | int i => cases e; exact ⟨rfl, _, call_int1, fun H v Q r k => by cases r; exact .inl ⟨i, rfl, k _ (.int _)⟩⟩
 | bool b => cases e; exact ⟨rfl, _, call_int1, fun H v Q r k => by cases r; exact .inr ⟨b, rfl, k _ (.int _)⟩⟩
 | _ => cases e
noncomputable def boolsOf : List PyData → Option (List Bool)
 | [] => some []
 | .bool b :: r => (boolsOf r).map (b :: ·)
 | _ => none
theorem boolsOf_map (bs : List Bool) : boolsOf (bs.map .bool) = some bs := by
 induction bs with
 | nil => rfl
 | cons b r ih => simp [boolsOf, ih]
theorem boolsOf_eq : ∀ {ds : List PyData} {bs : List Bool}, boolsOf ds = some bs → ds = bs.map .bool
 | [], bs, e => by cases e; rfl
 | .bool b :: r, bs, e => by
  unfold boolsOf at e
  cases q : boolsOf r with
  | none => rw [q] at e; cases e
  | some l => rw [q] at e; cases e; rw [boolsOf_eq q]; rfl
 | .none :: r, bs, e => by cases e
 | .int _ :: r, bs, e => by cases e
 | .str _ :: r, bs, e => by cases e
 | .list _ :: r, bs, e => by cases e
 | .tuple _ :: r, bs, e => by cases e
 | .dict _ :: r, bs, e => by cases e
noncomputable def gAll : PyData → Option PyData
 | .list xs => (boolsOf xs).map fun bs => .bool (bs.all id)
 | _ => none
noncomputable def gAny : PyData → Option PyData
 | .list xs => (boolsOf xs).map fun bs => .bool (bs.any id)
 | _ => none
theorem cs_all (hc : X.calm = true) : CallS X (.builtin "all") gAll := fun x z e => by
 cases x with
 | list xs =>
  dsimp only [gAll] at e
  cases q : boolsOf xs with
  | none => rw [q] at e; cases e
  | some bs =>
   rw [q] at e; cases e
   exact ⟨rfl, _, call_allB hc, fun H v Q r k => by
    obtain ⟨l, vs, rfl, el, _, rl⟩ := r.lst_inv
    rw [boolsOf_eq q] at rl
    rw [rl.bls] at el
    exact ⟨l, bs, rfl, SqL.of el, k _ (.bool _)⟩⟩
 | _ => cases e
noncomputable def seqF (Γ : Gv) (u : FV) : Option (List PyData) := match u with
 | .dat (.tuple xs) => some xs
 | u => derL Γ u
theorem FOk.seq {M0 : Addr → Prop} {F : Fp} {Γ : Gv} {ν : Nu} {H : Hp} {v : V} {u : FV} {ds : List PyData} {K : PySem.W.Frag} (h : FOk M0 F ν H v u) (rs : RS M0 F Γ ν H) (e : seqF Γ u = some ds) :
  ∃ l vs, v = .ref l ∧ (SqL K H l vs ∨ SqT K H l vs) ∧ RepL (MM M0 F) H vs ds := by
 unfold seqF at e
 split at e
 ·cases e
  obtain ⟨a, vs, rfl, e1, r⟩ := Rep.tup_inv h
  exact ⟨a, vs, rfl, .inr (SqT.of e1), r⟩
 ·obtain ⟨a, vs, rfl, e1, r⟩ := h.list rs e
  exact ⟨a, vs, rfl, .inl (SqL.of e1), r⟩
noncomputable def fListC (fa : EM FV) : EM (List PyData) := fun Γ => (fa Γ).bind fun (u, Γ1) => match seqF Γ1 u with
 | some ds => .ok (ds, Γ1)
 | none => .bad
theorem sn_list {x : Str} (B : BiK X x (.type "list")) (ha : SE X XP mp a fa) (hst : starEach [a] X.env = [(false, eval a X.env)]) : SN X XP mp (.Call (.Name x p) [a] [] pos) (fListC fa) := fun M0 F Γ ν σ H Q rs hs hp =>
 (pe_callTy call_list_of B.gl B.mg B.bt (pa_cons pe_self pa_nil hst) B.n B.d hst rfl).wp (ha.run rs hs hp fun F1 Γ1 H1 u v rs1 s1 o1 h1 => by
  dsimp only at h1
  split at h1
  ·rename_i ds e
   obtain ⟨l, vs, rfl, hq, r⟩ := o1.seq (K := X.K) rs1 e
   exact ⟨l, vs, rfl, hq, fun p n => h1 F1 H1 rs1 (.refl _ _) vs p r n⟩
  ·exact h1.elim)
noncomputable def fTupC (fa : EM FV) : EM FV := fun Γ => (fa Γ).bind fun (u, Γ1) => match derL Γ1 u with
 | some ds => .ok (.dat (.tuple ds), Γ1)
 | none => .bad
theorem se_tuple {x : Str} (B : BiK X x (.type "tuple")) (ha : SE X XP mp a fa) (hst : starEach [a] X.env = [(false, eval a X.env)]) : SE X XP mp (.Call (.Name x p) [a] [] pos) (fTupC fa) := fun M0 F Γ ν σ H Q rs hs hp =>
 (pe_callTy call_tuple_of B.gl B.mg B.bt (pa_cons pe_self pa_nil hst) B.n B.d hst rfl).wp (ha.run rs hs hp fun F1 Γ1 H1 u v rs1 s1 o1 h1 => by
  dsimp only at h1
  split at h1
  ·rename_i ds e
   obtain ⟨l, vs, rfl, el, r⟩ := o1.list rs1 e
   exact ⟨l, vs, rfl, .inl ⟨SqL.of el, fun p n => h1 F1 _ (rs1.same (upd_new n)) (.same (upd_new n)) _ (Rep.tuple upd_same (r.grow (upd_new n).grow))⟩⟩
  ·exact h1.elim)
noncomputable def isiB (a T : String) : Option Bool := if T = "int" ∨ T = "bool" ∨ T = "list" ∨ T = "tuple" ∨ T = "str" then some (a == T || (a == "bool" && T == "int")) else none
theorem isi_ok {K : PySem.W.Frag} {x : PyData} {T : String} {k : Bool} (h : isiB (tyD x) T = some k) : PySem.W.kitOne K (.type (tyD x)) (.type T) = some k := by
 unfold isiB at h
 split at h
 ·rename_i hT
  cases h
  rcases hT with rfl | rfl | rfl | rfl | rfl <;> cases x <;> kernel_rfl
 ·cases h
noncomputable def fIsi (T : String) (fa : EM FV) : EM FV := fun Γ => (fa Γ).bind fun (u, Γ1) => match (derf Γ1 u).bind fun x => isiB (tyD x) T with
 | some k => .ok (.dat (.bool k), Γ1)
 | none => .bad
theorem se_isi {x y : Str} {T : String} (B : BiK X x (.builtin "isinstance")) (BT : BiK X y (.type T)) (ha : SE X XP mp a fa) (hst : starEach [a, .Name y p2] X.env = (false, eval a X.env) :: starEach [.Name y p2] X.env) :
  SE X XP mp (.Call (.Name x p) [a, .Name y p2] [] pos) (fIsi T fa) := fun M0 F Γ ν σ H Q rs hs hp =>
 (pe_callB call_isi B.gl B.mg B.bt (pa_cons pe_self (pa_cons (pe_bltn (v := .ty T) BT.gl BT.mg BT.bt rfl BT.n BT.d) pa_nil rfl) hst) B.n B.d hst rfl).wp (ha.run rs hs hp fun F1 Γ1 H1 u v rs1 s1 o1 h1 => by
  dsimp only at h1
  split at h1
  ·rename_i k ek
   cases ex : derf Γ1 u with
   | none => rw [ex] at ek; cases ek
   | some z =>
    rw [ex] at ek
    exact ⟨v, T, _, k, rfl, (o1.weak rs1 ex).ty, isi_ok ek, h1 F1 H1 rs1 (.refl _ _) _ (Rep.bool k)⟩
  ·exact h1.elim)
noncomputable def f2 (g : PyData → PyData → Option PyData) (fa fb : EM FV) : EM FV := fun Γ => (fa Γ).bind fun (u, Γ1) => (fb Γ1).bind fun (w, Γ2) => match derf Γ2 u, derf Γ2 w with
 | some x, some y => match g x y with
  | some z => .ok (.dat z, Γ2)
  | none => .bad
 | _, _ => .bad
noncomputable def gMin : PyData → PyData → Option PyData
 | .int i, .int j => some (.int (if j < i then j else i))
 | _, _ => none
noncomputable def gMax : PyData → PyData → Option PyData
 | .int i, .int j => some (.int (if j > i then j else i))
 | _, _ => none
theorem gMin_inv {x y z : PyData} (h : gMin x y = some z) : ∃ i j, x = .int i ∧ y = .int j ∧ z = .int (if j < i then j else i) := by
 cases x <;> cases y <;> cases h
 exact ⟨_, _, rfl, rfl, rfl⟩
theorem gMax_inv {x y z : PyData} (h : gMax x y = some z) : ∃ i j, x = .int i ∧ y = .int j ∧ z = .int (if j > i then j else i) := by
 cases x <;> cases y <;> cases h
 exact ⟨_, _, rfl, rfl, rfl⟩
theorem se_min2 {x : Str} (hc : X.calm = true) (B : BiK X x (.builtin "min")) (ha : SE X XP mp a fa) (hb : SE X XP mp b fb) (hst : starEach [a, b] X.env = (false, eval a X.env) :: starEach [b] X.env) (hst2 : starEach [b] X.env = [(false, eval b X.env)]) :
  SE X XP mp (.Call (.Name x p) [a, b] [] pos) (f2 gMin fa fb) := fun M0 F Γ ν σ H Q rs hs hp =>
 (pe_callB (call_min2 hc) B.gl B.mg B.bt (pa_cons pe_self (pa_cons pe_self pa_nil hst2) hst) B.n B.d hst (by rw [hst2]; rfl)).wp (ha.run rs hs hp fun F1 Γ1 H1 u v rs1 s1 o1 h1 => hb.run rs1 hs h1 fun F2 Γ2 H2 w v2 rs2 s2 o2 h2 => by
  dsimp only at h2
  split at h2
  ·rename_i x y e1 e2
   split at h2
   ·rename_i z e3
    obtain ⟨i, j, rfl, rfl, rfl⟩ := gMin_inv e3
    cases (o1.stp s2 rs1.al0).weak rs2 e1
    cases o2.weak rs2 e2
    exact ⟨i, j, rfl, h2 F2 H2 rs2 (.refl _ _) _ (Rep.int _)⟩
   ·exact h2.elim
  ·exact h2.elim)
theorem se_max2 {x : Str} (hc : X.calm = true) (B : BiK X x (.builtin "max")) (ha : SE X XP mp a fa) (hb : SE X XP mp b fb) (hst : starEach [a, b] X.env = (false, eval a X.env) :: starEach [b] X.env) (hst2 : starEach [b] X.env = [(false, eval b X.env)]) :
  SE X XP mp (.Call (.Name x p) [a, b] [] pos) (f2 gMax fa fb) := fun M0 F Γ ν σ H Q rs hs hp =>
 (pe_callB (call_max2 hc) B.gl B.mg B.bt (pa_cons pe_self (pa_cons pe_self pa_nil hst2) hst) B.n B.d hst (by rw [hst2]; rfl)).wp (ha.run rs hs hp fun F1 Γ1 H1 u v rs1 s1 o1 h1 => hb.run rs1 hs h1 fun F2 Γ2 H2 w v2 rs2 s2 o2 h2 => by
  dsimp only at h2
  split at h2
  ·rename_i x y e1 e2
   split at h2
   ·rename_i z e3
    obtain ⟨i, j, rfl, rfl, rfl⟩ := gMax_inv e3
    cases (o1.stp s2 rs1.al0).weak rs2 e1
    cases o2.weak rs2 e2
    exact ⟨i, j, rfl, h2 F2 H2 rs2 (.refl _ _) _ (Rep.int _)⟩
   ·exact h2.elim
  ·exact h2.elim)
noncomputable def gNeg : PyData → Option PyData
 | .int i => some (.int (-i))
 | _ => none
theorem se_neg (ha : SE X XP mp a fa) : SE X XP mp (.UnaryOp .USub a pos) (f1 gNeg fa) := fun M0 F Γ ν σ H Q rs hs hp =>
 (pe_un un_neg pe_self).wp (ha.run rs hs hp fun F1 Γ1 H1 u v rs1 s1 o1 h1 => by
  dsimp only at h1
  split at h1
  ·rename_i y ey
   cases ex : derf Γ1 u with
   | none => rw [ex] at ey; cases ey
   | some x =>
    rw [ex] at ey
    cases x with
    | int i =>
     cases ey
     cases o1.weak rs1 ex
     exact ⟨i, rfl, h1 F1 H1 rs1 (.refl _ _) _ (Rep.int _)⟩
    | _ => cases ey
  ·exact h1.elim)
open Classical in
noncomputable def binD (op : Operator) (x y : PyData) : Option PyData := match op, x, y with
 | .Add, .int i, .int j => some (.int (i + j))
 | .Sub, .int i, .int j => some (.int (i - j))
 | .Mult, .int i, .int j => if (-(2 ^ 64) < i ∧ i < 2 ^ 64) ∨ (-(2 ^ 64) < j ∧ j < 2 ^ 64) then some (.int (i * j)) else none
 | .Mod, .int i, .int j => if 0 < j then some (.int (i % j)) else none
 | .FloorDiv, .int i, .int j => if 0 < j ∧ j < 1073741824 then some (.int (i / j)) else none
 | .Pow, .int i, .int j => if 0 ≤ j ∧ j ≤ 1000000 ∧ i.natAbs < 2 ^ 64 then some (.int (i ^ j.toNat)) else none
 | .LShift, .int i, .int j => if 0 ≤ j ∧ j ≤ 1000000 ∧ i.natAbs < 2 ^ 64 then some (.int (i * 2 ^ j.toNat)) else none
 | .RShift, .int i, .int j => if 0 ≤ j then some (.int (i / 2 ^ j.toNat)) else none
 | .BitAnd, .int i, .int j => some (.int (Builtin.bitAnd i j))
 | .Add, .tuple a, .tuple b => if a.length + b.length ≤ 1000000 then some (.tuple (a ++ b)) else none
 | .Mult, .tuple a, .int n => if 0 ≤ n ∧ n < 1000000 ∧ a.length * n.toNat ≤ 1000000 then some (.tuple (List.replicate n.toNat a).flatten) else none
 | _, _, _ => none
theorem ints_op {op : Operator} {x y z : PyData} {i j k : Int} {C : Int → Int → Prop} {f : Int → Int → Int} (hc : C i j) (ho : OpR X (binaryOp op) (rI C fun i j => .int (f i j))) :
  ∃ r : R2, OpR X (binaryOp op) r ∧ ∀ (M : Addr → Prop) (H : Hp) (v u : V) (Q : VK), Al M H → Rep M H v (.int i) → Rep M H u (.int j) → (∀ w H', Same H H' → Rep M H' w (.int (f i j)) → Q w H') → r v u H Q :=
 ⟨_, ho, fun M H v u Q _ r1 r2 k => by cases r1; cases r2; exact ⟨i, j, rfl, rfl, hc, k _ H (Same.refl H) (.int _)⟩⟩
theorem ints_op0 {op : Operator} {i j : Int} {f : Int → Int → Int} (ho : OpR X (binaryOp op) (rI0 fun i j => .int (f i j))) :
  ∃ r : R2, OpR X (binaryOp op) r ∧ ∀ (M : Addr → Prop) (H : Hp) (v u : V) (Q : VK), Al M H → Rep M H v (.int i) → Rep M H u (.int j) → (∀ w H', Same H H' → Rep M H' w (.int (f i j)) → Q w H') → r v u H Q :=
 ⟨_, ho, fun M H v u Q _ r1 r2 k => by cases r1; cases r2; exact ⟨i, j, rfl, rfl, k _ H (Same.refl H) (.int _)⟩⟩
theorem bin_ok (op : Operator) : OpS X (binaryOp op) (binD op) := fun x y z e => by
 unfold binD at e
 split at e
 ·cases e; exact ints_op0 op_add
 ·cases e; exact ints_op0 op_sub
 ·split at e
  ·rename_i h; cases e; exact ints_op (x := .none) (y := .none) (z := .none) (k := 0) h op_mul
  ·cases e
 ·split at e
  ·rename_i h; cases e; exact ints_op (x := .none) (y := .none) (z := .none) (k := 0) h op_mod
  ·cases e
 ·split at e
  ·rename_i h; cases e; exact ints_op (x := .none) (y := .none) (z := .none) (k := 0) h op_fdiv
  ·cases e
 ·split at e
  ·rename_i h; cases e; exact ints_op (x := .none) (y := .none) (z := .none) (k := 0) h op_pow
  ·cases e
 ·split at e
  ·rename_i h; cases e; exact ints_op (x := .none) (y := .none) (z := .none) (k := 0) h op_shl
  ·cases e
 ·split at e
  ·rename_i h; cases e; exact ints_op (x := .none) (y := .none) (z := .none) (k := 0) (C := fun _ j => 0 ≤ j) h op_shr
  ·cases e
 ·cases e; exact ints_op0 op_and
 ·split at e
  ·rename_i h
   cases e
   exact ⟨_, op_catT2, fun M H v u Q _ q1 q2 k => by
    obtain ⟨l, vs, rfl, e, r⟩ := q1.tup_inv
    obtain ⟨l2, vs2, rfl, e2, r2⟩ := q2.tup_inv
    refine ⟨l, l2, vs, vs2, rfl, rfl, SqT.of e, SqT.of e2, by rw [r.length, r2.length]; exact sz6 h, fun z => k _ H (Same.refl H) ?_, fun z => k _ H (Same.refl H) ?_, fun p np => k _ _ (upd_new np) (.tuple upd_same ((r.append r2).grow (upd_new np).grow))⟩
    ·subst z
     cases r
     exact q2
    ·subst z
     cases r2
     rw [List.append_nil]; exact q1⟩
  ·cases e
 ·split at e
  ·rename_i h
   cases e
   exact ⟨_, op_repT, fun M H v u Q _ q1 q2 k => by
    obtain ⟨l, vs, rfl, e, r⟩ := q1.tup_inv
    cases q2
    refine ⟨l, _, vs, rfl, rfl, SqT.of e, by omega, by omega, by rw [r.length]; exact sz6 h.2.2, fun hs => k _ H (Same.refl H) ?_, fun p np => k _ _ (upd_new np) (.tuple upd_same ((r.rep _).grow (upd_new np).grow))⟩
    rcases hs with z | z
    ·subst z
     cases r
     rename_i n _
     have : (List.replicate n.toNat ([] : List PyData)).flatten = [] := by simp
     rw [this]; exact q1
    ·subst z
     have key : ∀ l : List PyData, (List.replicate (1 : Int).toNat l).flatten = l := fun l => by simp
     rw [key]; exact q1⟩
  ·cases e
 ·cases e
noncomputable def lay : Nat → PyData → Bool
 | _, .none => true
 | _, .bool _ => true
 | _, .int _ => true
 | _, .str x => PyData.strOk x
 | n + 1, .list xs => xs.all (lay n)
 | n + 1, .tuple xs => xs.all (lay n)
 | _, _ => false
theorem lay_all {n : Nat} (ih : ∀ d, lay n d = true → d.canLay0 = true ∧ d.depth ≤ n) : ∀ xs : List PyData, xs.all (lay n) = true → PyData.canLayAll0 xs = true ∧ PyData.depthAll xs ≤ n
 | [], _ => ⟨rfl, Nat.zero_le _⟩
 | x :: r, h => by
  rw [List.all_cons, Bool.and_eq_true] at h
  obtain ⟨a, b⟩ := ih x h.1
  obtain ⟨c, d⟩ := lay_all ih r h.2
  exact ⟨by simp [PyData.canLayAll0, a, c], by simp only [PyData.depthAll]; omega⟩
theorem lay_ok : ∀ (n : Nat) (d : PyData), lay n d = true → d.canLay0 = true ∧ d.depth ≤ n
 | n, .none, _ => ⟨rfl, Nat.zero_le _⟩
 | n, .bool _, _ => ⟨rfl, Nat.zero_le _⟩
 | n, .int _, _ => ⟨rfl, Nat.zero_le _⟩
 | n, .str _, h => ⟨by simpa [PyData.canLay0, lay] using h, Nat.zero_le _⟩
 | n + 1, .list xs, h => by
  obtain ⟨a, b⟩ := lay_all (lay_ok n) xs (by simpa [lay] using h)
  exact ⟨by simpa [PyData.canLay0] using a, by simp only [PyData.depth]; omega⟩
 | n + 1, .tuple xs, h => by
  obtain ⟨a, b⟩ := lay_all (lay_ok n) xs (by simpa [lay] using h)
  exact ⟨by simpa [PyData.canLay0] using a, by simp only [PyData.depth]; omega⟩
 | 0, .list _, h => by simp [lay] at h
 | 0, .tuple _, h => by simp [lay] at h
 | 0, .dict _, h => by simp [lay] at h
 | n + 1, .dict _, h => by simp [lay] at h
noncomputable def isN : PyData → Bool
 | .none => true
 | _ => false
noncomputable def inD (x : PyData) (ys : List PyData) : Bool := ys.any fun y => PyData.eqv y x
noncomputable def cmpD (op : CmpOp) (x y : PyData) : Option Bool := match op, x, y with
 | .Eq, x, y => if lay 20 x && lay 20 y then some (PyData.eqv x y) else none
 | .NotEq, x, y => if lay 20 x && lay 20 y then some (!PyData.eqv x y) else none
 | .Lt, .int i, .int j => some (decide (i < j))
 | .LtE, .int i, .int j => some (decide (i ≤ j))
 | .Gt, .int i, .int j => some (decide (j < i))
 | .GtE, .int i, .int j => some (decide (j ≤ i))
 | .In, x, .list ys => if lay 20 x && ys.all (lay 20) then some (inD x ys) else none
 | .In, x, .tuple ys => if lay 20 x && ys.all (lay 20) then some (inD x ys) else none
 | .NotIn, x, .list ys => if lay 20 x && ys.all (lay 20) then some (!inD x ys) else none
 | .NotIn, x, .tuple ys => if lay 20 x && ys.all (lay 20) then some (!inD x ys) else none
 | .Is, x, .none => some (isN x)
 | .IsNot, x, .none => some (!isN x)
 | _, _, _ => none
end
end L3
namespace L3
open PySem PySem.Spec PyProof.Rows L2
section
variable {X : Cx}
open Classical in
/-- is the value w equal to the data? -/
noncomputable def eqW (h : Heap) (dx : PyData) (w : Value) : Bool := if ∃ d as, Reads h w d as ∧ d.canLay0 = true ∧ PyData.eqv d dx = true then true else false
theorem eqW_of {h : Heap} {dx d : PyData} {w : Value} {as : List Addr} (r : Reads h w d as) (hl : d.canLay0 = true) : eqW h dx w = PyData.eqv d dx := by
 unfold eqW
 cases e : PyData.eqv d dx with
 | true => rw [if_pos ⟨d, as, r, hl, e⟩]
 | false =>
  rw [if_neg]
  rintro ⟨d', as', r', hl', e'⟩
  have := SeqAt.Reads.unique d d' w as as' hl r r'
  rw [← this, e] at e'; cases e'
theorem any_eqW {h : Heap} {dx : PyData} : ∀ {us : List Value} {ys : List PyData} {as : List Addr}, ReadsAll h us ys as → ys.all (lay 20) = true → us.any (eqW h dx) = inD dx ys
 | _, _, _, .nil, _ => rfl
 | _, _, _, .cons r t, hl => by
  rw [List.all_cons, Bool.and_eq_true] at hl
  unfold inD
  rw [List.any_cons, List.any_cons, eqW_of r (lay_ok 20 _ hl.1).1, any_eqW t hl.2]; rfl
theorem mem_eqW {A : Around} {s : Shared} {dx : PyData} {v : Value} {bs : List Addr} (rx : Reads s.heap v dx bs) (hx : lay 20 dx = true) (hu : ∀ n, n ≤ 60 → A.units + n < cLine) : ∀ {us : List Value} {ys : List PyData} {as : List Addr}, ReadsAll s.heap us ys as → ys.all (lay 20) = true → ∀ u ∈ us, SeqAt.EqAt A s u v (eqW s.heap dx u)
 | _, _, _, .nil, _ => fun u hu => by cases hu
 | _, _, _, .cons (d := d) r t, hl => fun u' hu' => by
  rw [List.all_cons, Bool.and_eq_true] at hl
  rcases List.mem_cons.mp hu' with rfl | hu'
  ·rw [eqW_of r (lay_ok 20 _ hl.1).1]
   have h1 := lay_ok 20 _ hl.1
   have h2 := lay_ok 20 _ hx
   exact SeqAt.eqAt_reads _ _ _ _ _ _ _ _ r rx h1.1 h2.1 (hu _ (Nat.le_trans (Nat.min_le_left _ _) (by omega)))
  ·exact mem_eqW rx hx hu t hl.2 u' hu'
noncomputable def rInD (K : PySem.W.Frag) (neg : Bool) : R2 := fun x y H Q => ∃ M M' dx ys p vs, Rep M H x dx ∧ y = .ref p ∧ (SqL K H p vs ∨ SqT K H p vs) ∧ RepL M' H vs ys ∧ lay 20 dx = true ∧ ys.all (lay 20) = true ∧ Q (.bl (if neg then !inD dx ys else inD dx ys)) H
theorem op_inD (hr : Room 1 X.A) : OpR X (compareOp .In) (rInD X.K false) := by
 intro pins s σ H x y v u Q I rx ry h
 obtain ⟨M, M', dx, ys, p, vs, r1, rfl, hq, r2, l1, l2, q⟩ := h
 cases ry
 obtain ⟨bs, z1⟩ := r1.reads I.hok rx
 have hu : ∀ n, n ≤ 60 → X.A.in1.units + n < cLine := (hr.in1).u60
 rcases hq with hq | hq
 ·obtain ⟨its, r, pl, hz⟩ := I.list hq
  obtain ⟨as, z2⟩ := r2.reads I.hok r
  refine SeqAt.in_listAt (eqW s.heap dx) pl.isList (fun w hw => mem_eqW z1 l1 hu z2 l2 w (by simpa using hw)) ⟨.bl _, H, I, rfl, ?_⟩
  rw [show its.toArray.any (eqW s.heap dx) = its.any (eqW s.heap dx) by simp, any_eqW z2 l2]
  exact q
 ·obtain ⟨its, r, pl, hz⟩ := I.tuple hq
  obtain ⟨as, z2⟩ := r2.reads I.hok r
  refine SeqAt.in_tupleAt (eqW s.heap dx) pl (fun w hw => mem_eqW z1 l1 hu z2 l2 w (by simpa using hw)) ⟨.bl _, H, I, rfl, ?_⟩
  rw [show its.toArray.any (eqW s.heap dx) = its.any (eqW s.heap dx) by simp, any_eqW z2 l2]
  exact q
theorem op_notInD (hr : Room 1 X.A) : OpR X (compareOp .NotIn) (rInD X.K true) := by
 intro pins s σ H x y v u Q I rx ry h
 obtain ⟨M, M', dx, ys, p, vs, r1, rfl, hq, r2, l1, l2, q⟩ := h
 cases ry
 obtain ⟨bs, z1⟩ := r1.reads I.hok rx
 have hu : ∀ n, n ≤ 60 → X.A.in1.units + n < cLine := (hr.in1).u60
 rcases hq with hq | hq
 ·obtain ⟨its, r, pl, hz⟩ := I.list hq
  obtain ⟨as, z2⟩ := r2.reads I.hok r
  refine SeqAt.notIn_listAt (eqW s.heap dx) pl.isList (fun w hw => mem_eqW z1 l1 hu z2 l2 w (by simpa using hw)) ⟨.bl _, H, I, rfl, ?_⟩
  rw [show its.toArray.any (eqW s.heap dx) = its.any (eqW s.heap dx) by simp, any_eqW z2 l2]
  exact q
 ·obtain ⟨its, r, pl, hz⟩ := I.tuple hq
  obtain ⟨as, z2⟩ := r2.reads I.hok r
  refine SeqAt.notIn_tupleAt (eqW s.heap dx) pl (fun w hw => mem_eqW z1 l1 hu z2 l2 w (by simpa using hw)) ⟨.bl _, H, I, rfl, ?_⟩
  rw [show its.toArray.any (eqW s.heap dx) = its.any (eqW s.heap dx) by simp, any_eqW z2 l2]
  exact q
theorem rep_isNone {M : Addr → Prop} {H : Hp} {v : V} {x : PyData} (r : Rep M H v x) : decide (v = .non) = isN x := by
 cases r <;> rfl
theorem cmp_ok (hr : Room 1 X.A) (op : CmpOp) : CmpS X op (cmpD op) := fun x y z e => by
 have h60 : ∀ n, n ≤ 60 → X.A.units + n < cLine := hr.u60
 unfold cmpD at e
 split at e
 ·split at e
  ·rename_i h
   cases e
   rw [Bool.and_eq_true] at h
   have h1 := lay_ok 20 _ h.1
   have h2 := lay_ok 20 _ h.2
   exact ⟨_, op_deepEq h60, fun H v u Q r1 r2 k => ⟨_, _, _, _, r1, r2, h1.1, h2.1, Nat.le_trans (Nat.min_le_left _ _) (by omega), k⟩⟩
  ·cases e
 ·split at e
  ·rename_i h
   cases e
   rw [Bool.and_eq_true] at h
   have h1 := lay_ok 20 _ h.1
   have h2 := lay_ok 20 _ h.2
   exact ⟨_, op_deepNe h60, fun H v u Q r1 r2 k => ⟨_, _, _, _, r1, r2, h1.1, h2.1, Nat.le_trans (Nat.min_le_left _ _) (by omega), k⟩⟩
  ·cases e
 ·cases e; exact ⟨_, op_lt, fun H v u Q r1 r2 k => by cases r1; cases r2; exact ⟨_, _, rfl, rfl, k⟩⟩
 ·cases e; exact ⟨_, op_le, fun H v u Q r1 r2 k => by cases r1; cases r2; exact ⟨_, _, rfl, rfl, k⟩⟩
 ·cases e; exact ⟨_, op_gt, fun H v u Q r1 r2 k => by cases r1; cases r2; exact ⟨_, _, rfl, rfl, k⟩⟩
 ·cases e; exact ⟨_, op_ge, fun H v u Q r1 r2 k => by cases r1; cases r2; exact ⟨_, _, rfl, rfl, k⟩⟩
 ·split at e
  ·rename_i h
   cases e
   rw [Bool.and_eq_true] at h
   exact ⟨_, op_inD hr, fun H v u Q r1 r2 k => by
    obtain ⟨l, vs, rfl, el, _, rl⟩ := r2.lst_inv
    exact ⟨_, _, _, _, l, vs, r1, rfl, .inl (SqL.of el), rl, h.1, h.2, k⟩⟩
  ·cases e
 ·split at e
  ·rename_i h
   cases e
   rw [Bool.and_eq_true] at h
   exact ⟨_, op_inD hr, fun H v u Q r1 r2 k => by
    obtain ⟨l, vs, rfl, el, rl⟩ := r2.tup_inv
    exact ⟨_, _, _, _, l, vs, r1, rfl, .inr (SqT.of el), rl, h.1, h.2, k⟩⟩
  ·cases e
 ·split at e
  ·rename_i h
   cases e
   rw [Bool.and_eq_true] at h
   exact ⟨_, op_notInD hr, fun H v u Q r1 r2 k => by
    obtain ⟨l, vs, rfl, el, _, rl⟩ := r2.lst_inv
    exact ⟨_, _, _, _, l, vs, r1, rfl, .inl (SqL.of el), rl, h.1, h.2, k⟩⟩
  ·cases e
 ·split at e
  ·rename_i h
   cases e
   rw [Bool.and_eq_true] at h
   exact ⟨_, op_notInD hr, fun H v u Q r1 r2 k => by
    obtain ⟨l, vs, rfl, el, rl⟩ := r2.tup_inv
    exact ⟨_, _, _, _, l, vs, r1, rfl, .inr (SqT.of el), rl, h.1, h.2, k⟩⟩
  ·cases e
 ·cases e
  exact ⟨_, op_isN, fun H v u Q r1 r2 k => by cases r2; exact ⟨rfl, by rw [rep_isNone r1]; exact k⟩⟩
 ·cases e
  exact ⟨_, op_notN, fun H v u Q r1 r2 k => by
   cases r2
   refine ⟨rfl, ?_⟩
   rw [rep_isNone r1]; exact k⟩
 ·cases e
end
mutual
inductive IT where
 | nm (s i : Nat)
 | tp (ts : ITs)
inductive ITs where
 | nil
 | cons (t : IT) (ts : ITs)
end
mutual
/-- what a store makes of the frame -/
noncomputable def tgF : IT → PyData → Gv → Option Gv
 | .nm _ i, x, Γ => if i < Γ.length then some (Γ.set i (some (.d x))) else none
 | .tp ts, .tuple xs, Γ => tgFs ts xs Γ
 | _, _, _ => none
noncomputable def tgFs : ITs → List PyData → Gv → Option Gv
 | .nil, [], Γ => some Γ
 | .cons t ts, x :: xs, Γ => (tgF t x Γ).bind fun Γ => tgFs ts xs Γ
 | _, _, _ => none
end
noncomputable def ITs.len : ITs → Nat
 | .nil => 0
 | .cons _ ts => ts.len + 1
theorem tgFs_len : ∀ {ts : ITs} {ds : List PyData} {Γ Γ' : Gv}, tgFs ts ds Γ = some Γ' → ds.length = ts.len
 | .nil, [], _, _, _ => rfl
 | .nil, _ :: _, _, _, e => by simp [tgFs] at e
 | .cons t ts, [], _, _, e => by simp [tgFs] at e
 | .cons t ts, d :: ds, Γ, Γ', e => by
  rw [tgFs] at e
  cases q : tgF t d Γ with
  | none => rw [q] at e; cases e
  | some Γ1 => rw [q] at e; rw [List.length_cons, tgFs_len (ts := ts) e]; rfl
theorem tgF_length (t : IT) : ∀ (d : PyData) (Γ Γ' : Gv), tgF t d Γ = some Γ' → Γ'.length = Γ.length := by
 refine IT.rec (motive_1 := fun t => ∀ (d : PyData) (Γ Γ' : Gv), tgF t d Γ = some Γ' → Γ'.length = Γ.length) (motive_2 := fun ts => ∀ (ds : List PyData) (Γ Γ' : Gv), tgFs ts ds Γ = some Γ' → Γ'.length = Γ.length) ?_ ?_ ?_ ?_ t
 ·intro s i d Γ Γ' e
  rw [tgF] at e
  split at e
  ·cases e; simp
  ·cases e
 ·intro ts ih d Γ Γ' e
  cases d with
  | tuple xs => rw [tgF] at e; exact ih _ _ _ e
  | _ => simp [tgF] at e
 ·intro ds Γ Γ' e
  cases ds with
  | nil => simp [tgFs] at e; rw [e]
  | cons => simp [tgFs] at e
 ·intro t ts ih1 ih2 ds Γ Γ' e
  cases ds with
  | nil => simp [tgFs] at e
  | cons d ds =>
   rw [tgFs] at e
   cases q : tgF t d Γ with
   | none => rw [q] at e; cases e
   | some Γ1 => rw [q] at e; rw [ih2 _ _ _ e, ih1 _ _ _ q]
noncomputable def SG (X : Cx) (mp : List Nat) (kp : Nat → Prop) (tg : Expr) (t : IT) : Prop := ∀ (M0 : Addr → Prop) (F : Fp) (Γ Γ' : Gv) (ν : Nu) (σ : St) (H : Hp) (v : V) (d : PyData) (Q : St → Hp → Prop), RS M0 F Γ ν H → Sees mp ν σ → σ.length = X.N.length → Rep (MM M0 F) H v d →
 tgF t d Γ = some Γ' → (∀ F' ν' σ', RS M0 F' Γ' ν' H → Stp F H F' H → Sees mp ν' σ' → σ'.length = X.N.length → (∀ i : Nat, kp i → ν'[i]? = ν[i]?) → (∀ s i : Nat, mp[s]? = some i → kp i → σ'[s]? = σ[s]?) → Q σ' H) → wpG X tg v σ H Q
noncomputable def SGs (X : Cx) (mp : List Nat) (kp : Nat → Prop) (tgs : List Expr) (ts : ITs) : Prop := ∀ (M0 : Addr → Prop) (F : Fp) (Γ Γ' : Gv) (ν : Nu) (σ : St) (H : Hp) (vs : List V) (ds : List PyData) (Q : St → Hp → Prop), RS M0 F Γ ν H → Sees mp ν σ → σ.length = X.N.length → RepL (MM M0 F) H vs ds →
 tgFs ts ds Γ = some Γ' → (∀ F' ν' σ', RS M0 F' Γ' ν' H → Stp F H F' H → Sees mp ν' σ' → σ'.length = X.N.length → (∀ i : Nat, kp i → ν'[i]? = ν[i]?) → (∀ s i : Nat, mp[s]? = some i → kp i → σ'[s]? = σ[s]?) → Q σ' H) → wpGs X tgs vs σ H Q
section
variable {X : Cx} {mp : List Nat} {kp : Nat → Prop} {tg : Expr} {tgs : List Expr} {t : IT} {ts : ITs} {pos : Pos}
theorem Sees.set {ν : Nu} {σ : St} {s i : Nat} {v : V} (h : Sees mp ν σ) (hn : mp.Nodup) (hm : mp[s]? = some i) (hs : s < σ.length) : Sees mp (ν.set i (some v)) (σ.set s (some v)) := fun s' j w e1 e2 => by
 by_cases hj : i = j
 ·subst hj
  have : s' = s := by
   have h1 := (List.getElem?_eq_some_iff.mp e1).1
   have h2 := (List.getElem?_eq_some_iff.mp hm).1
   exact (List.getElem?_inj h1 hn).mp (by rw [e1, hm])
  subst this
  rw [List.getElem?_set_self hs]
  by_cases hl : i < ν.length
  ·rw [List.getElem?_set_self hl] at e2; rw [e2]
  ·rw [List.getElem?_eq_none (by simpa using hl)] at e2; cases e2
 ·rw [List.getElem?_set_ne hj] at e2
  have : s' ≠ s := fun z => hj (by subst z; rw [hm] at e1; exact Option.some.inj e1)
  rw [List.getElem?_set_ne (Ne.symm this)]
  exact h s' j w e1 e2
theorem sg_name {s i : Nat} {x : Str} (hN : X.N.Nodup) (hn : mp.Nodup) (hi : X.N[s]? = some x) (hm : mp[s]? = some i) (hlo : ¬ kp i) (hx : Loc X.env.scope x) (hf : X.fn x = true ∨ X.env.scope.names.lookup x = some .local) : SG X mp kp (.Name x pos) (.nm s i) :=
 fun M0 F Γ Γ' ν σ H v d Q rs hs hl r e k => by
  rw [tgF] at e
  split at e
  ·rename_i hi'
   cases e
   have hsl : s < σ.length := by rw [hl]; exact (List.getElem?_eq_some_iff.mp hi).1
   obtain ⟨F', rs', s'⟩ := rs.setD r hi'
   refine (pg_name hN hi hx hf).wp (k F' _ _ rs' s' (hs.set hn hm hsl) (by simpa using hl) (fun j hj => ?_) (fun s2 j e2 hj => ?_))
   ·rw [List.getElem?_set_ne (fun z => hlo (by rw [z]; exact hj))]
   ·rw [List.getElem?_set_ne]
    intro z
    subst z
    rw [hm] at e2
    cases e2
    exact hlo hj
  ·cases e
theorem sgs_nil : SGs X mp kp [] .nil := fun M0 F Γ Γ' ν σ H vs ds Q rs hs hl r e k => by
 cases r with
 | nil =>
  simp [tgFs] at e
  subst e
  exact pgs_nil.wp ⟨rfl, k F ν σ rs (.refl _ _) hs hl (fun _ _ => rfl) (fun _ _ _ _ => rfl)⟩
 | cons r rr => simp [tgFs] at e
theorem sgs_cons (h1 : SG X mp kp tg t) (h2 : SGs X mp kp tgs ts) (hst : (assignEach (tg :: tgs) X.env).map (·.2) = assign tg X.env :: (assignEach tgs X.env).map (·.2)) : SGs X mp kp (tg :: tgs) (.cons t ts) := fun M0 F Γ Γ' ν σ H vs ds Q rs hs hl r e k => by
 cases r with
 | nil => simp [tgFs] at e
 | cons r rr =>
  rename_i v vs d ds
  rw [tgFs] at e
  cases e1 : tgF t d Γ with
  | none => rw [e1] at e; cases e
  | some Γ1 =>
   rw [e1] at e
   refine (pgs_cons pg_self pgs_self hst).wp ⟨v, vs, rfl, h1 M0 F Γ Γ1 ν σ H v d _ rs hs hl r e1 fun F1 ν1 σ1 rs1 s1 hs1 hl1 n1 m1 => ?_⟩
   exact h2 M0 F1 Γ1 Γ' ν1 σ1 H vs ds _ rs1 hs1 hl1 (repL_stp s1 rs.al0 rr) e fun F2 ν2 σ2 rs2 s2 hs2 hl2 n2 m2 => k F2 ν2 σ2 rs2 (s1.trans s2) hs2 hl2 (fun i hi => (n2 i hi).trans (n1 i hi)) (fun s i e hi => (m2 s i e hi).trans (m1 s i e hi))
theorem sg_tup {n : Nat} (hc : X.calm = true) (h : SGs X mp kp tgs ts) (hl : ts.len = (assignEach tgs X.env).length) (hst : (assignEach tgs X.env).findIdx? (·.1) = none) : SG X mp kp (.Tuple tgs n pos) (.tp ts) := fun M0 F Γ Γ' ν σ H v d Q rs hs hl' r e k => by
 cases d with
 | tuple ds =>
  rw [tgF] at e
  obtain ⟨a, vs, rfl, ea, rr⟩ := r.tup_inv
  exact (pg_tup hc pgs_self rfl hst).wp ⟨a, vs, rfl, SqT.of ea, by rw [rr.length, tgFs_len e, hl], h M0 F Γ Γ' ν σ H vs ds Q rs hs hl' rr e k⟩
 | _ => simp [tgF] at e
end
end L3
namespace L3
open PySem PySem.Spec PyProof.Rows L2
noncomputable def JI (M0 : Addr → Prop) (F : Fp) (J : It) (ds : List PyData) (H1 : Hp) : Prop := ∀ (i : Nat) (F' : Fp) (H' : Hp), Stp F H1 F' H' → (∀ a, M0 a → H1 a ≠ none) →
 (∀ d, ds[i]? = some d → J.go i H' ∧ ∀ x H2, J.yld i H' x H2 → Same H' H2 ∧ Rep (MM M0 F') H2 x d) ∧ (ds.length ≤ i → J.stop i H')
noncomputable def SI (X : Cx) (XP : XPT) (mp : List Nat) (tg iter : Expr) (f : EM (List PyData)) : Prop := ∀ (M0 : Addr → Prop) (F : Fp) (Γ : Gv) (ν : Nu) (σ : St) (H : Hp) (R : It → Hp → Prop), RS M0 F Γ ν H → Sees mp ν σ →
 EPost M0 F ν σ H XP (fun F' Γ' H' ds => ∀ J, JI M0 F' J ds H' → R J H') (f Γ) → wpI X tg iter σ H R
section
variable {X : Cx} {XP : XPT} {mp : List Nat} {a b c e tg iter elt : Expr} {es ifs : List Expr} {pos p p2 : Pos} {fa fb fc : EM FV} {ta tb : EM Bool} {na nb : EM (List PyData)}
noncomputable def fSeqL (fa : EM FV) : EM (List PyData) := fun Γ => (fa Γ).bind fun (u, Γ1) => match derS Γ1 u with
 | some (.list ds) => .ok (ds, Γ1)
 | _ => .bad
noncomputable def fSeqT (fa : EM FV) : EM (List PyData) := fun Γ => (fa Γ).bind fun (u, Γ1) => match derS Γ1 u with
 | some (.tuple ds) => .ok (ds, Γ1)
 | _ => .bad
theorem ji_list {M0 : Addr → Prop} {F : Fp} {K : PySem.W.Frag} {H1 : Hp} {l : Addr} {ds : List PyData} {vs : List V} (e : H1 l = some (.lst vs)) (n : ¬ MM M0 F l) (r : RepL (MM M0 F) H1 vs ds) : JI M0 F (Itl K l) ds H1 := fun i F' H' s h0 => by
 have e' : H' l = some (.lst vs) := (s.keep l _ e fun j hj => n (.inr ⟨j, hj⟩)).1
 refine ⟨fun d hd => ?_, fun hl => ⟨vs, SqL.of e', by rw [r.length]; exact hl⟩⟩
 obtain ⟨v, hv, rv⟩ := r.get' hd
 exact ⟨⟨vs, v, SqL.of e', hv⟩, fun x H2 ⟨e2, y⟩ => by
  subst e2
  have := y vs (SqL.of e')
  rw [hv] at this; cases this
  exact ⟨Same.refl _, rep_stp s h0 rv⟩⟩
theorem ji_tup {M0 : Addr → Prop} {F : Fp} {K : PySem.W.Frag} {H1 : Hp} {l : Addr} {ds : List PyData} {vs : List V} (e : H1 l = some (.tup vs)) (r : RepL (MM M0 F) H1 vs ds) : JI M0 F (Itt K l) ds H1 := fun i F' H' s h0 => by
 have e' : H' l = some (.tup vs) := s.tups l _ e
 refine ⟨fun d hd => ?_, fun hl => ⟨vs, SqT.of e', by rw [r.length]; exact hl⟩⟩
 obtain ⟨v, hv, rv⟩ := r.get' hd
 exact ⟨⟨vs, v, SqT.of e', hv⟩, fun x H2 ⟨e2, y⟩ => by
  subst e2
  have := y vs (SqT.of e')
  rw [hv] at this; cases this
  exact ⟨Same.refl _, rep_stp s h0 rv⟩⟩
theorem si_list (ha : SE X XP mp iter fa) : SI X XP mp tg iter (fSeqL fa) := fun M0 F Γ ν σ H R rs hs hp =>
 (pi_list pe_self).wp (ha.run rs hs hp fun F1 Γ1 H1 u v rs1 s1 o1 h1 => by
  dsimp only at h1
  split at h1
  ·rename_i ds eu
   obtain ⟨l, vs, rfl, e, n, r⟩ := (o1.strong rs1 eu).lst_inv
   exact ⟨l, rfl, ⟨vs, SqL.of e⟩, h1 F1 H1 rs1 (.refl _ _) _ (ji_list e n r)⟩
  ·exact h1.elim)
theorem si_tup (ha : SE X XP mp iter fa) : SI X XP mp tg iter (fSeqT fa) := fun M0 F Γ ν σ H R rs hs hp =>
 (pi_tup pe_self).wp (ha.run rs hs hp fun F1 Γ1 H1 u v rs1 s1 o1 h1 => by
  dsimp only at h1
  split at h1
  ·rename_i ds eu
   obtain ⟨l, vs, rfl, e, r⟩ := (o1.strong rs1 eu).tup_inv
   exact ⟨l, rfl, ⟨vs, SqT.of e⟩, h1 F1 H1 rs1 (.refl _ _) _ (ji_tup e r)⟩
  ·exact h1.elim)
noncomputable def fRange (fa : EM FV) : EM (List PyData) := fun Γ => (fa Γ).bind fun (u, Γ1) => match derf Γ1 u with
 | some (.int n) => if -1000000 ≤ n ∧ n ≤ 1000000 then .ok (rangeD n.toNat, Γ1) else .bad
 | _ => .bad
theorem ji_range {M0 : Addr → Prop} {F : Fp} (n : Nat) (H1 : Hp) : JI M0 F (Itr 0 n) (rangeD n) H1 := fun i F' H' s h0 => by
 refine ⟨fun d hd => ?_, fun hl => ?_⟩
 ·obtain ⟨hi, rfl⟩ := rangeD_get hd
  exact ⟨hi, fun x H2 ⟨e, y⟩ => by subst e y; exact ⟨Same.refl _, by rw [show (0 : Int) + (i : Int) = i by omega]; exact .int _⟩⟩
 ·show n ≤ i
  simpa [rangeD_length] using hl
theorem si_range {x : Str} (B : BiK X x (.type "range")) (ex : x = "range") (ha : SE X XP mp a fa) (hst : starEach [a] X.env = [(false, eval a X.env)]) : SI X XP mp tg (.Call (.Name x p) [a] [] pos) (fRange fa) := fun M0 F Γ ν σ H R rs hs hp => by
 subst ex
 exact (pi_range1 B.gl B.mg (pa_cons pe_self pa_nil hst) hst).wp (ha.run rs hs hp fun F1 Γ1 H1 u v rs1 s1 o1 h1 => by
  dsimp only at h1
  split at h1
  ·rename_i n eu
   split at h1
   ·rename_i hn
    cases o1.weak rs1 eu
    exact ⟨n, rfl, by omega, by omega, h1 F1 H1 rs1 (.refl _ _) _ (ji_range n.toNat H1)⟩
   ·exact h1.elim
  ·exact h1.elim)
noncomputable def SF (X : Cx) (XP : XPT) (mp : List Nat) (ifs : List Expr) (f : EM Bool) : Prop := ∀ (M0 : Addr → Prop) (F : Fp) (Γ : Gv) (ν : Nu) (σ : St) (H : Hp) (Q : Bool → Hp → Prop), RS M0 F Γ ν H → Sees mp ν σ →
 EPost M0 F ν σ H XP (fun F' Γ' H' b => Q b H') (f Γ) → wpF X ifs σ H Q
noncomputable def fYes : EM Bool := fun Γ => .ok (true, Γ)
theorem sf_nil : SF X XP mp [] fYes := fun M0 F Γ ν σ H Q rs hs hp => pf_nil.wp (hp F H rs (.refl _ _))
theorem sf_one (h : ST X XP mp c ta) : SF X XP mp [c] ta := fun M0 F Γ ν σ H Q rs hs hp => (pf_one pt_self).wp (h M0 F Γ ν σ H Q rs hs hp)
noncomputable def loopC (k : Nat) (t : IT) (cond : EM Bool) (elt : EM FV) : List PyData → List PyData → Gv → R (List PyData × Gv)
 | [], ys, Γ => .ok (ys, Γ)
 | d :: ds, ys, Γ => match tgF t d (Γ ++ List.replicate k none) with
  | none => .bad
  | some Γ2 => match cond Γ2 with
   | .ok (true, Γ3) => match elt Γ3 with
    | .ok (u, Γ4) => match derS Γ4 u with
     | some y => loopC k t cond elt ds (ys ++ [y]) (Γ4.take Γ.length)
     | none => .bad
    | _ => .bad
   | .ok (false, Γ3) => loopC k t cond elt ds ys (Γ3.take Γ.length)
   | _ => .bad
noncomputable def fComp (n k : Nat) (t : IT) (src : EM (List PyData)) (cond : EM Bool) (elt : EM FV) : EM (List PyData) := fun Γ => (src Γ).bind fun (ds, Γ1) => if ds.length ≤ 1000000 ∧ Γ1.length = n then loopC k t cond elt ds [] Γ1 else .bad
noncomputable abbrev XP0 : XPT := fun _ _ _ _ _ _ => False
noncomputable def mpC (mp : List Nat) (n k : Nat) (ix : List Nat) : List Nat := (List.range k).map (n + ·) ++ ix.map fun i => mp.getD i 0
theorem mpC_lo {mp : List Nat} {n k : Nat} {ix : List Nat} {s : Nat} (h : s < k) : (mpC mp n k ix)[s]? = some (n + s) := by
 unfold mpC
 rw [List.getElem?_append_left (by simpa using h), List.getElem?_map, List.getElem?_range h]; rfl
theorem mpC_hi {mp : List Nat} {n k : Nat} {ix : List Nat} {j : Nat} : (mpC mp n k ix)[k + j]? = (ix[j]?).map fun i => mp.getD i 0 := by
 unfold mpC
 rw [List.getElem?_append_right (by simp), List.getElem?_map]
 simp
theorem loopC_sound {N' : List Str} {scope : Scope} {n k : Nat} {ix : List Nat} {t : IT} {cond : EM Bool} {el : EM FV} {M0 : Addr → Prop} {F1 : Fp} {ν : Nu} {σ : St} {H1 : Hp} {J : It} {ds : List PyData} {P : Fp → Gv → Hp → List PyData → Prop} {Γ1 : Gv} {Q : List V → Hp → Prop}
  (hm : ∀ j i : Nat, ix[j]? = some i → ∃ m, mp[i]? = some m ∧ m < n) (hN' : N'.length = k + ix.length)
  (hg : ∀ cl C s2 H2 fp, SG (X.comp N' scope cl C s2 H2 fp) (mpC mp n k ix) (· < n) tg t) (hc : ∀ cl C s2 H2 fp, SF (X.comp N' scope cl C s2 H2 fp) XP0 (mpC mp n k ix) ifs cond) (he : ∀ cl C s2 H2 fp, SE (X.comp N' scope cl C s2 H2 fp) XP0 (mpC mp n k ix) elt el)
  (rs1 : RS M0 F1 Γ1 ν H1) (hs : Sees mp ν σ) (hJ : JI M0 F1 J ds H1) (hd : ds.length ≤ 1000000) (hn : Γ1.length = n) (hp : EPost M0 F1 ν σ H1 XP P (loopC k t cond el ds [] Γ1))
  (fin : ∀ F' Γ' H' ys vs, RS M0 F' Γ' ν H' → RepL (MM M0 F') H' vs ys → P F' Γ' H' ys → Q vs H') :
  cRun k ix (gU X N' scope tg) (fU X N' scope ifs) (eU X N' scope elt) σ J H1 Q := by
 have hνn : ν.length = n := by rw [rs1.len, hn]
 refine ⟨fun i m vs H => m = ds.length - i ∧ i ≤ ds.length ∧ ∃ F' Γ' ys, RS M0 F' Γ' ν H ∧ Stp F1 H1 F' H ∧ RepL (MM M0 F') H vs ys ∧ Γ'.length = n ∧ ys.length ≤ i ∧ EPost M0 F' ν σ H XP P (loopC k t cond el (ds.drop i) ys Γ'), ⟨ds.length, by simp, Nat.zero_le _, F1, Γ1, [], rs1, .refl _ _, .nil, hn, Nat.le_refl _, hp⟩, ?_⟩
 rintro i m vs H ⟨rfl, hil, F', Γ', ys, rs, st, rv, hln, hyl, hp⟩
 have hsz := sizeLine_eq
 refine ⟨by rw [rv.length]; omega, ?_⟩
 obtain ⟨jgo, jst⟩ := hJ i F' H st rs1.al0
 by_cases hlt : i < ds.length
 ·obtain ⟨go, yl⟩ := jgo ds[i] (by simp [hlt])
  refine .inr ⟨go, fun vs' H' => ∃ F'' Γ'' ys', RS M0 F'' Γ'' ν H' ∧ Stp F1 H1 F'' H' ∧ RepL (MM M0 F'') H' vs' ys' ∧ Γ''.length = n ∧ ys'.length ≤ i + 1 ∧ EPost M0 F'' ν σ H' XP P (loopC k t cond el (ds.drop (i + 1)) ys' Γ''), fun vs' H' h => ⟨ds.length - (i + 1), by omega, rfl, hlt, h⟩, fun x H2 hy => ?_⟩
  obtain ⟨s2, rx⟩ := yl x H2 hy
  rw [List.drop_eq_getElem_cons hlt, loopC] at hp
  have rs2 := (rs.same s2).ext k
  have hcl : (cS k ix σ).length = N'.length := by unfold cS; simp [hN']
  have hsee : Sees (mpC mp n k ix) (ν ++ List.replicate k none) (cS k ix σ) := fun s j v e1 e2 => by
   by_cases hsk : s < k
   ·rw [mpC_lo hsk] at e1
    cases e1
    rw [List.getElem?_append_right (by omega), List.getElem?_replicate] at e2
    split at e2 <;> cases e2
   ·obtain ⟨j', rfl⟩ : ∃ j', s = k + j' := ⟨s - k, by omega⟩
    rw [mpC_hi] at e1
    cases q : ix[j']? with
    | none => rw [q] at e1; cases e1
    | some i0 =>
     rw [q] at e1
     obtain ⟨m, hm1, hm2⟩ := hm j' i0 q
     have : mp.getD i0 0 = m := by rw [List.getD_eq_getElem?_getD, hm1]; rfl
     have ej : m = j := by
      have e3 : some (mp.getD i0 0) = some j := e1
      rw [this] at e3; exact Option.some.inj e3
     subst ej
     rw [List.getElem?_append_left (by omega)] at e2
     exact cS_get q (hs i0 m v hm1 e2)
  cases et : tgF t ds[i] (Γ' ++ List.replicate k none) with
  | none => rw [et] at hp; exact hp.elim
  | some Γ2 =>
   rw [et] at hp
   intro cl C s2' H2' fp
   refine hg cl C s2' H2' fp M0 F' _ Γ2 _ (cS k ix σ) H2 x ds[i] _ rs2 hsee hcl rx et fun F3 ν3 σ3 rs3 s3 hs3 hl3 n3 m3 => ⟨?_, fun cl C s2' H2' fp => ?_⟩
   ·apply List.ext_getElem?
    intro j
    rw [List.getElem?_drop, List.getElem?_drop]
    by_cases hj : j < ix.length
    ·obtain ⟨m, hm1, hm2⟩ := hm j ix[j] (by simp [hj])
     refine m3 (k + j) m ?_ hm2
     rw [mpC_hi, List.getElem?_eq_getElem hj]
     show some (mp.getD ix[j] 0) = some m
     rw [List.getD_eq_getElem?_getD, hm1]; rfl
    ·have hl3' : σ3.length = N'.length := hl3
     rw [List.getElem?_eq_none (by omega), List.getElem?_eq_none (by omega)]
   ·have stA : Stp F1 H1 F3 H2 := (st.trans (.same s2)).trans s3
    have back : ∀ {F4 : Fp} {Γ4 : Gv} {H4 : Hp}, RS M0 F4 Γ4 ν3 H4 → RS M0 (fcut F4 n) (Γ4.take n) ν H4 ∧ Stp F4 H4 (fcut F4 n) H4 := fun {F4 Γ4 H4} r4 => by
     obtain ⟨r5, s5⟩ := r4.cut n
     have : ν3.take n = ν := by
      apply List.ext_getElem?
      intro j
      by_cases hj : j < n
      ·rw [List.getElem?_take_of_lt hj, n3 j hj, List.getElem?_append_left (by omega)]
      ·rw [List.getElem?_eq_none (by rw [List.length_take]; omega), List.getElem?_eq_none (by omega)]
     rw [this] at r5
     exact ⟨r5, s5⟩
    have hlen3 : Γ2.length = n + k := by
     rw [tgF_length _ _ _ _ et, List.length_append, List.length_replicate, hln]
    have lenOf : ∀ {F4 : Fp} {Γ4 : Gv} {H4 : Hp}, RS M0 F4 Γ4 ν3 H4 → (Γ4.take n).length = n := fun {F4 Γ4 H4} r4 => by
     have h1 := r4.len
     have h2 := rs3.len
     rw [List.length_take]; omega
    refine hc cl C s2' H2' fp M0 F3 Γ2 ν3 σ3 H2 _ rs3 hs3 ?_
    dsimp only at hp
    cases ec : cond Γ2 with
    | bad => rw [ec] at hp; exact hp.elim
    | exc xx yy => rw [ec] at hp; exact hp.elim
    | ok z =>
     obtain ⟨bb, Γ3⟩ := z
     rw [ec] at hp
     intro F4 H4 rs4 s4
     cases bb with
     | false =>
      refine iteF ?_
      obtain ⟨r5, s5⟩ := back rs4
      have stB := (stA.trans s4).trans s5
      rw [hln] at hp
      refine ⟨_, _, ys, r5, stB, ?_, lenOf rs4, by omega, ?_⟩
      ·exact repL_stp s5 rs4.al0 (repL_stp s4 rs3.al0 (repL_stp s3 (rs.same s2).al0 (rv.grow s2.grow)))
      ·exact hp.step ((((Stp.same s2).trans s3).trans s4).trans s5)
     | true =>
      refine iteT fun cl C s2' H2' fp => ?_
      refine he cl C s2' H2' fp M0 F4 Γ3 ν3 σ3 H4 _ rs4 hs3 ?_
      dsimp only at hp
      cases ee : el Γ3 with
      | bad => rw [ee] at hp; exact hp.elim
      | exc xx yy => rw [ee] at hp; exact hp.elim
      | ok z =>
       obtain ⟨u, Γ4⟩ := z
       rw [ee] at hp
       intro F5 H5 rs5 s5 v hv
       dsimp only at hp
       cases ed : derS Γ4 u with
       | none => rw [ed] at hp; exact hp.elim
       | some y =>
        rw [ed] at hp
        dsimp only at hp
        obtain ⟨r6, s6⟩ := back rs5
        have stB := ((stA.trans s4).trans s5).trans s6
        rw [hln] at hp
        refine ⟨_, _, ys ++ [y], r6, stB, ?_, lenOf rs5, by simp; omega, ?_⟩
        ·refine RepL.append ?_ (.cons (rep_stp s6 rs5.al0 (hv.strong rs5 ed)) .nil)
         exact repL_stp s6 rs5.al0 (repL_stp s5 rs4.al0 (repL_stp s4 rs3.al0 (repL_stp s3 (rs.same s2).al0 (rv.grow s2.grow))))
        ·exact hp.step (((((Stp.same s2).trans s3).trans s4).trans s5).trans s6)
 ·have e : i = ds.length := by omega
  subst e
  rw [List.drop_length, loopC] at hp
  exact .inl ⟨jst (Nat.le_refl _), fin F' Γ' H ys vs rs rv (hp F' H rs (.refl _ _))⟩
noncomputable def SNt (XP : XPT) (mp : List Nat) (t : TE) (f : EM (List PyData)) : Prop := ∀ (M0 : Addr → Prop) (F : Fp) (Γ : Gv) (ν : Nu) (σ : St) (H : Hp) (Q : VK), RS M0 F Γ ν H → Sees mp ν σ →
 EPost M0 F ν σ H XP (fun F' Γ' H' ds => ∀ vs p, RepL (MM M0 F') H' vs ds → H' p = none → Q (.ref p) (upd H' p (.lst vs))) (f Γ) → t σ H Q
theorem snt_comp {N' : List Str} {scope : Scope} {n k : Nat} {ix : List Nat} {t : IT} {src : EM (List PyData)} {cond : EM Bool} {el : EM FV} (S : CSc X.env.scope X.N scope N' k ix) (hm : ∀ j i : Nat, ix[j]? = some i → ∃ m, mp[i]? = some m ∧ m < n)
  (hi : SI X XP mp tg iter src) (hg : ∀ cl C s2 H2 fp, SG (X.comp N' scope cl C s2 H2 fp) (mpC mp n k ix) (· < n) tg t) (hc : ∀ cl C s2 H2 fp, SF (X.comp N' scope cl C s2 H2 fp) XP0 (mpC mp n k ix) ifs cond) (he : ∀ cl C s2 H2 fp, SE (X.comp N' scope cl C s2 H2 fp) XP0 (mpC mp n k ix) elt el) :
  SNt XP mp (tComp k ix (wpI X tg iter) (gU X N' scope tg) (fU X N' scope ifs) (eU X N' scope elt)) (fComp n k t src cond el) := fun M0 F Γ ν σ H Q rs hs hp => by
 refine hi M0 F Γ ν σ H _ rs hs (hp.seq.mono fun F1 Γ1 H1 ds rs1 s1 h1 J hJ => ?_)
 dsimp only at h1
 split at h1
 ·rename_i hh
  exact loopC_sound hm S.len hg hc he rs1 hs hJ hh.1 hh.2 h1 fun F' Γ' H' ys vs rs' rv hP p hp' => hP vs p rv hp'
 ·exact h1.elim
theorem sn_comp {N' : List Str} {scope : Scope} {n k : Nat} {ix : List Nat} {t : IT} {src : EM (List PyData)} {cond : EM Bool} {el : EM FV} (hcalm : X.calm = true) (S : CSc X.env.scope X.N scope N' k ix) (hm : ∀ j i : Nat, ix[j]? = some i → ∃ m, mp[i]? = some m ∧ m < n)
  (hi : SI X XP mp tg iter src) (hg : ∀ cl C s2 H2 fp, SG (X.comp N' scope cl C s2 H2 fp) (mpC mp n k ix) (· < n) tg t) (hc : ∀ cl C s2 H2 fp, SF (X.comp N' scope cl C s2 H2 fp) XP0 (mpC mp n k ix) ifs cond) (he : ∀ cl C s2 H2 fp, SE (X.comp N' scope cl C s2 H2 fp) XP0 (mpC mp n k ix) elt el)
  (hf : ∀ x, foldedSetIterable iter X.env x = pure x) : SN X XP mp (.ListComp elt [⟨tg, iter, ifs, 0⟩] scope pos) (fComp n k t src cond el) := fun M0 F Γ ν σ H Q rs hs hp =>
 (pe_compU hcalm S hf).wp (snt_comp S hm hi hg hc he M0 F Γ ν σ H Q rs hs hp)
end
end L3
namespace L3
open PySem PySem.Spec PyProof.Rows L2
inductive AV where
 | v (u : FV)
 | io (i : Nat)
inductive AOks (M0 : Addr → Prop) (F : Fp) (ν : Nu) (H : Hp) : List V → List AV → Prop
 | nil : AOks M0 F ν H [] []
 | v {v : V} {vs : List V} {u : FV} {as : List AV} : FOk M0 F ν H v u → AOks M0 F ν H vs as → AOks M0 F ν H (v :: vs) (.v u :: as)
 | io {v : V} {vs : List V} {i : Nat} {as : List AV} : ν[i]? = some (some v) → AOks M0 F ν H vs as → AOks M0 F ν H (v :: vs) (.io i :: as)
noncomputable def APost (M0 : Addr → Prop) (F : Fp) (ν : Nu) (σ : St) (H : Hp) (XP : XPT) (P : Fp → Gv → Nu → Hp → List AV → Prop) (r : R (List AV × Gv)) : Prop := match r with
 | .ok (as, Γ') => ∀ F' ν' H', RS M0 F' Γ' ν' H' → ν <+: ν' → Stp F H F' H' → P F' Γ' ν' H' as
 | .exc x Γ' => ∀ F' H', RS M0 F' Γ' ν H' → Stp F H F' H' → XP x Γ' F' ν σ H'
 | .bad => False
noncomputable def OPost (M0 : Addr → Prop) (F : Fp) (ν : Nu) (σ : St) (H : Hp) (XP : XPT) (P : Fp → Gv → Hp → OV → V → Prop) (r : R (OV × Gv)) : Prop := match r with
 | .ok (o, Γ') => ∀ F' H' v, RS M0 F' (Γ' ++ [some o]) (ν ++ [some v]) H' → Stp F H F' H' → P F' Γ' H' o v
 | .exc x Γ' => ∀ F' H', RS M0 F' Γ' ν H' → Stp F H F' H' → XP x Γ' F' ν σ H'
 | .bad => False
noncomputable def SA (X : Cx) (XP : XPT) (mp : List Nat) (es : List Expr) (f : EM (List AV)) : Prop := ∀ (M0 : Addr → Prop) (F : Fp) (Γ : Gv) (ν : Nu) (σ : St) (H : Hp) (Q : List V → Hp → Prop), RS M0 F Γ ν H → Sees mp ν σ →
 APost M0 F ν σ H XP (fun F' Γ' ν' H' as => ∀ vs, AOks M0 F' ν' H' vs as → Q vs H') (f Γ) → wpA X es σ H Q
noncomputable def SO (X : Cx) (XP : XPT) (mp : List Nat) (e : Expr) (f : EM OV) : Prop := ∀ (M0 : Addr → Prop) (F : Fp) (Γ : Gv) (ν : Nu) (σ : St) (H : Hp) (Q : VK), RS M0 F Γ ν H → Sees mp ν σ →
 OPost M0 F ν σ H XP (fun F' Γ' H' o v => Q v H') (f Γ) → wpE X e σ H Q
section
variable {M0 : Addr → Prop} {F : Fp} {Γ : Gv} {ν : Nu} {σ : St} {H : Hp} {XP : XPT} {α : Type}
theorem APost.seq {P : Fp → Gv → Nu → Hp → List AV → Prop} {r : R (α × Gv)} {k : α × Gv → R (List AV × Gv)} (h : APost M0 F ν σ H XP P (r.bind k)) : EPost M0 F ν σ H XP (fun F1 Γ1 H1 a => APost M0 F1 ν σ H1 XP P (k (a, Γ1))) r := by
 cases r with
 | ok a =>
  obtain ⟨a, Γ1⟩ := a
  intro F1 H1 rs1 s1
  have h' : APost M0 F ν σ H XP P (k (a, Γ1)) := h
  revert h'
  generalize k (a, Γ1) = r2
  intro h'
  cases r2 with
  | ok b => exact fun F' ν' H' rs hn s => h' F' ν' H' rs hn (s1.trans s)
  | exc x Γ' => exact fun F' H' rs s => h' F' H' rs (s1.trans s)
  | bad => exact h'
 | exc x Γ' => exact h
 | bad => exact h
theorem APost.mono {P P' : Fp → Gv → Nu → Hp → List AV → Prop} {r : R (List AV × Gv)} (h : APost M0 F ν σ H XP P r) (k : ∀ F' Γ' ν' H' as, RS M0 F' Γ' ν' H' → ν <+: ν' → Stp F H F' H' → P F' Γ' ν' H' as → P' F' Γ' ν' H' as) : APost M0 F ν σ H XP P' r := by
 cases r with
 | ok a => exact fun F' ν' H' rs hn s => k F' _ ν' H' _ rs hn s (h F' ν' H' rs hn s)
 | exc x Γ' => exact h
 | bad => exact h
theorem OPost.seq {P : Fp → Gv → Hp → OV → V → Prop} {r : R (α × Gv)} {k : α × Gv → R (OV × Gv)} (h : OPost M0 F ν σ H XP P (r.bind k)) : EPost M0 F ν σ H XP (fun F1 Γ1 H1 a => OPost M0 F1 ν σ H1 XP P (k (a, Γ1))) r := by
 cases r with
 | ok a =>
  obtain ⟨a, Γ1⟩ := a
  intro F1 H1 rs1 s1
  have h' : OPost M0 F ν σ H XP P (k (a, Γ1)) := h
  revert h'
  generalize k (a, Γ1) = r2
  intro h'
  cases r2 with
  | ok b => exact fun F' H' v rs s => h' F' H' v rs (s1.trans s)
  | exc x Γ' => exact fun F' H' rs s => h' F' H' rs (s1.trans s)
  | bad => exact h'
 | exc x Γ' => exact h
 | bad => exact h
theorem OPost.mono {P P' : Fp → Gv → Hp → OV → V → Prop} {r : R (OV × Gv)} (h : OPost M0 F ν σ H XP P r) (k : ∀ F' Γ' H' o v, RS M0 F' (Γ' ++ [some o]) (ν ++ [some v]) H' → Stp F H F' H' → P F' Γ' H' o v → P' F' Γ' H' o v) : OPost M0 F ν σ H XP P' r := by
 cases r with
 | ok a => exact fun F' H' v rs s => k F' _ H' _ v rs s (h F' H' v rs s)
 | exc x Γ' => exact h
 | bad => exact h
end
section
variable {X : Cx} {XP : XPT} {mp : List Nat} {a b c e : Expr} {es : List Expr} {pos p p2 : Pos} {fa fb fc : EM FV} {ta tb : EM Bool} {na nb : EM (List PyData)} {fl : EM (List AV)} {fo : EM OV}
noncomputable def fOwn (n : EM (List PyData)) : EM OV := fun Γ => (n Γ).bind fun (ds, Γ1) => .ok (.l (ds.map .d), Γ1)
theorem SN.so (h : SN X XP mp a na) : SO X XP mp a (fOwn na) := fun M0 F Γ ν σ H Q rs hs hp =>
 h M0 F Γ ν σ H Q rs hs (hp.seq.mono fun F1 Γ1 H1 ds rs1 s1 h1 vs p r n => by
  obtain ⟨r2, s2⟩ := rs1.newO n r
  exact h1 _ _ _ r2 s2)
noncomputable def fOD (f : EM OV) : EM FV := fun Γ => (f Γ).bind fun (o, Γ1) => .ok (.dat o.view, Γ1)
theorem SO.se (h : SO X XP mp a fo) : SE X XP mp a (fOD fo) := fun M0 F Γ ν σ H Q rs hs hp =>
 h M0 F Γ ν σ H Q rs hs (by
  have hp' : EPost M0 F ν σ H XP (fun F' Γ' H' u => ∀ v, FOk M0 F' ν H' v u → Q v H') ((fo Γ).bind fun (o, Γ1) => .ok (.dat o.view, Γ1)) := hp
  revert hp'
  generalize fo Γ = r
  intro hp'
  cases r with
  | ok z =>
   obtain ⟨o, Γ1⟩ := z
   intro F' H' v rs' s'
   obtain ⟨F2, rs2, s2, r2⟩ := rs'.dropD
   exact hp' F2 H' rs2 (s'.trans s2) v r2
  | exc x y => exact hp'
  | bad => exact hp')
theorem FOk.ext {M0 : Addr → Prop} {F : Fp} {ν ν' : Nu} {H : Hp} {v : V} {u : FV} (h : FOk M0 F ν H v u) (hn : ν <+: ν') : FOk M0 F ν' H v u := by
 cases u with
 | dat x => exact h
 | own i =>
  have h' : ν[i]? = some (some v) := h
  obtain ⟨t, rfl⟩ := hn
  show (ν ++ t)[i]? = _
  rw [List.getElem?_append_left (List.getElem?_eq_some_iff.mp h').1]; exact h'
noncomputable def aNil : EM (List AV) := fun Γ => .ok ([], Γ)
noncomputable def aCons (fa : EM FV) (fl : EM (List AV)) : EM (List AV) := fun Γ => (fa Γ).bind fun (u, Γ1) => (fl Γ1).bind fun (as, Γ2) => .ok (.v u :: as, Γ2)
noncomputable def aIo (i : Nat) (fl : EM (List AV)) : EM (List AV) := fun Γ => match Γ[i]? with
 | some (some _) => (fl Γ).bind fun (as, Γ2) => .ok (.io i :: as, Γ2)
 | _ => .bad
noncomputable def aTmp (n : EM (List PyData)) : EM (List AV) := fun Γ => (n Γ).bind fun (ds, Γ1) => .ok ([.io Γ1.length], Γ1 ++ [some (.l (ds.map .d))])
theorem sa_nil : SA X XP mp [] aNil := fun M0 F Γ ν σ H Q rs hs hp => pa_nil.wp (hp F ν H rs (List.prefix_refl _) (.refl _ _) [] .nil)
theorem APost.tail {M0 : Addr → Prop} {F : Fp} {ν : Nu} {σ : St} {H : Hp} {P : Fp → Gv → Nu → Hp → List AV → Prop} {r : R (List AV × Gv)} {f : List AV → List AV} (h : APost M0 F ν σ H XP P (r.bind fun (as, Γ2) => .ok (f as, Γ2))) :
  APost M0 F ν σ H XP (fun F' Γ' ν' H' as => P F' Γ' ν' H' (f as)) r := by
 cases r with
 | ok a => exact h
 | exc x Γ' => exact h
 | bad => exact h
theorem sa_cons (ha : SE X XP mp a fa) (hl : SA X XP mp es fl) (hst : starEach (a :: es) X.env = (false, eval a X.env) :: starEach es X.env) : SA X XP mp (a :: es) (aCons fa fl) := fun M0 F Γ ν σ H Q rs hs hp =>
 (pa_cons pe_self pa_self hst).wp (ha M0 F Γ ν σ H _ rs hs (hp.seq.mono fun F1 Γ1 H1 u rs1 s1 h1 v o1 =>
  hl M0 F1 Γ1 ν σ H1 _ rs1 hs (h1.tail.mono fun F2 Γ2 ν2 H2 as rs2 hn s2 h2 vs oks => h2 (v :: vs) (.v ((o1.stp s2 rs1.al0).ext hn) oks))))
theorem sa_io {s i : Nat} {x : Str} (hN : X.N[s]? = some x) (hv : Vis X.env.scope x) (hm : mp[s]? = some i) (hd : (x == ("__debug__" : Str)) = false) (hcd : (x == ("__classdict__" : Str)) = false) (hl : SA X XP mp es fl) (hst : starEach (.Name x pos :: es) X.env = (false, eval (.Name x pos) X.env) :: starEach es X.env) :
  SA X XP mp (.Name x pos :: es) (aIo i fl) := fun M0 F Γ ν σ H Q rs hs hp => by
 unfold aIo at hp
 split at hp
 ·rename_i o q
  obtain ⟨v, e1, r⟩ := rs.at' i _ q
  exact (pa_cons (pe_var hN hv hd hcd) pa_self hst).wp ⟨v, hs s i v hm e1, hl M0 F Γ ν σ H _ rs hs (hp.tail.mono fun F2 Γ2 ν2 H2 as rs2 hn s2 h2 vs oks => h2 (v :: vs) (.io (by
   obtain ⟨t, rfl⟩ := hn
   rw [List.getElem?_append_left (List.getElem?_eq_some_iff.mp e1).1]; exact e1) oks))⟩
 ·exact hp.elim
theorem sa_tmp (h : SN X XP mp a na) (hst : starEach [a] X.env = [(false, eval a X.env)]) : SA X XP mp [a] (aTmp na) := fun M0 F Γ ν σ H Q rs hs hp =>
 (pa_cons pe_self pa_nil hst).wp (h M0 F Γ ν σ H _ rs hs (hp.seq.mono fun F1 Γ1 H1 ds rs1 s1 h1 vs p r n => by
  obtain ⟨r2, s2⟩ := rs1.newO n r
  exact h1 _ _ _ r2 (List.prefix_append _ _) s2 _ (.io (by rw [← rs1.len]; simp) .nil)))
inductive RF where
 | ok (r : OV) (outs : List (Option OV))
 | exc (x : Exc) (outs : List (Option OV))
 | bad
noncomputable def spI (n : Nat) (run : List OV → RF) : Sp := fun vs H Q _ => vs.length = n ∧ ∃ (M0 : Addr → Prop) (F : Fp) (args : List OV), RS M0 F (args.map some) (vs.map some) H ∧ match run args with
 | .ok r outs => ∀ F' v H', RS M0 F' (outs ++ [some r]) (vs.map some ++ [some v]) H' → Stp F H F' H' → Q v H'
 | _ => False
noncomputable def toArg (Γ : Gv) : AV → Option OV
 | .v u => (derS Γ u).map .d
 | .io i => match Γ[i]? with
  | some (some o) => some o
  | _ => none
noncomputable def toArgs (Γ : Gv) : List AV → Option (List OV)
 | [] => some []
 | a :: as => match toArg Γ a, toArgs Γ as with
  | some o, some os => some (o :: os)
  | _, _ => none
noncomputable def ios : List AV → List Nat
 | [] => []
 | .v _ :: as => ios as
 | .io i :: as => i :: ios as
noncomputable def putBack : List AV → List (Option OV) → Gv → Option Gv
 | [], _, Γ => some Γ
 | .v _ :: as, _ :: os, Γ => putBack as os Γ
 | .io i :: as, some o :: os, Γ => if i < Γ.length then putBack as os (Γ.set i (some o)) else none
 | _, _, _ => none
theorem mem_ios {as : List AV} {i : Nat} : i ∈ ios as ↔ ∃ j : Nat, as[j]? = some (.io i) := by
 induction as with
 | nil => simp [ios]
 | cons a as ih =>
  cases a with
  | v u =>
   rw [ios, ih]
   constructor
   ·rintro ⟨j, h⟩; exact ⟨j + 1, by simpa using h⟩
   ·rintro ⟨j, h⟩
    cases j with
    | zero => simp at h
    | succ j => exact ⟨j, by simpa using h⟩
  | io k =>
   rw [ios, List.mem_cons, ih]
   constructor
   ·rintro (rfl | ⟨j, h⟩)
    ·exact ⟨0, rfl⟩
    ·exact ⟨j + 1, by simpa using h⟩
   ·rintro ⟨j, h⟩
    cases j with
    | zero => simp at h; exact .inl h.symm
    | succ j => exact .inr ⟨j, by simpa using h⟩
theorem ios_inj : ∀ {as : List AV} {i j k : Nat}, (ios as).Nodup → as[j]? = some (.io i) → as[k]? = some (.io i) → j = k
 | [], _, _, _, _, h, _ => by simp at h
 | .v u :: as, i, j, k, nd, h1, h2 => by
  cases j with
  | zero => simp at h1
  | succ j =>
   cases k with
   | zero => simp at h2
   | succ k => exact congrArg (· + 1) (ios_inj (as := as) (i := i) (by rw [ios] at nd; exact nd) (by simpa using h1) (by simpa using h2))
 | .io m :: as, i, j, k, nd, h1, h2 => by
  rw [ios, List.nodup_cons] at nd
  cases j with
  | zero =>
   cases k with
   | zero => rfl
   | succ k =>
    simp at h1; subst h1
    exact absurd (mem_ios.mpr ⟨k, by simpa using h2⟩) nd.1
  | succ j =>
   cases k with
   | zero =>
    simp at h2; subst h2
    exact absurd (mem_ios.mpr ⟨j, by simpa using h1⟩) nd.1
   | succ k => exact congrArg (· + 1) (ios_inj (as := as) (i := i) nd.2 (by simpa using h1) (by simpa using h2))
section
variable {M0 : Addr → Prop} {F : Fp} {Γ : Gv} {ν : Nu} {H : Hp}
theorem AOks.get : ∀ {vs : List V} {as : List AV} {args : List OV} {j : Nat} {o : OV}, AOks M0 F ν H vs as → toArgs Γ as = some args → args[j]? = some o →
  ∃ v, vs[j]? = some v ∧ ((∃ u x, as[j]? = some (.v u) ∧ derS Γ u = some x ∧ o = .d x ∧ FOk M0 F ν H v u) ∨ ∃ i, as[j]? = some (.io i) ∧ ν[i]? = some (some v) ∧ Γ[i]? = some (some o))
 | _, _, _, j, o, .nil, e, h => by cases e; simp at h
 | _, _, _, j, o, .v (u := u) (as := as) h1 t, e, h => by
  unfold toArgs at e
  split at e
  ·rename_i o' os e1 e2
   cases e
   cases j with
   | zero =>
    simp at h; subst h
    simp only [toArg, Option.map_eq_some_iff] at e1
    obtain ⟨x, ex, rfl⟩ := e1
    exact ⟨_, rfl, .inl ⟨u, x, rfl, ex, rfl, h1⟩⟩
   | succ j =>
    obtain ⟨v, ev, q⟩ := AOks.get (j := j) t e2 (by simpa using h)
    exact ⟨v, by simpa using ev, by simpa using q⟩
  ·cases e
 | _, _, _, j, o, .io (i := i) (as := as) h1 t, e, h => by
  unfold toArgs at e
  split at e
  ·rename_i o' os e1 e2
   cases e
   cases j with
   | zero =>
    simp at h; subst h
    simp only [toArg] at e1
    split at e1
    ·rename_i q
     cases e1
     exact ⟨_, rfl, .inr ⟨i, rfl, h1, q⟩⟩
    ·cases e1
   | succ j =>
    obtain ⟨v, ev, q⟩ := AOks.get (j := j) t e2 (by simpa using h)
    exact ⟨v, by simpa using ev, by simpa using q⟩
  ·cases e
theorem AOks.len : ∀ {vs : List V} {as : List AV}, AOks M0 F ν H vs as → vs.length = as.length
 | _, _, .nil => rfl
 | _, _, .v _ t => by rw [List.length_cons, List.length_cons, AOks.len t]
 | _, _, .io _ t => by rw [List.length_cons, List.length_cons, AOks.len t]
theorem toArgs_len : ∀ {as : List AV} {args : List OV}, toArgs Γ as = some args → args.length = as.length
 | [], _, e => by cases e; rfl
 | a :: as, _, e => by
  unfold toArgs at e
  split at e
  ·rename_i e1 e2
   cases e
   rw [List.length_cons, List.length_cons, toArgs_len e2]
  ·cases e
noncomputable def cM (M0 : Addr → Prop) (F : Fp) (as : List AV) : Addr → Prop := fun a => M0 a ∨ ∃ i, i ∉ ios as ∧ a ∈ F i
noncomputable def cF (F : Fp) (as : List AV) : Fp := fun j => match as[j]? with
 | some (.io i) => F i
 | _ => []
theorem cF_io {as : List AV} {j i : Nat} (h : as[j]? = some (.io i)) : cF F as j = F i := by unfold cF; rw [h]
theorem cF_mem {as : List AV} {j : Nat} {a : Addr} (h : a ∈ cF F as j) : ∃ i, as[j]? = some (.io i) ∧ a ∈ F i := by
 unfold cF at h
 split at h
 ·rename_i i e; exact ⟨i, e, h⟩
 ·cases h
theorem cMM {as : List AV} : MM (cM M0 F as) (cF F as) = MM M0 F := by
 funext a
 apply propext
 constructor
 ·rintro ((h | ⟨i, _, h⟩) | ⟨j, h⟩)
  ·exact .inl h
  ·exact .inr ⟨i, h⟩
  ·obtain ⟨i, _, h⟩ := cF_mem h; exact .inr ⟨i, h⟩
 ·rintro (h | ⟨i, h⟩)
  ·exact .inl (.inl h)
  ·by_cases hi : i ∈ ios as
   ·obtain ⟨j, hj⟩ := mem_ios.mp hi
    exact .inr ⟨j, by rw [cF_io hj]; exact h⟩
   ·exact .inl (.inr ⟨i, hi, h⟩)
theorem call_frame {vs : List V} {as : List AV} {args : List OV} (rs : RS M0 F Γ ν H) (oks : AOks M0 F ν H vs as) (e : toArgs Γ as = some args) (nd : (ios as).Nodup) : RS (cM M0 F as) (cF F as) (args.map some) (vs.map some) H where
 al0 a h := by
  rcases h with h | ⟨i, _, h⟩
  ·exact rs.al0 a h
  ·exact rs.al a (.inr ⟨i, h⟩)
 dis0 j a h := by
  obtain ⟨i, hi, ha⟩ := cF_mem h
  rintro (h0 | ⟨i', hi', ha'⟩)
  ·exact rs.dis0 i a ha h0
  ·have := rs.dis _ _ a ha ha'
   subst this
   exact hi' (mem_ios.mpr ⟨j, hi⟩)
 nd j := by
  unfold cF
  split
  ·exact rs.nd _
  ·exact .nil
 dis j k a h1 h2 := by
  obtain ⟨i, hi, ha⟩ := cF_mem h1
  obtain ⟨i', hi', ha'⟩ := cF_mem h2
  have := rs.dis _ _ a ha ha'
  subst this
  exact ios_inj nd hi hi'
 at' j o ej := by
  rw [List.getElem?_map] at ej
  cases q : args[j]? with
  | none => rw [q] at ej; cases ej
  | some o' =>
   rw [q] at ej
   have eo : o' = o := by simpa using ej
   subst eo
   obtain ⟨v, ev, h⟩ := oks.get e q
   refine ⟨v, by rw [List.getElem?_map, ev]; rfl, ?_⟩
   rw [cMM]
   rcases h with ⟨u, x, ea, ex, rfl, ok⟩ | ⟨i, ea, en, eg⟩
   ·have : cF F as j = [] := by unfold cF; rw [ea]
    rw [this]
    exact .d (ok.strong rs ex)
   ·rw [cF_io ea]
    obtain ⟨v', ev', r⟩ := rs.at' i o' eg
    rw [en] at ev'; cases ev'
    exact r
 emp j h := by
  unfold cF
  split
  ·rename_i i ea
   exfalso
   have hj : j < args.length := by rw [toArgs_len e]; exact (List.getElem?_eq_some_iff.mp ea).1
   exact h args[j] (by rw [List.getElem?_map, List.getElem?_eq_getElem hj]; rfl)
  ·rfl
 len := by rw [List.length_map, List.length_map, oks.len, toArgs_len e]
theorem putBack_get : ∀ {as : List AV} {outs : List (Option OV)} {Γ Γ2 : Gv}, putBack as outs Γ = some Γ2 → (ios as).Nodup → Γ2.length = Γ.length ∧ (∀ i : Nat, i ∉ ios as → Γ2[i]? = Γ[i]?) ∧ ∀ j i : Nat, as[j]? = some (.io i) → ∃ o, outs[j]? = some (some o) ∧ Γ2[i]? = some (some o) ∧ i < Γ.length
 | [], _, Γ, _, e, _ => by
  have : some Γ = some _ := e
  cases this
  exact ⟨rfl, fun _ _ => rfl, fun j i h => by simp at h⟩
 | .v u :: as, [], Γ, _, e, _ => by cases e
 | .v u :: as, x :: os, Γ, Γ2, e, nd => by
  obtain ⟨h0, h1, h2⟩ := putBack_get (as := as) (outs := os) (Γ := Γ) (Γ2 := Γ2) e (by rw [ios] at nd; exact nd)
  refine ⟨h0, fun i hi => h1 i (by rw [ios] at hi; exact hi), fun j i hj => ?_⟩
  cases j with
  | zero => simp at hj
  | succ j =>
   obtain ⟨o, a, b⟩ := h2 j i (by simpa using hj)
   exact ⟨o, by simpa using a, b⟩
 | .io k :: as, [], Γ, _, e, _ => by cases e
 | .io k :: as, none :: os, Γ, _, e, _ => by cases e
 | .io k :: as, some o :: os, Γ, Γ2, e, nd => by
  rw [putBack] at e
  split at e
  ·rename_i hk
   rw [ios, List.nodup_cons] at nd
   obtain ⟨h0, h1, h2⟩ := putBack_get (as := as) (outs := os) e nd.2
   rw [List.length_set] at h0
   refine ⟨h0, fun i hi => ?_, fun j i hj => ?_⟩
   ·rw [ios, List.mem_cons] at hi
    rw [h1 i (fun z => hi (.inr z)), List.getElem?_set_ne (fun z => hi (.inl z.symm))]
   ·cases j with
    | zero =>
     have : k = i := by simpa using hj
     subst this
     refine ⟨o, rfl, ?_, hk⟩
     rw [h1 k nd.1, List.getElem?_set_self hk]
    | succ j =>
     obtain ⟨o', a, b, c⟩ := h2 j i (by simpa using hj)
     exact ⟨o', by simpa using a, b, by simpa using c⟩
  ·cases e
open Classical in
theorem call_back {vs : List V} {as : List AV} {args : List OV} {outs : List (Option OV)} {r : OV} {v : V} {Γ2 : Gv} {ν0 : Nu} {Fc' : Fp} {H' : Hp} {n : Nat} (rs : RS M0 F Γ ν H) (oks : AOks M0 F ν H vs as) (e : toArgs Γ as = some args) (nd : (ios as).Nodup)
  (rc : RS (cM M0 F as) Fc' (outs ++ [some r]) (vs.map some ++ [some v]) H') (sc : Stp (cF F as) H Fc' H') (pb : putBack as outs Γ = some Γ2) (hν : ν0 <+: ν) (hn : ν0.length = n) :
  ∃ F', RS M0 F' (Γ2.take n ++ [some r]) (ν0 ++ [some v]) H' ∧ Stp F H F' H' := by
 obtain ⟨p0, p1, p2⟩ := putBack_get pb nd
 have hol : outs.length = as.length := by have := rc.len; simp [oks.len] at this; omega
 obtain ⟨tl, rfl⟩ := hν
 have hnl : n ≤ Γ.length := by have := rs.len; simp at this; omega
 have htl : (Γ2.take n).length = n := by rw [List.length_take]; omega
 let F' : Fp := fun i => if i < n then (if h : ∃ j : Nat, as[j]? = some (.io i) then Fc' (Classical.choose h) else F i) else if i = n then Fc' as.length else []
 have f1 : ∀ (i j : Nat), i < n → as[j]? = some (.io i) → F' i = Fc' j := fun i j hi hj => by
  show (if i < n then _ else _) = _
  rw [if_pos hi]
  have hex : ∃ j : Nat, as[j]? = some (.io i) := ⟨j, hj⟩
  rw [dif_pos hex, ios_inj nd (Classical.choose_spec hex) hj]
 have f2 : ∀ (i : Nat), i < n → i ∉ ios as → F' i = F i := fun i hi hj => by
  show (if i < n then _ else _) = _
  rw [if_pos hi, dif_neg]
  rintro hex
  exact hj (mem_ios.mpr hex)
 have f3 : F' n = Fc' as.length := by show (if n < n then _ else _) = _; rw [if_neg (Nat.lt_irrefl _), if_pos rfl]
 have f4 : ∀ i, n < i → F' i = [] := fun i hi => by show (if i < n then _ else _) = _; rw [if_neg (by omega), if_neg (by omega)]
 have cls : ∀ i a, a ∈ F' i → (∃ j, i < n ∧ as[j]? = some (.io i) ∧ a ∈ Fc' j) ∨ (i < n ∧ i ∉ ios as ∧ a ∈ F i) ∨ (i = n ∧ a ∈ Fc' as.length) := fun i a h => by
  by_cases hi : i < n
  ·by_cases hj : i ∈ ios as
   ·obtain ⟨j, hj⟩ := mem_ios.mp hj
    rw [f1 i j hi hj] at h
    exact .inl ⟨j, hi, hj, h⟩
   ·rw [f2 i hi hj] at h; exact .inr (.inl ⟨hi, hj, h⟩)
  ·by_cases hj : i = n
   ·subst hj; rw [f3] at h; exact .inr (.inr ⟨rfl, h⟩)
   ·rw [f4 i (by omega)] at h; cases h
 have keepF : ∀ i, i ∉ ios as → ∀ a ∈ F i, H' a = H a := fun i hi a ha => by
  obtain ⟨us, ea⟩ := rs.laidF ha
  rw [ea]
  refine (sc.keep a _ ea fun j hj => ?_).1
  obtain ⟨i', hi', ha'⟩ := cF_mem hj
  have := rs.dis _ _ a ha ha'
  subst this
  exact hi (mem_ios.mpr ⟨j, hi'⟩)
 have st : Stp F H F' H' := ⟨fun b o eb nb => by
  obtain ⟨e1, n1⟩ := sc.keep b o eb fun j hj => let ⟨i, _, ha⟩ := cF_mem hj; nb i ha
  refine ⟨e1, fun i hi => ?_⟩
  rcases cls i b hi with ⟨j, _, _, h⟩ | ⟨_, _, h⟩ | ⟨_, h⟩
  ·exact n1 j h
  ·exact nb i h
  ·exact n1 _ h, sc.tups, sc.stay⟩
 have sub : ∀ b, MM M0 F' b → MM (cM M0 F as) Fc' b := fun b hb => by
  rcases hb with hb | ⟨i, hb⟩
  ·exact .inl (.inl hb)
  ·rcases cls i b hb with ⟨j, _, _, h⟩ | ⟨_, hi, h⟩ | ⟨_, h⟩
   ·exact .inr ⟨j, h⟩
   ·exact .inl (.inr ⟨i, hi, h⟩)
   ·exact .inr ⟨_, h⟩
 have conv : ∀ {w : V} {o : OV} {A : List Addr}, OR (MM (cM M0 F as) Fc') H' w o A → OR (MM M0 F') H' w o A := fun {w o A} q => q.go (fun v d x => x.less fun b hb _ => sub b hb) (fun _ _ e => e) fun _ _ => rfl
 have out : ∀ (j : Nat) (a : Addr), a ∈ Fc' j → ¬ M0 a ∧ ∀ i, i ∉ ios as → a ∉ F i := fun j a ha => by
  have h := rc.dis0 j a ha
  exact ⟨fun z => h (.inl z), fun i hi z => h (.inr ⟨i, hi, z⟩)⟩
 refine ⟨F', ⟨fun a ha => sc.stay a (rs.al0 a ha), fun i a ha => ?_, fun i => ?_, fun i k a h1 h2 => ?_, fun i o ei => ?_, fun i hi => ?_, by simp [htl, hn]⟩, st⟩
 ·rcases cls i a ha with ⟨j, _, _, h⟩ | ⟨_, hi, h⟩ | ⟨_, h⟩
  ·exact (out j a h).1
  ·exact rs.dis0 i a h
  ·exact (out _ a h).1
 ·by_cases hi : i < n
  ·by_cases hj : i ∈ ios as
   ·obtain ⟨j, hj⟩ := mem_ios.mp hj
    rw [f1 i j hi hj]; exact rc.nd j
   ·rw [f2 i hi hj]; exact rs.nd i
  ·by_cases hj : i = n
   ·subst hj; rw [f3]; exact rc.nd _
   ·rw [f4 i (by omega)]; exact .nil
 ·rcases cls i a h1 with ⟨j, hi, ej, z1⟩ | ⟨hi, ni, z1⟩ | ⟨rfl, z1⟩
  ·rcases cls k a h2 with ⟨j', hk, ej', z2⟩ | ⟨hk, nk, z2⟩ | ⟨rfl, z2⟩
   ·have := rc.dis _ _ a z1 z2
    subst this
    rw [ej] at ej'; cases ej'; rfl
   ·exact absurd z2 ((out j a z1).2 k nk)
   ·have := rc.dis _ _ a z1 z2
    subst this
    rw [List.getElem?_eq_none (Nat.le_refl _)] at ej; cases ej
  ·rcases cls k a h2 with ⟨j', hk, ej', z2⟩ | ⟨hk, nk, z2⟩ | ⟨rfl, z2⟩
   ·exact absurd z1 ((out j' a z2).2 i ni)
   ·exact rs.dis _ _ a z1 z2
   ·exact absurd z1 ((out _ a z2).2 i ni)
  ·rcases cls k a h2 with ⟨j', hk, ej', z2⟩ | ⟨hk, nk, z2⟩ | ⟨rfl, z2⟩
   ·have := rc.dis _ _ a z1 z2
    subst this
    rw [List.getElem?_eq_none (Nat.le_refl _)] at ej'; cases ej'
   ·exact absurd z2 ((out _ a z1).2 k nk)
   ·rfl
 ·by_cases hi : i < n
  ·rw [List.getElem?_append_left (by omega), List.getElem?_take_of_lt hi] at ei
   rw [List.getElem?_append_left (by omega)]
   by_cases hj : i ∈ ios as
   ·obtain ⟨j, hj⟩ := mem_ios.mp hj
    obtain ⟨o', eo, eg, _⟩ := p2 j i hj
    rw [eg] at ei
    have eoo : o' = o := by simpa using ei
    subst eoo
    have hjl : j < as.length := (List.getElem?_eq_some_iff.mp hj).1
    obtain ⟨w, ew, q⟩ := rc.at' j o' (by rw [List.getElem?_append_left (by omega)]; exact eo)
    rw [List.getElem?_append_left (by rw [List.length_map, oks.len]; exact hjl), List.getElem?_map] at ew
    have hal : j < args.length := by rw [toArgs_len e]; exact hjl
    obtain ⟨v', ev', hh⟩ := oks.get e (List.getElem?_eq_getElem hal)
    rw [ev'] at ew
    have ew' : v' = w := by simpa using ew
    subst ew'
    rcases hh with ⟨u, x, ea, _⟩ | ⟨i', ea, en, _⟩
    ·rw [hj] at ea; cases ea
    ·rw [hj] at ea; cases ea
     rw [List.getElem?_append_left (by omega)] at en
     exact ⟨v', en, by rw [f1 i j hi hj]; exact conv q⟩
   ·rw [p1 i hj] at ei
    obtain ⟨w, ew, q⟩ := rs.at' i o ei
    rw [List.getElem?_append_left (by omega)] at ew
    refine ⟨w, ew, ?_⟩
    rw [f2 i hi hj]
    exact q.go (fun v d x => rep_stp st rs.al0 x) st.tups (keepF i hj)
  ·have hin : i = n := by
    have := (List.getElem?_eq_some_iff.mp ei).1
    simp [htl] at this; omega
   subst hin
   rw [List.getElem?_append_right (by omega), htl] at ei
   have : r = o := by simpa using ei
   subst this
   refine ⟨v, by rw [List.getElem?_append_right (by omega), hn]; simp, ?_⟩
   rw [f3]
   obtain ⟨w, ew, q⟩ := rc.at' as.length r (by rw [List.getElem?_append_right (by omega), hol]; simp)
   rw [List.getElem?_append_right (by rw [List.length_map, oks.len]; exact Nat.le_refl _), List.length_map, oks.len] at ew
   have : v = w := by simpa using ew
   subst this
   exact conv q
 ·by_cases hlt : i < n
  ·have nj : i ∉ ios as := fun hj => by
    obtain ⟨j, hj⟩ := mem_ios.mp hj
    obtain ⟨o', eo, eg, _⟩ := p2 j i hj
    exact hi o' (by rw [List.getElem?_append_left (by omega), List.getElem?_take_of_lt hlt]; exact eg)
   rw [f2 i hlt nj]
   refine rs.emp i fun o eo => hi o ?_
   rw [List.getElem?_append_left (by omega), List.getElem?_take_of_lt hlt, p1 i nj]; exact eo
  ·by_cases hin : i = n
   ·subst hin
    exact absurd (by rw [List.getElem?_append_right (by omega), htl]; simp) (hi r)
   ·exact f4 i (by omega)
end
noncomputable def fCall (run : List OV → RF) (fl : EM (List AV)) : EM OV := fun Γ => (fl Γ).bind fun (as, Γ1) => match toArgs Γ1 as with
 | none => .bad
 | some args => if (ios as).Nodup then match run args with
  | .ok r outs => match putBack as outs Γ1 with
   | some Γ2 => .ok (r, Γ2.take Γ.length)
   | none => .bad
  | _ => .bad
  else .bad
theorem call_post {M0 : Addr → Prop} {F : Fp} {Γ : Gv} {ν : Nu} {σ : St} {H : Hp} {run : List OV → RF} {n : Nat} {Q : VK} {E : XK} (rs : RS M0 F Γ ν H) (hrun : ∀ args r outs, run args = .ok r outs → args.length = n)
  (hp : OPost M0 F ν σ H XP (fun F' Γ' H' o v => Q v H') (fCall run fl Γ)) : APost M0 F ν σ H XP (fun F1 Γ1 ν1 H1 as => ∀ vs, AOks M0 F1 ν1 H1 vs as → spI n run vs H1 Q E) (fl Γ) := by
 unfold fCall at hp
 generalize fl Γ = ra at hp
 cases ra with
 | bad => exact hp
 | exc x y => exact hp
 | ok z =>
  obtain ⟨as, Γ1⟩ := z
  intro F1 ν1 H1 rs1 hn s1 vs oks
  simp only [R.bind] at hp
  split at hp
  ·exact hp.elim
  ·rename_i args ea
   split at hp
   ·rename_i nd
    split at hp
    ·rename_i r outs er
     split at hp
     ·rename_i Γ2 eb
      have hl := hrun args r outs er
      refine ⟨by rw [oks.len, ← toArgs_len ea, hl], cM M0 F1 as, cF F1 as, args, call_frame rs1 oks ea nd, ?_⟩
      rw [er]
      intro F' v H' rc sc
      obtain ⟨F2, rs2, s2⟩ := call_back (n := Γ.length) rs1 oks ea nd rc sc eb hn rs.len
      exact hp F2 H' v rs2 (s1.trans s2)
     ·exact hp.elim
    ·exact hp.elim
   ·exact hp.elim
theorem so_call {x : Str} {k n : Nat} {run : List OV → RF} (kn : Kn X.prog X.w X.K X.mg X.base CX0 x k (spI n run)) (hr : Room k X.A) (hg : Gl X x) (hrun : ∀ args r outs, run args = .ok r outs → args.length = n) (hl : SA X XP mp (a :: es) fl)
  (hdb : (x == ("__debug__" : Str)) = false) (he : starEach (a :: es) X.env = (false, eval a X.env) :: starEach es X.env) (hpl : (backTo pos (starEach es X.env)).any (·.1) = false) : SO X XP mp (.Call (.Name x p) (a :: es) [] pos) (fCall run fl) := fun M0 F Γ ν σ H Q rs hs hp =>
 wp_call (E := E0) kn hr hg pass0 (hl M0 F Γ ν σ H _ rs hs (call_post rs hrun hp)) hdb he hpl
theorem so_call0 {x : Str} {k n : Nat} {run : List OV → RF} (kn : Kn X.prog X.w X.K X.mg X.base CX0 x k (spI n run)) (hr : Room k X.A) (hg : Gl X x) (hrun : ∀ args r outs, run args = .ok r outs → args.length = n)
  (hdb : (x == ("__debug__" : Str)) = false) : SO X XP mp (.Call (.Name x p) [] [] pos) (fCall run aNil) := fun M0 F Γ ν σ H Q rs hs hp => by
 obtain ⟨f, fd, ps, Fk, hm, hk, hb⟩ := kn.ex
 have h := call_post (E := E0) (n := n) rs hrun hp F ν H rs (List.prefix_refl _) (.refl _ _) [] .nil
 exact (pe_call0 Fk hr hg hm hk hb .nil pass0 hdb).wp (show spI n run ([] ++ []) H Q E0 from h)
end
end L3
namespace L3
open PySem PySem.Spec PyProof.Rows L2
inductive FL where
 | next
 | ret (o : OV)
 | brk
 | cnt
noncomputable abbrev SM := Gv → R (FL × Gv)
noncomputable def SPost (M0 : Addr → Prop) (F : Fp) (ν : Nu) (H : Hp) (XP : XPT) (mp : List Nat) (N : Nat) (io : List Nat) (D : Ends) (r : R (FL × Gv)) : Prop := match r with
 | .ok (.next, Γ') => ∀ F' ν' σ' H', RS M0 F' Γ' ν' H' → Stp F H F' H' → Sees mp ν' σ' → σ'.length = N → (∀ i ∈ io, ν'[i]? = ν[i]?) → D.nx σ' H'
 | .ok (.brk, Γ') => ∀ F' ν' σ' H', RS M0 F' Γ' ν' H' → Stp F H F' H' → Sees mp ν' σ' → σ'.length = N → (∀ i ∈ io, ν'[i]? = ν[i]?) → D.bk σ' H'
 | .ok (.cnt, Γ') => ∀ F' ν' σ' H', RS M0 F' Γ' ν' H' → Stp F H F' H' → Sees mp ν' σ' → σ'.length = N → (∀ i ∈ io, ν'[i]? = ν[i]?) → D.ct σ' H'
 | .ok (.ret o, Γ') => ∀ F' ν' v H', RS M0 F' (Γ' ++ [some o]) (ν' ++ [some v]) H' → Stp F H F' H' → (∀ i ∈ io, ν'[i]? = ν[i]?) → D.rt v H'
 | .exc x Γ' => ∀ F' ν' σ' H', RS M0 F' Γ' ν' H' → Stp F H F' H' → Sees mp ν' σ' → σ'.length = N → (∀ i ∈ io, ν'[i]? = ν[i]?) → XP x Γ' F' ν' σ' H'
 | .bad => False
noncomputable def SS (X : Cx) (XP : XPT) (mp : List Nat) (io : List Nat) (st : Stmt) (f : SM) : Prop := ∀ (M0 : Addr → Prop) (F : Fp) (Γ : Gv) (ν : Nu) (σ : St) (H : Hp) (D : Ends), RS M0 F Γ ν H → Sees mp ν σ → σ.length = X.N.length →
 SPost M0 F ν H XP mp X.N.length io D (f Γ) → wpS X st D σ H
noncomputable def SB (X : Cx) (XP : XPT) (mp : List Nat) (io : List Nat) (sts : List Stmt) (f : SM) : Prop := ∀ (M0 : Addr → Prop) (F : Fp) (Γ : Gv) (ν : Nu) (σ : St) (H : Hp) (D : Ends), RS M0 F Γ ν H → Sees mp ν σ → σ.length = X.N.length →
 SPost M0 F ν H XP mp X.N.length io D (f Γ) → wpB X sts D σ H
section
variable {M0 : Addr → Prop} {F F1 : Fp} {Γ : Gv} {ν ν1 : Nu} {σ : St} {H H1 : Hp} {XP : XPT} {mp : List Nat} {N : Nat} {io : List Nat} {D D' : Ends} {r : R (FL × Gv)}
theorem SPost.step (h : SPost M0 F ν H XP mp N io D r) (s1 : Stp F H F1 H1) (hn : ∀ i ∈ io, ν1[i]? = ν[i]?) : SPost M0 F1 ν1 H1 XP mp N io D r := by
 cases r with
 | ok z =>
  obtain ⟨fl, Γ'⟩ := z
  cases fl with
  | next => exact fun F' ν' σ' H' a b c d e => h F' ν' σ' H' a (s1.trans b) c d fun i hi => (e i hi).trans (hn i hi)
  | brk => exact fun F' ν' σ' H' a b c d e => h F' ν' σ' H' a (s1.trans b) c d fun i hi => (e i hi).trans (hn i hi)
  | cnt => exact fun F' ν' σ' H' a b c d e => h F' ν' σ' H' a (s1.trans b) c d fun i hi => (e i hi).trans (hn i hi)
  | ret o => exact fun F' ν' v H' a b e => h F' ν' v H' a (s1.trans b) fun i hi => (e i hi).trans (hn i hi)
 | exc x Γ' => exact fun F' ν' σ' H' a b c d e => h F' ν' σ' H' a (s1.trans b) c d fun i hi => (e i hi).trans (hn i hi)
 | bad => exact h
theorem SPost.seq {α : Type} {r : R (α × Gv)} {k : α × Gv → R (FL × Gv)} (hs : Sees mp ν σ) (hl : σ.length = N) (h : SPost M0 F ν H XP mp N io D (r.bind k)) : EPost M0 F ν σ H XP (fun F1 Γ1 H1 a => SPost M0 F1 ν H1 XP mp N io D (k (a, Γ1))) r := by
 cases r with
 | ok z =>
  obtain ⟨a, Γ1⟩ := z
  intro F1 H1 rs1 s1
  have h' : SPost M0 F ν H XP mp N io D (k (a, Γ1)) := h
  exact h'.step s1 fun _ _ => rfl
 | exc x Γ' => exact fun F' H' rs s => h F' ν σ H' rs s hs hl fun _ _ => rfl
 | bad => exact h
theorem SPost.seqO {r : R (OV × Gv)} {k : OV × Gv → R (FL × Gv)} (hs : Sees mp ν σ) (hl : σ.length = N) (h : SPost M0 F ν H XP mp N io D (r.bind k)) : OPost M0 F ν σ H XP (fun F1 Γ1 H1 o v => SPost M0 F1 ν H1 XP mp N io D (k (o, Γ1))) r := by
 cases r with
 | ok z =>
  obtain ⟨a, Γ1⟩ := z
  intro F1 H1 v rs1 s1
  have h' : SPost M0 F ν H XP mp N io D (k (a, Γ1)) := h
  exact h'.step s1 fun _ _ => rfl
 | exc x Γ' => exact fun F' H' rs s => h F' ν σ H' rs s hs hl fun _ _ => rfl
 | bad => exact h
end
noncomputable def sNext : SM := fun Γ => .ok (.next, Γ)
noncomputable def sSeq (f g : SM) : SM := fun Γ => match f Γ with
 | .ok (.next, Γ1) => g Γ1
 | r => r
section
variable {X : Cx} {XP : XPT} {mp io : List Nat} {a b c e tg iter : Expr} {es : List Expr} {pos p p2 pos' : Pos} {fa fb fc : EM FV} {ta tb : EM Bool} {na nb : EM (List PyData)} {fo : EM OV} {st : Stmt} {sts body els : List Stmt} {f g : SM}
theorem sb_nil : SB X XP mp io [] sNext := fun M0 F Γ ν σ H D rs hs hl hp => pss_nil.wp (hp F ν σ H rs (.refl _ _) hs hl fun _ _ => rfl)
theorem seq_post {M0 : Addr → Prop} {F : Fp} {Γ : Gv} {ν : Nu} {H : Hp} {N : Nat} {D : Ends} {nx : St → Hp → Prop} (hp : SPost M0 F ν H XP mp N io D (sSeq f g Γ))
  (hn : ∀ F1 Γ1 ν1 σ1 H1, RS M0 F1 Γ1 ν1 H1 → Sees mp ν1 σ1 → σ1.length = N → SPost M0 F1 ν1 H1 XP mp N io D (g Γ1) → nx σ1 H1) : SPost M0 F ν H XP mp N io { D with nx := nx } (f Γ) := by
 unfold sSeq at hp
 generalize f Γ = r at hp
 cases r with
 | ok z =>
  obtain ⟨fl, Γ'⟩ := z
  cases fl with
  | next => exact fun F' ν' σ' H' a b c d e => hn F' Γ' ν' σ' H' a c d (hp.step b e)
  | brk => exact hp
  | cnt => exact hp
  | ret o => exact hp
 | exc x Γ' => exact hp
 | bad => exact hp
theorem sb_cons (h1 : SS X XP mp io st f) (h2 : SB X XP mp io sts g) : SB X XP mp io (st :: sts) (sSeq f g) := fun M0 F Γ ν σ H D rs hs hl hp =>
 (pss_cons ps_self pss_self).wp (h1 M0 F Γ ν σ H _ rs hs hl (seq_post hp fun F1 Γ1 ν1 σ1 H1 rs1 hs1 hl1 h => h2 M0 F1 Γ1 ν1 σ1 H1 D rs1 hs1 hl1 h))
theorem ss_pass : SS X XP mp io (.Pass pos) sNext := fun M0 F Γ ν σ H D rs hs hl hp => ps_pass.wp (hp F ν σ H rs (.refl _ _) hs hl fun _ _ => rfl)
noncomputable def sBad : SM := fun _ => .bad
theorem ss_bad : SS X XP mp io st sBad := fun M0 F Γ ν σ H D rs hs hl hp => hp.elim
noncomputable def fD (fa : EM FV) : EM OV := fun Γ => (fa Γ).bind fun (u, Γ1) => match derS Γ1 u with
 | some x => .ok (.d x, Γ1)
 | none => .bad
theorem RS.newD {M0 : Addr → Prop} {F : Fp} {Γ : Gv} {ν : Nu} {H : Hp} {v : V} {x : PyData} (r : RS M0 F Γ ν H) (q : Rep (MM M0 F) H v x) : RS M0 F (Γ ++ [some (.d x)]) (ν ++ [some v]) H := by
 have he : F Γ.length = [] := r.emp _ fun o e => by
  rw [List.getElem?_eq_none (Nat.le_refl _)] at e; cases e
 refine ⟨r.al0, r.dis0, r.nd, r.dis, fun j o e => ?_, fun j h => ?_, by simp [r.len]⟩
 ·by_cases hj : j < Γ.length
  ·rw [List.getElem?_append_left hj] at e
   obtain ⟨w, e1, z⟩ := r.at' j o e
   exact ⟨w, by rw [List.getElem?_append_left (by rw [r.len]; exact hj)]; exact e1, z⟩
  ·have hj' : j = Γ.length := by
    have := (List.getElem?_eq_some_iff.mp e).1
    simp at this; omega
   subst hj'
   rw [List.getElem?_append_right (Nat.le_refl _)] at e
   have : (OV.d x) = o := by simpa using e
   subst this
   refine ⟨v, by rw [List.getElem?_append_right (by rw [r.len]; exact Nat.le_refl _), r.len]; simp, ?_⟩
   rw [he]; exact .d q
 ·refine r.emp j fun o e => h o ?_
  rw [List.getElem?_append_left (List.getElem?_eq_some_iff.mp e).1]; exact e
theorem SE.so (h : SE X XP mp a fa) : SO X XP mp a (fD fa) := fun M0 F Γ ν σ H Q rs hs hp =>
 h M0 F Γ ν σ H Q rs hs (hp.seq.mono fun F1 Γ1 H1 u rs1 s1 h1 v hv => by
  dsimp only at h1
  split at h1
  ·rename_i x e
   exact h1 F1 H1 v (rs1.newD (hv.strong rs1 e)) (.refl _ _)
  ·exact h1.elim)
noncomputable def fMove (i : Nat) : EM OV := fun Γ => match Γ[i]? with
 | some (some o) => .ok (o, Γ.set i none)
 | _ => .bad
theorem RS.take {M0 : Addr → Prop} {F : Fp} {Γ : Gv} {ν : Nu} {H : Hp} {i : Nat} {o : OV} (r : RS M0 F Γ ν H) (e : Γ[i]? = some (some o)) : ∃ F' v, ν[i]? = some (some v) ∧ RS M0 F' (Γ.set i none ++ [some o]) (ν ++ [some v]) H ∧ Stp F H F' H := by
 obtain ⟨v, ev, q⟩ := r.at' i o e
 have hi := (List.getElem?_eq_some_iff.mp e).1
 let F' : Fp := fun j => if j = i then [] else if j = Γ.length then F i else F j
 have g1 : F' i = [] := by show (if i = i then _ else _) = _; rw [if_pos rfl]
 have g2 : F' Γ.length = F i := by show (if Γ.length = i then _ else _) = _; rw [if_neg (by omega), if_pos rfl]
 have g3 : ∀ j, j ≠ i → j ≠ Γ.length → F' j = F j := fun j h1 h2 => by show (if j = i then _ else _) = _; rw [if_neg h1, if_neg h2]
 have cls : ∀ j a, a ∈ F' j → (j = Γ.length ∧ a ∈ F i) ∨ (j ≠ i ∧ j ≠ Γ.length ∧ a ∈ F j) := fun j a h => by
  by_cases h1 : j = i
  ·subst h1; rw [g1] at h; cases h
  ·by_cases h2 : j = Γ.length
   ·subst h2; rw [g2] at h; exact .inl ⟨rfl, h⟩
   ·rw [g3 j h1 h2] at h; exact .inr ⟨h1, h2, h⟩
 have st : Stp F H F' H := stp_sub fun j a h => by
  rcases cls j a h with ⟨_, h⟩ | ⟨_, _, h⟩
  ·exact ⟨_, h⟩
  ·exact ⟨_, h⟩
 refine ⟨F', v, ev, ⟨r.al0, fun j a h => ?_, fun j => ?_, fun j k a h1 h2 => ?_, fun j p ej => ?_, fun j h => ?_, by simp [r.len]⟩, st⟩
 ·rcases cls j a h with ⟨_, h⟩ | ⟨_, _, h⟩
  ·exact r.dis0 _ a h
  ·exact r.dis0 _ a h
 ·by_cases h1 : j = i
  ·subst h1; rw [g1]; exact .nil
  ·by_cases h2 : j = Γ.length
   ·subst h2; rw [g2]; exact r.nd _
   ·rw [g3 j h1 h2]; exact r.nd _
 ·rcases cls j a h1 with ⟨e1, z1⟩ | ⟨n1, m1, z1⟩
  ·rcases cls k a h2 with ⟨e2, z2⟩ | ⟨n2, m2, z2⟩
   ·rw [e1, e2]
   ·exact absurd (r.dis _ _ a z2 z1) n2
  ·rcases cls k a h2 with ⟨e2, z2⟩ | ⟨n2, m2, z2⟩
   ·exact absurd (r.dis _ _ a z1 z2) n1
   ·exact r.dis _ _ a z1 z2
 ·have hsl : (Γ.set i none).length = Γ.length := by simp
  by_cases hj : j < Γ.length
  ·rw [List.getElem?_append_left (by omega)] at ej
   by_cases hji : j = i
   ·subst hji; rw [List.getElem?_set_self hi] at ej; cases ej
   ·rw [List.getElem?_set_ne (Ne.symm hji)] at ej
    obtain ⟨w, ew, z⟩ := r.at' j p ej
    refine ⟨w, by rw [List.getElem?_append_left (by rw [r.len]; exact hj)]; exact ew, ?_⟩
    rw [g3 j hji (by omega)]
    exact z.go (fun _ _ x => rep_stp st r.al0 x) st.tups fun _ _ => rfl
  ·have hj' : j = Γ.length := by
    have := (List.getElem?_eq_some_iff.mp ej).1
    simp at this; omega
   subst hj'
   rw [List.getElem?_append_right (by omega), hsl] at ej
   have : o = p := by simpa using ej
   subst this
   refine ⟨v, by rw [List.getElem?_append_right (by rw [r.len]; exact Nat.le_refl _), r.len]; simp, ?_⟩
   rw [g2]
   exact q.go (fun _ _ x => rep_stp st r.al0 x) st.tups fun _ _ => rfl
 ·by_cases h1 : j = i
  ·subst h1; exact g1
  ·by_cases h2 : j = Γ.length
   ·subst h2
    exact absurd (by rw [List.getElem?_append_right (by simp)]; simp) (h o)
   ·rw [g3 j h1 h2]
    refine r.emp j fun p ep => h p ?_
    rw [List.getElem?_append_left (by simpa using (List.getElem?_eq_some_iff.mp ep).1), List.getElem?_set_ne (Ne.symm h1)]; exact ep
theorem so_move {s i : Nat} {x : Str} (hN : X.N[s]? = some x) (hv : Vis X.env.scope x) (hm : mp[s]? = some i) (hd : (x == ("__debug__" : Str)) = false) (hcd : (x == ("__classdict__" : Str)) = false) :
  SO X XP mp (.Name x pos) (fMove i) := fun M0 F Γ ν σ H Q rs hs hp => by
 unfold fMove at hp
 split at hp
 ·rename_i o q
  obtain ⟨F', v, e1, rs1, s1⟩ := rs.take q
  exact (pe_var hN hv hd hcd).wp ⟨v, hs s i v hm e1, hp F' H v rs1 s1⟩
 ·exact hp.elim
noncomputable def sRet (fo : EM OV) : SM := fun Γ => (fo Γ).bind fun (o, Γ1) => .ok (.ret o, Γ1)
theorem ss_ret (h : SO X XP mp e fo) : SS X XP mp io (.Return (some e) pos) (sRet fo) := fun M0 F Γ ν σ H D rs hs hl hp =>
 (ps_ret pe_self).wp (h M0 F Γ ν σ H _ rs hs ((SPost.seqO hs hl hp).mono fun F1 Γ1 H1 o v rs1 s1 h1 => h1 F1 ν v H1 rs1 (.refl _ _) fun _ _ => rfl))
noncomputable def sRetN : SM := fun Γ => .ok (.ret (.d .none), Γ)
noncomputable def SOt (XP : XPT) (mp : List Nat) (t : TE) (f : EM OV) : Prop := ∀ (M0 : Addr → Prop) (F : Fp) (Γ : Gv) (ν : Nu) (σ : St) (H : Hp) (Q : VK), RS M0 F Γ ν H → Sees mp ν σ →
 OPost M0 F ν σ H XP (fun F' Γ' H' o v => Q v H') (f Γ) → t σ H Q
theorem SNt.so {t : TE} (h : SNt XP mp t na) : SOt XP mp t (fOwn na) := fun M0 F Γ ν σ H Q rs hs hp =>
 h M0 F Γ ν σ H Q rs hs (hp.seq.mono fun F1 Γ1 H1 ds rs1 s1 h1 vs p r n => by
  obtain ⟨r2, s2⟩ := rs1.newO n r
  exact h1 _ _ _ r2 s2)
theorem SNt.sd {t : TE} (h : SNt XP mp t na) : SOt XP mp t (fD (fNew na)) := fun M0 F Γ ν σ H Q rs hs hp =>
 h M0 F Γ ν σ H Q rs hs (by
  have hp' : OPost M0 F ν σ H XP (fun F' Γ' H' o v => Q v H') ((na Γ).bind fun (ds, Γ1) => .ok (.d (.list ds), Γ1)) := by
   have e : fD (fNew na) Γ = (na Γ).bind fun (ds, Γ1) => .ok (.d (.list ds), Γ1) := by
    unfold fD fNew
    cases na Γ <;> rfl
   rw [← e]; exact hp
  exact hp'.seq.mono fun F1 Γ1 H1 ds rs1 s1 h1 vs p r n => by
   have s2 : Same H1 (upd H1 p (.lst vs)) := upd_new n
   exact h1 F1 _ _ ((rs1.same s2).newD (Rep.list upd_same (fun z => rs1.al p z n) (r.grow s2.grow))) (.same s2))
noncomputable def sAsg (io : List Nat) (i : Nat) (fo : EM OV) : SM := fun Γ => (fo Γ).bind fun (o, Γ1) => if i < Γ1.length ∧ i ∉ io then .ok (.next, Γ1.set i (some o)) else .bad
theorem ss_asgT {s i : Nat} {t : TE} (hps : PS X st (tAsg t (gName s))) (hn : mp.Nodup) (hm : mp[s]? = some i) (hsl : s < X.N.length) (h : SOt XP mp t fo) : SS X XP mp io st (sAsg io i fo) := fun M0 F Γ ν σ H D rs hs hl hp =>
 hps.wp (h M0 F Γ ν σ H _ rs hs ((SPost.seqO hs hl hp).mono fun F1 Γ1 H1 o v rs1 s1 h1 => by
  dsimp only at h1
  split at h1
  ·rename_i hh
   obtain ⟨F2, rs2, s2⟩ := rs1.move hh.1
   exact h1 F2 _ _ H1 rs2 s2 (hs.set hn hm (by rw [hl]; exact hsl)) (by simpa using hl) fun j hj => by
    rw [List.getElem?_set_ne (fun z => hh.2 (by rw [z]; exact hj))]
  ·exact h1.elim))
theorem ss_asg {s i : Nat} {x : Str} (hN : X.N.Nodup) (hi : X.N[s]? = some x) (hx : Loc X.env.scope x) (hf : X.fn x = true ∨ X.env.scope.names.lookup x = some .local) (hn : mp.Nodup) (hm : mp[s]? = some i) (h : SO X XP mp e fo)
  (hsw : swapsWith e (some (.Name x pos')) pos.line X.env = pure false) : SS X XP mp io (.Assign [.Name x pos'] e pos) (sAsg io i fo) :=
 ss_asgT (ps_set hN hi hx pe_self hsw hf) hn hm (List.getElem?_eq_some_iff.mp hi).1 h
noncomputable def sAsgT (t : IT) (fa : EM FV) : SM := fun Γ => (fa Γ).bind fun (u, Γ1) => match derS Γ1 u with
 | some x => match tgF t x Γ1 with
  | some Γ2 => .ok (.next, Γ2)
  | none => .bad
 | none => .bad
theorem ss_asgTg {t : IT} (ha : SE X XP mp e fa) (hg : SG X mp (· ∈ io) tg t) (hsw : swapsWithSole [tg] e pos.line X.env = pure false) (hw : swappedStores [tg] e X.env = pure none)
  (hps : PS X (.Assign [tg] e pos) (tAsg (wpE X e) (wpG X tg))) : SS X XP mp io (.Assign [tg] e pos) (sAsgT t fa) := fun M0 F Γ ν σ H D rs hs hl hp =>
 hps.wp (ha M0 F Γ ν σ H _ rs hs ((SPost.seq hs hl hp).mono fun F1 Γ1 H1 u rs1 s1 h1 v hv => by
  dsimp only at h1
  split at h1
  ·rename_i x ex
   split at h1
   ·rename_i Γ2 et
    exact hg M0 F1 Γ1 Γ2 ν σ H1 v x _ rs1 hs hl (hv.strong rs1 ex) et fun F2 ν2 σ2 rs2 s2 hs2 hl2 n2 m2 => h1 F2 ν2 σ2 H1 rs2 s2 hs2 hl2 n2
   ·exact h1.elim
  ·exact h1.elim))
noncomputable def sExpr (fa : EM FV) : SM := fun Γ => (fa Γ).bind fun (_, Γ1) => .ok (.next, Γ1)
noncomputable def sIf (t : EM Bool) (f g : SM) : SM := fun Γ => (t Γ).bind fun (b, Γ1) => if b then f Γ1 else g Γ1
theorem ss_if (hc : ST X XP mp c ta) (ha : SB X XP mp io body f) (hb : SB X XP mp io els g) : SS X XP mp io (.If c body els pos) (sIf ta f g) := fun M0 F Γ ν σ H D rs hs hl hp =>
 (ps_if pt_self pss_self pss_self).wp (hc M0 F Γ ν σ H _ rs hs ((SPost.seq hs hl hp).mono fun F1 Γ1 H1 b rs1 s1 h1 => by
  cases b with
  | true => exact iteT (ha M0 F1 Γ1 ν σ H1 D rs1 hs hl h1)
  | false => exact iteF (hb M0 F1 Γ1 ν σ H1 D rs1 hs hl h1)))
noncomputable def loopF (t : IT) (body : SM) : List PyData → Gv → R (FL × Gv)
 | [], Γ => .ok (.next, Γ)
 | d :: ds, Γ => match tgF t d Γ with
  | none => .bad
  | some Γ1 => match body Γ1 with
   | .ok (.next, Γ2) => loopF t body ds Γ2
   | .ok (.cnt, Γ2) => loopF t body ds Γ2
   | .ok (.brk, Γ2) => .ok (.next, Γ2)
   | r => r
noncomputable def sFor (t : IT) (src : EM (List PyData)) (body : SM) : SM := fun Γ => (src Γ).bind fun (ds, Γ1) => loopF t body ds Γ1
theorem ss_for {t : IT} {src : EM (List PyData)} (hpo : PassesOwn (model X.prog X.w) X.A X.env X.xe) (hc : X.calm = true) (hi : SI X XP mp tg iter src) (hg : SG X mp (· ∈ io) tg t) (hb : SB X XP mp io body f)
  (hf : ∀ x, foldedSetIterable iter X.env x = pure x) : SS X XP mp io (.For tg iter body [] pos) (sFor t src f) := fun M0 F Γ ν σ H D rs hs hl hp => by
 refine (ps_for hpo hc pi_self pg_self pss_self hf).wp (hi M0 F Γ ν σ H _ rs hs ((SPost.seq hs hl hp).mono fun F1 Γ1 H1 ds rs1 s1 h1 J hJ => ?_))
 dsimp only at h1
 refine ⟨fun i m σ' H' => m = ds.length - i ∧ i ≤ ds.length ∧ ∃ F' Γ' ν', RS M0 F' Γ' ν' H' ∧ Stp F1 H1 F' H' ∧ Sees mp ν' σ' ∧ σ'.length = X.N.length ∧ SPost M0 F' ν' H' XP mp X.N.length io D (loopF t f (ds.drop i) Γ'), ⟨ds.length, by simp, Nat.zero_le _, F1, Γ1, ν, rs1, .refl _ _, hs, hl, h1⟩, ?_⟩
 rintro i m σ' H' ⟨rfl, hil, F', Γ', ν', rs', st', hs', hl', hp'⟩
 obtain ⟨jgo, jst⟩ := hJ i F' H' st' rs1.al0
 by_cases hlt : i < ds.length
 ·obtain ⟨go, yl⟩ := jgo ds[i] (by simp [hlt])
  rw [List.drop_eq_getElem_cons hlt, loopF] at hp'
  refine .inr ⟨go, fun σ2 H2 => ∃ F2 Γ2 ν2, RS M0 F2 Γ2 ν2 H2 ∧ Stp F1 H1 F2 H2 ∧ Sees mp ν2 σ2 ∧ σ2.length = X.N.length ∧ SPost M0 F2 ν2 H2 XP mp X.N.length io D (loopF t f (ds.drop (i + 1)) Γ2), fun σ2 H2 h => ⟨ds.length - (i + 1), by omega, rfl, hlt, h⟩, fun x H2 hy => ?_⟩
  obtain ⟨s2, rx⟩ := yl x H2 hy
  cases et : tgF t ds[i] Γ' with
  | none => rw [et] at hp'; exact hp'.elim
  | some Γ2 =>
   rw [et] at hp'
   dsimp only at hp'
   refine hg M0 F' Γ' Γ2 ν' σ' H2 x ds[i] _ (rs'.same s2) hs' hl' rx et fun F3 ν3 σ3 rs3 s3 hs3 hl3 n3 m3 => ?_
   have sA : Stp F' H' F3 H2 := (Stp.same s2).trans s3
   refine hb M0 F3 Γ2 ν3 σ3 H2 _ rs3 hs3 hl3 ?_
   cases ef : f Γ2 with
   | bad => rw [ef] at hp'; exact hp'.elim
   | exc xx yy =>
    rw [ef] at hp'
    exact hp'.step sA n3
   | ok z =>
    obtain ⟨fl, Γ4⟩ := z
    rw [ef] at hp'
    cases fl with
    | next => exact fun F4 ν4 σ4 H4 a b c d e => ⟨F4, Γ4, ν4, a, (st'.trans sA).trans b, c, d, hp'.step (sA.trans b) fun i hi => (e i hi).trans (n3 i hi)⟩
    | cnt => exact fun F4 ν4 σ4 H4 a b c d e => ⟨F4, Γ4, ν4, a, (st'.trans sA).trans b, c, d, hp'.step (sA.trans b) fun i hi => (e i hi).trans (n3 i hi)⟩
    | brk => exact fun F4 ν4 σ4 H4 a b c d e => hp' F4 ν4 σ4 H4 a (sA.trans b) c d fun i hi => (e i hi).trans (n3 i hi)
    | ret o => exact fun F4 ν4 v4 H4 a b e => hp' F4 ν4 v4 H4 a (sA.trans b) fun i hi => (e i hi).trans (n3 i hi)
 ·have e : i = ds.length := by omega
  subst e
  rw [List.drop_length, loopF] at hp'
  exact .inl ⟨jst (Nat.le_refl _), hp' F' ν' σ' H' rs' (.refl _ _) hs' hl' fun _ _ => rfl⟩
theorem own_at {M0 : Addr → Prop} {F : Fp} {Γ : Gv} {ν : Nu} {H : Hp} {i : Nat} {xs : List OV} (rs : RS M0 F Γ ν H) (e : Γ[i]? = some (some (.l xs))) : ∃ a vs A, ν[i]? = some (some (.ref a)) ∧ H a = some (.lst vs) ∧ ORL (MM M0 F) H vs xs A ∧ F i = a :: A ∧ A.Nodup := by
 obtain ⟨v, ev, q⟩ := rs.at' i _ e
 have nd := rs.nd i
 generalize hA : F i = A at q
 rw [hA] at nd
 cases q with
 | l ea qa => exact ⟨_, _, _, ev, ea, qa, rfl, (List.nodup_cons.mp nd).2⟩
theorem mut_at {M0 : Addr → Prop} {F : Fp} {Γ : Gv} {ν : Nu} {H : Hp} {i : Nat} {xs xs' : List OV} {a : Addr} {vs vs' : List V} (rs : RS M0 F Γ ν H) (e : Γ[i]? = some (some (.l xs))) (en : ν[i]? = some (some (.ref a))) (eh : H a = some (.lst vs))
  (h : ∀ A, ORL (MM M0 F) H vs xs A → ORL (MM M0 F) H vs' xs' A) : ∃ F', RS M0 F' (Γ.set i (some (.l xs'))) ν (upd H a (.lst vs')) ∧ Stp F H F' (upd H a (.lst vs')) :=
 rs.mut (xs' := xs') (vs := vs') e en fun us A eu qa eF => by
  rw [eh] at eu; cases eu
  have nd := rs.nd i
  rw [eF] at nd
  exact ⟨A, fun _ h => h, (List.nodup_cons.mp nd).2, h A qa⟩
noncomputable def isOwn (Γ : Gv) (i : Nat) : Bool := match Γ[i]? with
 | some (some (.l _)) => true
 | _ => false
theorem isOwn_ex {Γ : Gv} {i : Nat} (h : isOwn Γ i = true) : ∃ xs, Γ[i]? = some (some (.l xs)) := by
 unfold isOwn at h
 split at h
 ·rename_i xs e; exact ⟨xs, e⟩
 ·cases h
structure NmK (X : Cx) (mp : List Nat) (s i : Nat) (x : Str) : Prop where
 hN : X.N[s]? = some x
 hv : Vis X.env.scope x
 hm : mp[s]? = some i
 hd : (x == ("__debug__" : Str)) = false
 hcd : (x == ("__classdict__" : Str)) = false
noncomputable def sApp (i : Nat) (fa : EM FV) : SM := fun Γ => if isOwn Γ i then (fa Γ).bind fun (u, Γ1) => match derS Γ1 u, Γ1[i]? with
 | some x, some (some (.l xs)) => if xs.length < 1000000 then .ok (.next, Γ1.set i (some (.l (xs ++ [.d x])))) else .bad
 | _, _ => .bad
 else .bad
theorem ss_app {s i : Nat} {x : Str} (n : NmK X mp s i x) (ha : SE X XP mp a fa) (hst : starEach [a] X.env = [(false, eval a X.env)]) (hline : (p2.endLine == pos.line) = true) :
  SS X XP mp io (.Expr (.Call (.Attribute (.Name x p) "append" p2) [a] [] pos) pos') (sApp i fa) := fun M0 F Γ ν σ H D rs hs hl hp => by
 unfold sApp at hp
 split at hp
 ·rename_i hw
  obtain ⟨xs0, e0⟩ := isOwn_ex hw
  obtain ⟨a0, vs0, A0, en0, eh0, q0, _, _⟩ := own_at rs e0
  refine (ps_expr (pe_bm PySem.F.plainAttrs_list PySem.F.slot_list_append PySem.F.type_list_append mt_append (pe_var n.hN n.hv n.hd n.hcd) (pa_cons pe_self pa_nil hst) rfl (by rw [hst]; rfl) hline hst rfl) rfl).wp ⟨.ref a0, hs s i _ n.hm en0, .inl ⟨rfl, _, SqL.of eh0⟩, ?_⟩
  refine ha M0 F Γ ν σ H _ rs hs ((SPost.seq hs hl hp).mono fun F1 Γ1 H1 u rs1 s1 h1 v hv => ?_)
  dsimp only at h1
  split at h1
  ·rename_i y xs ey ex
   split at h1
   ·rename_i hz
    obtain ⟨a1, vs1, A1, en1, eh1, q1, _, _⟩ := own_at rs1 ex
    rw [en0] at en1
    cases en1
    refine ⟨a0, vs1, v, rfl, rfl, eh1, by have := sizeLine_eq; rw [q1.length]; omega, ?_⟩
    obtain ⟨F2, rs2, s2⟩ := mut_at rs1 ex en0 eh1 fun A qa => qa.snoc (hv.strong rs1 ey)
    exact h1 F2 ν σ _ rs2 s2 hs hl fun _ _ => rfl
   ·exact h1.elim
  ·exact h1.elim
 ·exact hp.elim
noncomputable def sSet (i : Nat) (fi fv : EM FV) : SM := fun Γ => (fv Γ).bind fun (u, Γ1) => if isOwn Γ1 i then (fi Γ1).bind fun (w, Γ2) => match derS Γ2 u, derf Γ2 w, Γ2[i]? with
 | some x, some (.int k), some (some (.l xs)) => match ixN xs.length k with
  | some j => match xs[j]? with
   | some (.d _) => .ok (.next, Γ2.set i (some (.l (xs.set j (.d x)))))
   | _ => .bad
  | none => .bad
 | _, _, _ => .bad
 else .bad
theorem ss_set {s i : Nat} {x : Str} (n : NmK X mp s i x) (hi : SE X XP mp b fb) (hv : SE X XP mp a fa) (hsw : swapsWithSole [.Subscript (.Name x p) b p2] a pos.line X.env = pure false) (hw : swappedStores [.Subscript (.Name x p) b p2] a X.env = pure none)
  (hps : ∀ {te : TE} {g : TG}, PE X a te → PG X (.Subscript (.Name x p) b p2) g → PS X (.Assign [.Subscript (.Name x p) b p2] a pos) (tAsg te g)) (hpg : ∀ {to ti : TE} {t : TSet}, PE X (.Name x p) to → PE X b ti → PSet X t → PG X (.Subscript (.Name x p) b p2) (gSub to ti t)) :
  SS X XP mp io (.Assign [.Subscript (.Name x p) b p2] a pos) (sSet i fb fa) := fun M0 F Γ ν σ H D rs hs hl hp => by
 refine (hps pe_self (hpg (pe_var n.hN n.hv n.hd n.hcd) pe_self set_list)).wp (hv M0 F Γ ν σ H _ rs hs ((SPost.seq hs hl hp).mono fun F1 Γ1 H1 u rs1 s1 h1 v ov => ?_))
 dsimp only at h1
 split at h1
 ·rename_i hw
  obtain ⟨xs0, e0⟩ := isOwn_ex hw
  obtain ⟨a0, vs0, A0, en0, eh0, q0, _, _⟩ := own_at rs1 e0
  refine ⟨.ref a0, hs s i _ n.hm en0, ?_⟩
  refine hi M0 F1 Γ1 ν σ H1 _ rs1 hs ((SPost.seq hs hl h1).mono fun F2 Γ2 H2 w rs2 s2 h2 vi oi => ?_)
  dsimp only at h2
  split at h2
  ·rename_i y k xs ey ek ex
   split at h2
   ·rename_i j ej
    split at h2
    ·rename_i z ez
     obtain ⟨a1, vs1, A1, en1, eh1, q1, _, _⟩ := own_at rs2 ex
     rw [en0] at en1
     cases en1
     cases oi.weak rs2 ek
     refine ⟨a0, vs1, k, j, rfl, rfl, eh1, by rw [q1.length]; exact ej, ?_⟩
     obtain ⟨F3, rs3, s3⟩ := mut_at rs2 ex en0 eh1 fun A qa => qa.setD ((ov.stp s2 rs1.al0).strong rs2 ey) ez
     exact h2 F3 ν σ _ rs3 s3 hs hl fun _ _ => rfl
    ·exact h2.elim
   ·exact h2.elim
  ·exact h2.elim
 ·exact h1.elim
noncomputable def derfs (Γ : Gv) : List FV → Option (List PyData)
 | [] => some []
 | u :: us => match derf Γ u, derfs Γ us with
  | some x, some xs => some (x :: xs)
  | _, _ => none
theorem FOks.weak {M0 : Addr → Prop} {F : Fp} {Γ : Gv} {ν : Nu} {H : Hp} (rs : RS M0 F Γ ν H) : ∀ {vs : List V} {us : List FV} {ds : List PyData}, FOks M0 F ν H vs us → derfs Γ us = some ds → RepL Nothing H vs ds
 | _, _, _, .nil, e => by cases e; exact .nil
 | _, _, _, .cons h t, e => by
  unfold derfs at e
  split at e
  ·rename_i e1 e2
   cases e
   exact .cons (h.weak rs e1) (FOks.weak rs t e2)
  ·cases e
noncomputable def fCallW (run : List OV → RF) (fl : EM (List FV)) : EM FV := fun Γ => (fl Γ).bind fun (us, Γ1) => match derfs Γ1 us with
 | none => .bad
 | some ds => match run (ds.map .d) with
  | .ok (.d x) _ => if noL x then .ok (.dat x, Γ1) else .bad
  | _ => .bad
theorem frame0 {H : Hp} {vs : List V} {ds : List PyData} (r : RepL Nothing H vs ds) : RS Nothing (fun _ => []) ((ds.map OV.d).map some) (vs.map some) H where
 al0 a h := h.elim
 dis0 i a h := by cases h
 nd i := .nil
 dis i j a h := by cases h
 at' j o e := by
  rw [List.getElem?_map, List.getElem?_map] at e
  cases q : ds[j]? with
  | none => rw [q] at e; cases e
  | some x =>
   rw [q] at e
   have eo : OV.d x = o := by simpa using e
   subst eo
   obtain ⟨v, ev, rv⟩ := r.get' q
   refine ⟨v, by rw [List.getElem?_map, ev]; rfl, .d (rv.less fun b hb _ => ?_)⟩
   rcases hb with hb | ⟨i, hb⟩
   ·exact hb
   ·cases hb
 emp i h := rfl
 len := by simp [r.length]
theorem se_callW {x : Str} {k n : Nat} {run : List OV → RF} {fl : EM (List FV)} (kn : Kn X.prog X.w X.K X.mg X.base CX0 x k (spI n run)) (hr : Room k X.A) (hg : Gl X x) (hrun : ∀ args r outs, run args = .ok r outs → args.length = n) (hlist : SL X XP mp (a :: es) fl)
  (hdb : (x == ("__debug__" : Str)) = false) (he : starEach (a :: es) X.env = (false, eval a X.env) :: starEach es X.env) (hpl : (backTo pos (starEach es X.env)).any (·.1) = false) : SE X XP mp (.Call (.Name x p) (a :: es) [] pos) (fCallW run fl) := fun M0 F Γ ν σ H Q rs hs hp =>
 wp_call (E := E0) kn hr hg pass0 (hlist M0 F Γ ν σ H _ rs hs (hp.seq.mono fun F1 Γ1 H1 us rs1 s1 h1 vs oks => by
  dsimp only at h1
  split at h1
  ·exact h1.elim
  ·rename_i ds ed
   have rw0 := oks.weak rs1 ed
   split at h1
   ·rename_i y outs er
    split at h1
    ·rename_i hz
     have hl := hrun _ _ _ er
     refine ⟨by rw [rw0.length, ← hl]; simp, Nothing, fun _ => [], ds.map .d, frame0 rw0, ?_⟩
     rw [er]
     intro F' v H' rc sc
     have sm : Same H1 H' := fun b o e => (sc.keep b o e fun _ h => nomatch h).1
     refine h1 F1 H' (rs1.same sm) (.same sm) v ?_
     have hlen := rc.len
     obtain ⟨w, ew, q⟩ := rc.at' outs.length (.d y) (by rw [List.getElem?_append_right (Nat.le_refl _)]; simp)
     have hol : outs.length = (vs.map some).length := by simp at hlen ⊢; omega
     rw [hol, List.getElem?_append_right (Nat.le_refl _)] at ew
     have : v = w := by simpa using ew
     subst this
     generalize F' outs.length = A at q
     cases q with
     | d q => exact Rep.free hz q
    ·exact h1.elim
   ·exact h1.elim)) hdb he hpl
end
end L3
namespace L2
open PySem PySem.Spec PyProof.Rows
section
variable {X : Cx} {pins : List (Addr × Obj)} {σ : List (Option V)} {H : Hp} {s : Shared} {h' : Heap}
end
section
variable {X : Cx}
end
end L2
namespace L3
open PySem PySem.Spec PyProof.Rows L2
noncomputable def enumD (ds : List PyData) : List PyData := ds.zipIdx.map fun p => PyData.tuple [.int p.2, p.1]
noncomputable def fEnum (fa : EM FV) : EM (List PyData) := fun Γ => (fa Γ).bind fun (u, Γ1) => match derS Γ1 u with
 | some (.list ds) => .ok (enumD ds, Γ1)
 | _ => .bad
section
variable {X : Cx} {XP : XPT} {mp : List Nat} {a : Expr} {p pos : Pos} {fa : EM FV}
end
end L3
namespace L2
open PySem PySem.Spec PyProof.Rows
structure BoxIs (M : Addr → Prop) (H : Hp) (b c : Addr) (cells : List Int) (i l t s : Int) : Prop where
 mb : M b
 hb : H b = some (.lst [.ref c, .int i, .int l, .int t, .int s])
 hc : Rep M H (.ref c) (.list (cells.map PyData.int))
 hi : 0 ≤ i
noncomputable def BoxAt (M : Addr → Prop) (H : Hp) (b : Addr) : Prop := ∃ c cells i l t s, BoxIs M H b c cells i l t s
theorem BoxAt.mem {M : Addr → Prop} {H : Hp} {b : Addr} (B : BoxAt M H b) : M b := let ⟨_, _, _, _, _, _, B⟩ := B; B.mb
theorem BoxAt.lst {M : Addr → Prop} {H : Hp} {b : Addr} (B : BoxAt M H b) : ∃ xs, H b = some (.lst xs) := let ⟨_, _, _, _, _, _, B⟩ := B; ⟨_, B.hb⟩
noncomputable def spBox (K : PySem.W.Frag) : Sp := fun vs H Q _ => ∃ (a : Addr) (ns : List Int), vs = [.ref a] ∧ SqL K H a (ns.map V.int) ∧ ns.length ≤ 63 ∧ ∀ b H', Same H H' → H b = none → H' b ≠ none → BoxAt (fun a => a = b) H' b → Q (.ref b) H'
section
variable {X : Cx} {M : Addr → Prop} {Γ : Ge} {σ : St} {H : Hp} {D : Ends} {sts : List Stmt} {e e1 : Expr} {p pos pos' : Pos} {x : Str} {k : Nat} {b : Addr} {n : Int} {Q : VK}
end
theorem blank_get {n i : Nat} {z : Ent} (e : (List.replicate n none : Ge)[i]? = some (some z)) : False := by
 rw [List.getElem?_replicate] at e
 split at e
 ·cases e
 ·cases e
theorem RS.blank {M : Addr → Prop} {σ : St} {H : Hp} (n : Nat) (al : Al M H) : RS M (List.replicate n none) σ H := ⟨al, fun i d e => (blank_get e).elim, fun i d e => (blank_get e).elim⟩
section
variable {X : Cx} {H : Hp} {D : Ends} {sts : List Stmt} {p pos pos' p2 : Pos} {x : Str} {k : Nat} {Q : VK}
theorem wb_box {a : Addr} {ns : List Int} {N : List Str} (hN : X.N.Nodup) (kb : Kn X.prog X.w X.K X.mg X.base CX0 "_law_box" k (spBox X.K)) (hr : Room k X.A) (hS : SqL X.K H a (ns.map V.int)) (hlen : ns.length ≤ 63)
  (kk : ∀ b σ' H', Same H H' → H b = none → BoxAt (fun a => a = b) H' b → RS (fun a => a = b) ((List.replicate X.N.length none).set 1 (some (.v (.ref b)))) σ' H' → σ'.length = X.N.length → wpB X sts D σ' H')
  (hNe : X.N = N) (h0 : N[0]? = some ("_law_script" : Str)) (hi : X.N[1]? = some x := by rfl) (hv0 : Vis X.env.scope "_law_script" := by first | exact Or.inl rfl | exact Or.inr (Or.inl rfl) | exact Or.inr (Or.inr rfl)) (hx : Loc X.env.scope x := by first | exact Or.inl rfl | exact Or.inr rfl)
  (hf : X.fn x = true ∨ X.env.scope.names.lookup x = some .local := by first | exact .inl rfl | exact .inr rfl | assumption) (hg : Gl X "_law_box" := by rfl)
  (hs : starEach [.Name "_law_script" p2] X.env = [(false, eval (.Name "_law_script" p2) X.env)] := by rfl) (hpl : (backTo p (starEach [] X.env)).any (·.1) = false := by rfl) {p3 : Pos} :
  wpB X (.Assign [.Name x pos'] (.Call (.Name "_law_box" p3) [.Name "_law_script" p2] [] p) pos :: sts) D (start N [.ref a]) H := by
 have hl : 1 < N.length := by rw [← hNe]; exact (List.getElem?_eq_some_iff.mp hi).1
 have hst : (start N [V.ref a]).length = N.length := start_length (by simp; omega)
 refine wb_wp 1 (Q := fun v H' => ∃ b, v = .ref b ∧ Same H H' ∧ H b = none ∧ BoxAt (fun a => a = b) H' b) hN (wp_call kb hr hg pass0 ((pa_cons (pe_var (by rw [hNe]; exact h0) hv0) pa_nil hs).wp ⟨.ref a, by simp [start], a, ns, rfl, hS, hlen, fun b H' s' nb _ hB => ⟨b, rfl, s', nb, hB⟩⟩) (by decide) hs hpl) (fun v H1 ⟨b, ev, s1, nb, hB⟩ => ?_) hi hx rfl hf
 subst ev
 refine kk b _ H1 s1 nb hB ((RS.blank X.N.length (fun c hc => ?_)).setV (by rw [hst]; exact hl)) (by rw [List.length_set, hst, hNe])
 subst hc
 obtain ⟨xs, hx⟩ := hB.lst
 rw [hx]
 exact fun z => nomatch z
end
end L2
set_option maxHeartbeats 4000000
namespace L2
open PySem PySem.Spec PyProof.Rows
theorem IntsAre.of : ∀ {ns : List Int} {us : List Value}, Vals (ns.map V.int) us → IntsAre us ns
 | [], _, .nil => .nil
 | n :: ns, _, .cons ⟨t, e⟩ r => by subst e; exact .cons n t (IntsAre.of r)
section
variable {X : Cx}
end
end L2
namespace L3
open PySem PySem.Spec PyProof.Rows L2
noncomputable def intsOf : List PyData → Option (List Int)
 | [] => some []
 | .int b :: r => (intsOf r).map (b :: ·)
 | _ => none
section
variable {X : Cx} {XP : XPT} {mp : List Nat} {a : Expr} {p pos : Pos} {fa : EM FV}
end
end L3
set_option maxHeartbeats 4000000
namespace L3
open PySem PySem.Spec PyProof.Rows L2
section
variable {X : Cx} {XP : XPT} {mp : List Nat} {a b : Expr} {p p2 pos : Pos} {fa fb : EM FV}
end
end L3
set_option maxHeartbeats 4000000
namespace Tab
open PySem PySem.SetTable
noncomputable def stp (m i : Nat) : Nat := (i * 5 + 1) % (m + 1)
noncomputable def it (m : Nat) : Nat → Nat → Nat
 | 0, i => i
 | n + 1, i => it m n (stp m i)
end Tab
set_option maxHeartbeats 4000000
namespace Tab
open PySem PySem.SetTable
theorem erase_perm {α : Type} : ∀ {l : List α} {n : Nat} (h : n < l.length), (l[n] :: l.eraseIdx n).Perm l
 | x :: l, 0, _ => .refl _
 | x :: l, n + 1, h => ((List.Perm.swap x (l[n]'(by simpa using h)) _)).trans ((erase_perm (l := l) (n := n) (by simpa using h)).cons x)
theorem pick_go {α : Type} (next : Nat → Nat) : ∀ (fuel k : Nat) (left : List α) (out : Array α), left.length ≤ fuel → (pickOrder.go next fuel k left out).toList.Perm (out.toList ++ left)
 | 0, k, left, out, h => by
  have : left = [] := List.length_eq_zero_iff.mp (by omega)
  subst this
  rw [pickOrder.go, List.append_nil]
 | fuel + 1, k, left, out, h => by
  rw [pickOrder.go]
  cases left with
  | nil => simp
  | cons x l =>
   have hlt : next k % (x :: l).length < (x :: l).length := Nat.mod_lt _ (by simp)
   rw [List.getElem?_eq_getElem hlt]
   dsimp only
   refine (pick_go next fuel (k + 1) _ _ ?_).trans ?_
   ·rw [List.length_eraseIdx_of_lt hlt]; omega
   ·rw [Array.toList_push, List.append_assoc]
    exact List.Perm.append_left _ (erase_perm hlt)
theorem pick_perm {α : Type} (next : Nat → Nat) (xs : Array α) : (pickOrder next xs).toList.Perm xs.toList := by
 have := pick_go next xs.size 0 xs.toList #[] (by simp)
 simpa [pickOrder] using this
section
variable {prog : Program} {w : World} {A : Around} {E : Value → Shared → Prop} {s : Shared}
theorem noRef {es : Array (Int × Value)} (h : ElemsOf (intKind prog w) es.toList) : ∀ e ∈ es.toList, ∃ n t, e.2 = .int n t := fun e he => by
 obtain ⟨⟨k, hk, _⟩, _⟩ := h e he
 obtain ⟨t, ht⟩ := Value.isInt_shape hk
 exact ⟨k, t, ht⟩
theorem quiet_of {l : List Addr} {Q : Bool → Shared → Prop} (h : ∀ b ∈ l, ∃ S n, s.heap.SetOf (intKind prog w) b S n) (hQ : Q true s) : wpAny (model prog w) A (setsQuiet l) Q E s := by
 unfold setsQuiet
 refine wpAny_bind ?_
 refine wpAny_forIn_list _ (fun rest b s' => b = (none, ()) ∧ s' = s ∧ ∀ x ∈ rest, ∃ S n, s.heap.SetOf (intKind prog w) x S n) _ ?_ ?_ l _ ⟨rfl, rfl, h⟩
 ·rintro a rest b s' ⟨rfl, rfl, hh⟩
  obtain ⟨S, n, o, es, ep, t, ho, hex, hd, hel, hmem, hb, hf, hn⟩ := hh a List.mem_cons_self
  refine wpAny_bind (wpAny_setEntries_of ho hd hf ?_)
  refine wpAny_bind (wpAny_forIn_array' _ (fun (rest : List (Int × Value)) b s'' => b = (none, ()) ∧ s'' = s' ∧ ∀ e ∈ rest, ∃ n t, e.2 = .int n t) _ ?_ ?_ es _ ⟨rfl, rfl, noRef hel⟩)
  ·rintro ⟨hh2, x⟩ rest b s'' ⟨rfl, rfl, hi⟩
   obtain ⟨n, t, e⟩ := hi _ List.mem_cons_self
   dsimp only at e
   subst e
   exact wpAny_pure ⟨rfl, rfl, fun e he => hi e (List.mem_cons_of_mem _ he)⟩
  ·rintro b s'' ⟨rfl, rfl, _⟩
   exact wpAny_pure ⟨rfl, rfl, fun x hx => hh x (List.mem_cons_of_mem _ hx)⟩
 ·rintro b s' ⟨rfl, rfl, _⟩
  exact wpAny_pure hQ
theorem setWalk_of {a : Addr} {o : Obj} {es : Array (Int × Value)} {ep : Nat} {t : SetTable} {Q' : Array (Int × Value) → Shared → Prop} (ho : s.heap.get? a = some o) (hd : o.data = .set es ep t) (hf : t.fits es.size = true)
  (hc : (w.params.followText "set-order" || (t.led && t.plain) || decide (es.size ≤ 1)) = true) (hq : ∀ es', es'.toList.Perm es.toList → Q' es' s) : wpAny (model prog w) A (setWalk a) Q' E s := by
 unfold setWalk setsByText
 refine wpAny_bind (wpAny_setState_of ho hd hf ?_)
 refine wpAny_bind (wpAny_bind (wpAny_askSetting (wpAny_pure ?_)))
 show wpAny _ _ (if w.params.followText "set-order" = true then _ else _) _ _ _
 by_cases hT : w.params.followText "set-order" = true
 ·rw [if_pos hT]
  exact wpAny_bind (wpAny_askSetting (wpAny_pure (hq _ (pick_perm _ _))))
 ·rw [if_neg hT]
  have hT' : w.params.followText "set-order" = false := by simpa using hT
  rw [hT', Bool.false_or, Bool.or_eq_true, Bool.and_eq_true, decide_eq_true_eq] at hc
  split
  ·rename_i hdr
   exfalso
   change (!t.plain && decide (es.size > 1)) = true at hdr
   rw [Bool.and_eq_true, decide_eq_true_eq] at hdr
   rcases hc with ⟨_, hp⟩ | hz
   ·rw [hp] at hdr; exact absurd hdr.1 (by decide)
   ·omega
  ·show wpAny _ _ ((if (!t.led && decide (es.size > 1)) = true then unsupported "set:maker-not-led" else pure PUnit.unit) >>= fun _ => pure es) _ _ _
   rw [if_neg]
   ·exact wpAny_bind (wpAny_pure (wpAny_pure (hq es (.refl _))))
   ·intro z
    rw [Bool.and_eq_true, decide_eq_true_eq] at z
    rcases hc with ⟨hl, _⟩ | hz
    ·rw [hl] at z; exact absurd z.1 (by decide)
    ·omega
theorem walk_of {a : Addr} {o : Obj} {es : Array (Int × Value)} {ep : Nat} {t : SetTable} {others : List Addr} {Q : Array (Int × Value) → Shared → Prop} (ho : s.heap.get? a = some o) (hd : o.data = .set es ep t) (hf : t.fits es.size = true)
  (hl : ∀ b ∈ a :: others, ∃ S n, s.heap.SetOf (intKind prog w) b S n) (h : ∀ es', es'.toList.Perm es.toList → Q es' s) : wpAny (model prog w) A (setWalkUnseen a others none) Q E s := by
 unfold setWalkUnseen setsByText
 refine wpAny_bind (wpAny_setState_of ho hd hf ?_)
 dsimp only
 refine wpAny_bind (wpAny_bind (wpAny_askSetting (wpAny_pure ?_)))
 show wpAny _ _ (if (w.params.followText "set-order" || t.led && t.plain || decide (es.size ≤ 1)) = true then _ else _) _ _ _
 split
 ·rename_i hc
  exact setWalk_of ho hd hf hc h
 ·refine wpAny_bind (quiet_of hl ?_)
  simp only [Bool.not_true, Bool.false_eq_true, if_false]
  exact wpAny_bind (wpAny_rule (wpAny_pure (h es (.refl _))))
inductive Keys (prog : Program) (w : World) : List (Int × Value) → List Int → Prop
 | nil : Keys prog w [] []
 | cons {k : Int} {t : Tok} {es ks} : Keys prog w es ks → Keys prog w (((intKind prog w).hash k, .int k t) :: es) (k :: ks)
theorem Keys.mem {es : List (Int × Value)} {ks : List Int} (h : Keys prog w es ks) (k : Int) : (∃ e ∈ es, (intKind prog w).is k e.2 = true) ↔ k ∈ ks := by
 induction h with
 | nil => simp
 | @cons k' t es ks _ ih =>
  constructor
  ·rintro ⟨e, he, hk⟩
   rcases List.mem_cons.mp he with rfl | he
   ·have hk2 : Value.isInt k (.int k' t) = true := hk
    obtain ⟨t2, e2⟩ := Value.isInt_shape hk2
    injection e2 with e3
    rw [← e3]; exact List.mem_cons_self
   ·exact List.mem_cons_of_mem _ (ih.mp ⟨e, he, hk⟩)
  ·intro hk
   rcases List.mem_cons.mp hk with rfl | hk
   ·exact ⟨_, List.mem_cons_self, intKind_is _ _ _ _⟩
   ·obtain ⟨e, he, h2⟩ := ih.mpr hk
    exact ⟨e, List.mem_cons_of_mem _ he, h2⟩
theorem Keys.length {es : List (Int × Value)} {ks : List Int} (h : Keys prog w es ks) : es.length = ks.length := by
 induction h with
 | nil => rfl
 | cons _ ih => simp [ih]
end
end Tab
set_option maxHeartbeats 4000000
namespace Tab
open PySem PySem.SetTable
section
variable {prog : Program} {w : World} {A : Around} {E : Value → Shared → Prop} {s : Shared}
theorem Keys.eraseIdx : ∀ {es : List (Int × Value)} {ks : List Int} (i : Nat), Keys prog w es ks → Keys prog w (es.eraseIdx i) (ks.eraseIdx i)
 | _, _, i, .nil => by simp; exact .nil
 | _, _, 0, .cons h => h
 | _, _, i + 1, .cons h => .cons (h.eraseIdx i)
theorem Keys.find : ∀ {es : List (Int × Value)} {ks : List Int} {i : Nat} {k : Int}, Keys prog w es ks → es.findIdx? (fun e => (intKind prog w).is k e.2) = some i → ks[i]? = some k := by
 intro es ks i k h e
 obtain ⟨hi, hp, _⟩ := List.findIdx?_eq_some_iff_getElem.mp e
 have H : ∀ {es : List (Int × Value)} {ks : List Int} (i : Nat) (hi : i < es.length), Keys prog w es ks → (intKind prog w).is k es[i].2 = true → ks[i]? = some k := by
  intro es ks i hi h
  induction h generalizing i with
  | nil => simp at hi
  | @cons k' t es ks h ih =>
   intro hk
   cases i with
   | zero =>
    have hk2 : Value.isInt k (.int k' t) = true := hk
    obtain ⟨t2, e2⟩ := Value.isInt_shape hk2
    injection e2 with e3
    rw [e3]; rfl
   | succ i => exact ih i (by simpa using hi) hk
 exact H i hi h hp
end
end Tab
set_option maxHeartbeats 4000000
namespace Tab
open PySem PySem.SetTable
section
variable {prog : Program} {w : World} {A : Around} {E : Value → Shared → Prop} {s : Shared}
end
end Tab
set_option maxHeartbeats 4000000
namespace Tab
open PySem PySem.SetTable
section
variable {prog : Program} {w : World} {A : Around} {E : Value → Shared → Prop} {s : Shared}
end
end Tab
set_option maxHeartbeats 4000000
namespace L2
open PySem PySem.Spec PyProof.Rows
section
variable {X : Cx}
end
end L2
namespace L3
open PySem PySem.Spec PyProof.Rows L2
section
variable {X : Cx} {XP : XPT} {mp : List Nat} {a b : Expr} {fa fb : EM FV}
end
end L3
namespace L2
open PySem PySem.Spec PyProof.Rows
section
variable {X : Cx} {e : Expr} {te : TE} {st : Expr} {ts : TO} {pos p2 : Pos}
end
end L2
namespace L2
open PySem PySem.Spec PyProof.Rows
section
variable {X : Cx}
end
end L2
namespace L3
open PySem PySem.Spec PyProof.Rows L2
section
variable {X : Cx} {XP : XPT} {mp : List Nat} {a st : Expr} {p p2 pos : Pos} {fa fs : EM FV}
end
end L3
namespace L3
open PySem PySem.Spec PyProof.Rows L2
section
variable {M0 : Addr → Prop} {F F' : Fp} {Γ Γ' : Gv} {ν ν' : Nu} {H H' : Hp}
end
section
variable {X : Cx} {XP : XPT} {mp io : List Nat} {a b c e tg iter : Expr} {es : List Expr} {pos p p2 pos' : Pos} {fa fb fc : EM FV} {ta tb : EM Bool} {na nb : EM (List PyData)} {fo : EM OV} {st : Stmt} {sts body els : List Stmt} {f g : SM}
end
theorem ORL.snocO {M : Addr → Prop} {H : Hp} {v : V} {o : OV} {B : List Addr} (q : OR M H v o B) : ∀ {vs : List V} {os : List OV} {A : List Addr}, ORL M H vs os A → ORL M H (vs ++ [v]) (os ++ [o]) (A ++ B)
 | _, _, _, .nil => by simpa using ORL.cons q .nil
 | _, _, _, .cons r t => by rw [List.append_assoc]; exact .cons r (ORL.snocO q t)
section
variable {M0 : Addr → Prop} {F F' : Fp} {Γ Γ' : Gv} {ν ν' : Nu} {H H' : Hp}
theorem RS.join {i : Nat} {xs : List OV} {o : OV} {v : V} {a : Addr} {vs : List V} (r : RS M0 F (Γ ++ [some o]) (ν ++ [some v]) H) (e : Γ[i]? = some (some (.l xs))) (en : ν[i]? = some (some (.ref a))) (eh : H a = some (.lst vs)) :
  vs.length = xs.length ∧ ∃ F', RS M0 F' (Γ.set i (some (.l (xs ++ [o])))) ν (upd H a (.lst (vs ++ [v]))) ∧ Stp F H F' (upd H a (.lst (vs ++ [v]))) := by
 have hl : ν.length = Γ.length := by have := r.len; simp at this; exact this
 have hi := (List.getElem?_eq_some_iff.mp e).1
 obtain ⟨a1, vs1, A, en1, eh1, qa, eF, nd⟩ := own_at r (by rw [List.getElem?_append_left hi]; exact e)
 rw [List.getElem?_append_left (by omega), en] at en1
 cases en1
 rw [eh] at eh1
 cases eh1
 refine ⟨qa.length, ?_⟩
 obtain ⟨u, eu, qo⟩ := r.at' Γ.length o (by rw [List.getElem?_append_right (Nat.le_refl _)]; simp)
 have euv : u = v := by
  rw [List.getElem?_append_right (by omega), hl] at eu
  simpa using eu.symm
 subst euv
 have ha : a ∈ F i := by rw [eF]; exact List.mem_cons_self
 have hne : ∀ j, j ≠ i → ∀ b ∈ F j, b ≠ a := fun j hj b hb z => by subst z; exact hj (r.dis _ _ _ hb ha)
 have hnA : ∀ b ∈ A, b ≠ a := fun b hb z => by
  subst z
  have := r.nd i
  rw [eF] at this
  exact (List.nodup_cons.mp this).1 hb
 let F' : Fp := fun j => if j = i then F i ++ F Γ.length else if j < Γ.length then F j else []
 have hFi : F' i = F i ++ F Γ.length := by show (if i = i then _ else _) = _; rw [if_pos rfl]
 have hFj : ∀ j, j ≠ i → j < Γ.length → F' j = F j := fun j h1 h2 => by show (if j = i then _ else _) = _; rw [if_neg h1, if_pos h2]
 have hFo : ∀ j, j ≠ i → ¬ j < Γ.length → F' j = [] := fun j h1 h2 => by show (if j = i then _ else _) = _; rw [if_neg h1, if_neg h2]
 have sub : ∀ j b, b ∈ F' j → (j = i ∧ (b ∈ F i ∨ b ∈ F Γ.length)) ∨ (j ≠ i ∧ j < Γ.length ∧ b ∈ F j) := fun j b h => by
  by_cases h1 : j = i
  ·subst h1; rw [hFi] at h; exact .inl ⟨rfl, List.mem_append.mp h⟩
  ·by_cases h2 : j < Γ.length
   ·rw [hFj j h1 h2] at h; exact .inr ⟨h1, h2, h⟩
   ·rw [hFo j h1 h2] at h; cases h
 have s : Stp F H F' (upd H a (.lst (vs ++ [u]))) := ⟨fun b ob e nb => ⟨by
   rw [upd_ne (fun z => by subst z; exact nb i ha)]; exact e, fun j h => by
   rcases sub j b h with ⟨_, h | h⟩ | ⟨_, _, h⟩ <;> exact nb _ h⟩, fun b xs e => by
   rw [upd_ne (fun z => by subst z; rw [eh] at e; cases e)]; exact e, fun b h => by
   by_cases z : b = a
   ·subst z; rw [upd_same]; exact fun z => nomatch z
   ·rw [upd_ne z]; exact h⟩
 have hin : ∀ b, b ∈ F Γ.length → b ∉ F i := fun b h1 h2 => by have := r.dis _ _ b h1 h2; omega
 refine ⟨F', ⟨fun b h => s.stay b (r.al0 b h), fun j b h => ?_, fun j => ?_, fun j k b h1 h2 => ?_, fun j p ep => ?_, fun j h => ?_, by simp [hl]⟩, s⟩
 ·rcases sub j b h with ⟨_, h | h⟩ | ⟨_, _, h⟩ <;> exact r.dis0 _ b h
 ·by_cases h1 : j = i
  ·subst h1; rw [hFi]
   exact List.nodup_append.mpr ⟨r.nd _, r.nd _, fun x hx y hy z => by subst z; exact hin _ hy hx⟩
  ·by_cases h2 : j < Γ.length
   ·rw [hFj j h1 h2]; exact r.nd _
   ·rw [hFo j h1 h2]; exact .nil
 ·rcases sub j b h1 with ⟨e1, z1⟩ | ⟨n1, l1, z1⟩
  ·rcases sub k b h2 with ⟨e2, z2⟩ | ⟨n2, l2, z2⟩
   ·rw [e1, e2]
   ·rcases z1 with z1 | z1
    ·exact absurd (r.dis _ _ b z2 z1) n2
    ·have := r.dis _ _ b z2 z1; omega
  ·rcases sub k b h2 with ⟨e2, z2⟩ | ⟨n2, l2, z2⟩
   ·rcases z2 with z2 | z2
    ·exact absurd (r.dis _ _ b z1 z2) n1
    ·have := r.dis _ _ b z1 z2; omega
   ·exact r.dis _ _ b z1 z2
 ·by_cases hj : j = i
  ·subst hj
   rw [List.getElem?_set_self hi] at ep
   cases ep
   refine ⟨.ref a, en, ?_⟩
   rw [hFi, eF, List.cons_append]
   exact .l upd_same (ORL.snocO (qo.go (fun _ _ x => rep_stp s r.al0 x) s.tups fun b hb => upd_ne (hne _ (by omega) b hb)) (qa.go (fun _ _ x => rep_stp s r.al0 x) s.tups fun b hb => upd_ne (hnA b hb)))
  ·rw [List.getElem?_set_ne (Ne.symm hj)] at ep
   have hjl : j < Γ.length := (List.getElem?_eq_some_iff.mp ep).1
   obtain ⟨w, e1, q⟩ := r.at' j p (by rw [List.getElem?_append_left hjl]; exact ep)
   rw [List.getElem?_append_left (by omega)] at e1
   exact ⟨w, e1, by rw [hFj j hj hjl]; exact q.go (fun _ _ x => rep_stp s r.al0 x) s.tups fun b hb => upd_ne (hne j hj b hb)⟩
 ·by_cases hj : j = i
  ·subst hj; rw [List.getElem?_set_self hi] at h; exact absurd rfl (h _)
  ·by_cases h2 : j < Γ.length
   ·rw [hFj j hj h2]
    refine r.emp j fun p ep => h p ?_
    rw [List.getElem?_append_left h2] at ep
    rw [List.getElem?_set_ne (Ne.symm hj)]; exact ep
   ·exact hFo j hj h2
theorem RS.clear (r : RS M0 F Γ ν H) (j : Nat) (w : Option V) : ∃ F', RS M0 F' (Γ.set j none) (ν.set j w) H ∧ Stp F H F' H := by
 have sub : ∀ k b, b ∈ fset F j [] k → k ≠ j ∧ b ∈ F k := fun k b h => by
  by_cases hk : k = j
  ·subst hk; rw [fset_same] at h; cases h
  ·rw [fset_ne hk] at h; exact ⟨hk, h⟩
 have s : Stp F H (fset F j []) H := stp_sub fun k b h => ⟨k, (sub k b h).2⟩
 refine ⟨fset F j [], ⟨r.al0, fun k b h => r.dis0 k b (sub k b h).2, fun k => ?_, fun k l b h1 h2 => r.dis k l b (sub k b h1).2 (sub l b h2).2, fun k o e => ?_, fun k h => ?_, by simp [r.len]⟩, s⟩
 ·by_cases hk : k = j
  ·subst hk; rw [fset_same]; exact .nil
  ·rw [fset_ne hk]; exact r.nd k
 ·have hk : k ≠ j := fun z => by
   subst z
   have hl := (List.getElem?_eq_some_iff.mp e).1
   rw [List.getElem?_set_self (by simpa using hl)] at e; cases e
  rw [List.getElem?_set_ne (Ne.symm hk)] at e ⊢
  obtain ⟨v, e1, q⟩ := r.at' k o e
  exact ⟨v, e1, by rw [fset_ne hk]; exact q.go (fun _ _ x => rep_stp s r.al0 x) s.tups fun _ _ => rfl⟩
 ·by_cases hk : k = j
  ·subst hk; exact fset_same
  ·rw [fset_ne hk]
   refine r.emp k fun o e => h o ?_
   rw [List.getElem?_set_ne (Ne.symm hk)]; exact e
end
theorem ORL.inner {M : Addr → Prop} {H : Hp} : ∀ {vs : List V} {os : List OV} {A : List Addr} {j : Nat} {ys : List OV}, ORL M H vs os A → os[j]? = some (.l ys) →
  ∃ b us, vs[j]? = some (.ref b) ∧ H b = some (.lst us) ∧ b ∈ A ∧ us.length = ys.length ∧ ∀ (v : V) (x : PyData) (M' : Addr → Prop) (H' : Hp), A.Nodup → (∀ w d, Rep M H w d → Rep M' H' w d) → (∀ c xs, H c = some (.tup xs) → H' c = some (.tup xs)) → (∀ c ∈ A, c ≠ b → H' c = H c) → H' b = some (.lst (us ++ [v])) → Rep M' H' v x →
   ORL M' H' vs (os.set j (.l (ys ++ [.d x]))) A
 | _, _, _, _, _, .nil, e => by simp at e
 | _, _, _, 0, ys, .cons (A := A) (B := B) r t, e => by
  simp at e
  subst e
  cases r with
  | l eb q =>
   rename_i b us A
   refine ⟨b, us, rfl, eb, by simp, q.length, fun v x M' H' nd hr ht hk hb rx => ?_⟩
   have n1 := List.nodup_append.mp nd
   have nb := List.nodup_cons.mp n1.1
   refine ORL.cons (.l hb (ORL.snoc rx (q.go hr ht fun c hc => hk c (by simp [hc]) fun z => ?_))) (t.go hr ht fun c hc => hk c (List.mem_append_right _ hc) fun z => ?_)
   ·subst z; exact nb.1 hc
   ·subst z; exact n1.2.2 c List.mem_cons_self c hc rfl
 | _, _, _, j + 1, ys, .cons (A := A) (B := B) r t, e => by
  obtain ⟨b, us, h1, h2, h3, h4, h5⟩ := ORL.inner (j := j) t (by simpa using e)
  refine ⟨b, us, by simpa using h1, h2, List.mem_append_right _ h3, h4, fun v x M' H' nd hr ht hk hb rx => ?_⟩
  have n1 := List.nodup_append.mp nd
  rw [List.set_cons_succ]
  exact ORL.cons (r.go hr ht fun c hc => hk c (List.mem_append_left _ hc) fun z => by subst z; exact n1.2.2 c hc c h3 rfl) (h5 v x M' H' n1.2.1 hr ht (fun c hc => hk c (List.mem_append_right _ hc)) hb rx)
section
variable {M0 : Addr → Prop} {F F' : Fp} {Γ Γ' : Gv} {ν ν' : Nu} {H H' : Hp}
end
end L3
namespace L3
open PySem PySem.Spec PyProof.Rows L2
section
variable {X : Cx} {XP : XPT} {mp io : List Nat} {a b c e tg iter : Expr} {es : List Expr} {pos p p2 pos' p3 : Pos} {fa fb fc : EM FV} {ta tb : EM Bool} {na nb : EM (List PyData)} {fo : EM OV} {st : Stmt} {sts body els : List Stmt} {f g : SM}
end
inductive IW where
 | v (s i : Nat)
 | c (n : Int)
noncomputable def wD (Γ : Gv) : IW → Option PyData
 | .v _ i => match Γ[i]? with
  | some (some (.d x)) => some x
  | _ => none
 | .c n => some (.int n)
noncomputable def WOk (X : Cx) (mp : List Nat) (a : Expr) (w : IW) : Prop := ∀ (M0 : Addr → Prop) (F : Fp) (Γ : Gv) (ν : Nu) (σ : St) (H : Hp) (x : PyData), RS M0 F Γ ν H → Sees mp ν σ → wD Γ w = some x → ∃ v, Rep (MM M0 F) H v x ∧ ∀ Q : VK, Q v H → wpE X a σ H Q
section
variable {X : Cx} {XP : XPT} {mp io : List Nat} {a b c e tg iter : Expr} {es : List Expr} {pos p p2 pos' p3 py pc pf : Pos} {fa fb fc : EM FV} {ta tb : EM Bool} {na nb : EM (List PyData)} {fo : EM OV} {st : Stmt} {sts body els : List Stmt} {f g : SM}
theorem wok_v {s i : Nat} {x : Str} (n : NmK X mp s i x) : WOk X mp (.Name x p) (.v s i) := fun M0 F Γ ν σ H y rs hs e => by
 dsimp only [wD] at e
 split at e
 ·rename_i z q
  cases e
  obtain ⟨v, e1, r⟩ := rs.at' i _ q
  generalize F i = A at r
  cases r with
  | d r => exact ⟨v, r, fun Q hq => (pe_var n.hN n.hv n.hd n.hcd).wp ⟨v, hs s i v n.hm e1, hq⟩⟩
 ·cases e
theorem wok_c {n : Int} {j : Nat} : WOk X mp (.Constant (.int n) j p) (.c n) := fun M0 F Γ ν σ H y rs hs e => by
 cases e
 exact ⟨.int n, .int n, fun Q hq => pe_int.wp hq⟩
end
end L3
namespace L2
open PySem PySem.Spec PyProof.Rows
noncomputable def CX1 (P : Program) (w : World) : CXT := fun outer H s E e s' => ∃ (ea : Addr) (c a0 : Value) (B h0 : Heap) (H' : Hp), e = .ref ea ∧ s'.os = s.os ∧ AllBare s'.gens ∧ Heap.FlyingW B outer ea c a0 s'.heap ∧ h0.UpToSlots s'.heap ∧
 (∀ h6, B.StaysIn h6 → h0.UpToSlots h6 → Un (frs outer) [] H H' s.heap h6 ∧ HOk P w H' h6) ∧ E c none H'
section
variable {X : Cx} {pins : List (Addr × Obj)} {σ : St} {H : Hp} {s : Shared}
theorem Inv.flies (I : Inv X pins σ H s) (hx : X.ex = []) (hst : X.stack = X.env :: X.outer) (hf : X.env.frame = some X.env.locals) {h6 : Heap}
  (k1 : (PySem.W.hideAll s.heap (frs X.stack)).StaysIn h6) (k2 : s.heap.UpToSlots h6) : Un (frs X.outer) [] X.H₀ H X.s₀.heap h6 ∧ HOk X.prog X.w H h6 := by
 have nex : ∀ b, b ∉ X.ex := fun b z => by rw [hx] at z; cases z
 have kk : ∀ b o, s.heap.get? b = some o → b ∉ frs X.stack → h6.get? b = some o := fun b o e n => k1 b o (PySem.W.hideAll_get _ e n)
 have fr : ∀ b, b ∈ frs X.stack → ∀ o, s.heap.get? b = some o → ∃ sl, h6.get? b = some { o with slots := sl } := fun b hb o e => by
  obtain ⟨_, o', e', hn⟩ := I.stack.mem hb
  rw [e] at e'
  cases e'
  exact k2 b o e hn
 have hsub : ∀ b, b ∈ frs X.outer → b ∈ frs X.stack := fun b hb => by
  rw [hst]
  unfold frs at hb ⊢
  rw [List.filterMap_cons, hf]
  exact List.mem_cons_of_mem _ hb
 have hsup : ∀ b, b ∈ frs X.stack → b = X.env.locals ∨ b ∈ frs X.outer := fun b hb => by
  rw [hst] at hb
  unfold frs at hb ⊢
  rw [List.filterMap_cons, hf] at hb
  exact List.mem_cons.mp hb
 have hL : ∀ b o, X.s₀.heap.get? b = some o → b ≠ X.env.locals := fun b o e z => by
  have h1 := Heap.lt_size e
  have h2 := I.ok.above
  rw [z] at h1
  exact absurd (Nat.lt_of_lt_of_le h1 h2) (Nat.lt_irrefl _)
 refine ⟨⟨fun b o e n hb _ => ?_, fun b o e n hb _ => ?_, fun b o e n _ => I.base.free b o e n (nex b), fun b o e _ => ?_, I.base.tups, I.base.frzs, I.base.tbls⟩, fun a o e => ?_⟩
 ·refine kk b o (I.base.keep b o e n hb (nex b)) fun z => ?_
  rcases hsup b z with z | z
  ·exact hL b o e z
  ·exact hb z
 ·obtain ⟨sl, e1⟩ := I.base.slot b o e n hb (nex b)
  obtain ⟨sl2, e2⟩ := fr b (hsub b hb) _ e1
  exact ⟨sl2, e2⟩
 ·obtain ⟨o1, e1⟩ := I.base.there b o e (nex b)
  by_cases hb : b ∈ frs X.stack
  ·obtain ⟨sl, e2⟩ := fr b hb _ e1
   exact ⟨_, e2⟩
  ·exact ⟨o1, kk b o1 e1 hb⟩
 ·refine (I.hok a o e).stay (fun b u hb q => kk b u q fun z => ?_) (fun _ q => q) fun _ _ q => q
  have hn := I.stkFree b z
  rcases hb with hb | hb
  ·subst hb; rw [e] at hn; cases hn
  ·rw [hb] at hn; cases hn
theorem made_leaves (I : Inv X pins σ H s) (hx : X.ex = []) (hst : X.stack = X.env :: X.outer) (hf : X.env.frame = some X.env.locals) {h' : Heap} {ea : Addr} {c : Value} {args : List Value}
  (hm : Heap.MadeExcOf s.heap h' ea c args) {E : XK} (q : E c none H) {E' : Value → Shared → Prop} :
  wpAny (model X.prog X.w) X.A (leaving X.env (.ref ea)) (fun _ s'' => CX1 X.prog X.w X.outer X.H₀ X.s₀ E (.ref ea) s'') E' { s with heap := h' } := by
 have hfr : X.A.frames = some (X.env :: X.outer) := by rw [← hst]; exact I.ok.frames
 have hst' := I.stack
 rw [hst] at hst'
 refine wpAny_leaves_madeW (base := PySem.W.hideAll s.heap (frs X.stack)) (h := s.heap) hfr hf (fun b o e => PySem.W.of_hideAll _ e) (PySem.W.funFrames_hide hst' fun env he a ha => ?_) hm fun h'' t f1 f2 f3 f4 => ?_
 ·rw [hst]; exact List.mem_filterMap.mpr ⟨env, he, ha⟩
 ·exact ⟨ea, c, .ref t, _, s.heap, H, rfl, I.os, I.bare, f1, (Heap.UpToSlots.of_keeps hm.keeps).trans f4, fun h6 k1 k2 => I.flies hx hst hf k1 k2, q⟩
end
noncomputable abbrev bmV : List Value := [.type "ValueError", .type "Exception", .type "BaseException", .type "object"]
noncomputable def mroIn (K : PySem.W.Frag) (C : Addr) : List Value := match K.lookup C with
 | some ⟨_, _, .cls cd, _⟩ => cd.mro
 | _ => []
theorem exc_obj {K : PySem.W.Frag} {h : Heap} {C : Addr} (X : K.In h) (q : PySem.W.excIn K C bmV "ValueError.__new__" = true) :
  ∃ bm N nm qn bs hdct sn sub ab col dd k0 k1 k2 k3 k5 mN, h.get? C = some (excClassObj nm qn C N bs bm hdct sn sub ab col dd k0 k1 k2 k3 k5 "ValueError.__new__") ∧ h.Ns N mN ∧ mN "__init__" = none ∧ OwnTail h bmV bm ∧ mroIn K C = Value.ref C :: bm := by
 unfold PySem.W.excIn at q
 unfold mroIn
 split at q
 ·rename_i d0 c0 s0 e0
  rw [e0]
  dsimp only
  split at q
  ·rename_i C1 bm z0 z1 z2 z3 n1 z5 e1 e2
   rw [Bool.and_eq_true, Bool.and_eq_true, Bool.and_eq_true, Bool.and_eq_true, Bool.and_eq_true] at q
   obtain ⟨⟨⟨⟨⟨q1, q2⟩, q3⟩, q4⟩, q5⟩, q6⟩ := q
   have r1 : C1 = C := eq_of_beq q1
   have r2 : n1 = "ValueError.__new__" := eq_of_beq q2
   have r3 : c0.hasDel = false := by simpa using q3
   have r6 : PySem.W.nsIn K c0.ns "__init__" = some none := eq_of_beq q6
   subst r1 r2
   have r5 : s0 = #[z0, z1, z2, z3, some (.builtin "ValueError.__new__"), z5] := by
    cases s0 with
    | mk l => exact congrArg Array.mk e2
   cases c0 with
   | mk a1 a2 a3 a4 a5 a6 a7 a8 a9 a10 a11 =>
    dsimp only at e1 r3 q5 r6
    subst e1 r3 r5
    exact ⟨_, _, _, _, _, _, _, _, _, _, _, _, _, _, _, _, _, X _ _ e0, .of_isNs (PySem.W.isNs_of_in X q5), PySem.W.nsMap_none_of_in X q5 r6, PySem.W.tail_of_in X q4, rfl⟩
  ·cases q
 ·cases q
structure ExcK (X : Cx) (x : Str) (C : Addr) : Prop where
 gl : Gl X x
 mg : X.mg x = some (.ref C)
 ex : PySem.W.excIn X.K C bmV "ValueError.__new__" = true
 d : (x == ("__debug__" : Str)) = false
section
variable {X : Cx} {x : Str} {C : Addr} {np cpos pos cp : Pos} {z : Str} {cj : Nat} {σ : St} {H : Hp} {D : Ends}
theorem hasBaseV {h : Heap} {bm : List Value} (T : OwnTail h bmV bm) : bm.contains (.type "BaseException") = true := (T.hasType (by decide +kernel))
theorem wp_raise (k : ExcK X x C) (hcalm : X.calm = true)
  (h : ∀ pins s, Inv X pins σ H s → ∀ h' ea args, Heap.MadeExcOf s.heap h' ea (.ref C) args → X.xe (.ref ea) { s with heap := h' }) :
  wpS X (.Raise (some (.Call (.Name x np) [.Constant (.str z) cj cp] [] cpos)) none pos) D σ H := fun pins s I => by
 obtain ⟨bm, N, nm, qn, bs, hdct, sn, sub, ab, col, dd, k0, k1, k2, k3, k5, mN, hC, hN, hi, T, _⟩ := exc_obj I.mod.kin k.ex
 refine wpAny_Raise_call_subT (C := C) (nm := nm) (q := qn) (N := N) (bs := bs) (bm := bm) (hdct := hdct) (sn := sn) (sub := sub) (ab := ab) (col := col) (dd := dd) (k0 := k0) (k1 := k1) (k2 := k2) (k3 := k3) (k5 := k5) (mN := mN) PySem.F.excBase_ValueError (hasBaseV T) (I.ok.hd hcalm) rfl hi (ld_glob I k.gl k.mg ⟨rfl, ?_⟩ k.d)
 refine Calls.evalArgs_plain ?_
 have hz : wpE X (.Constant (.str z) cj cp) σ H fun v H' => v = .str z ∧ H' = H := pe_str.wp ⟨rfl, rfl⟩
 have hA : wpA X [.Constant (.str z) cj cp] σ H fun vs H' => vs = [.str z] ∧ H' = H := (pa_cons pe_self pa_nil rfl).wp (hz.mono fun v H' ⟨e1, e2⟩ => ⟨by rw [e1], e2⟩)
 refine wpAny_mono (hA cpos pins s I) (fun vs s1 hq => ?_) fun _ _ y => y
 obtain ⟨ws, H1, I1, r, e, eH⟩ := hq
 subst eH
 have hlen : vs.length = 1 := by rw [← r.length, e]; rfl
 exact ⟨rfl, by have := sizeLine_eq; show vs.length ≤ sizeLine; omega, I1.bk _ _ hC, hN.keeps I1.bk, T.keeps I1.bk, fun h' ea hm => h pins s1 I1 h' ea vs hm⟩
end
end L2
namespace L2
open PySem PySem.Spec PyProof.Rows
section
variable {X : Cx} {pins : List (Addr × Obj)} {σ : St} {H : Hp} {s : Shared} {e : Value} {E : Value → Shared → Prop} {D : Ends} {f : Flow}
end
structure HdK (X : Cx) (hd : ExceptHandler) (C : Addr) (t : Nat) (v : Str) : Prop where
 ex : ∃ x np y py cj pc pa hp, hd = .ExceptHandler (some (.Name x np)) none [.Assign [.Name y py] (.Constant (.str v) cj pc) pa] hp ∧ ExcK X x C ∧ X.N[t]? = some y ∧ Loc X.env.scope y ∧ (X.fn y = true ∨ X.env.scope.names.lookup y = some .local)
inductive HdKs (X : Cx) : List ExceptHandler → List (Addr × Nat × Str) → Prop
 | nil : HdKs X [] []
 | cons {hd : ExceptHandler} {hs : List ExceptHandler} {C : Addr} {t : Nat} {v : Str} {zs : List (Addr × Nat × Str)} : HdK X hd C t v → HdKs X hs zs → HdKs X (hd :: hs) ((C, t, v) :: zs)
section
variable {X : Cx} {pins : List (Addr × Obj)} {σ : St} {H : Hp} {s : Shared} {E : Value → Shared → Prop} {D : Ends} {B : Heap} {ea C : Addr} {a0 : Value}
end
end L2
namespace L2
open PySem PySem.Spec PyProof.Rows
section
variable {X : Cx} {pins : List (Addr × Obj)} {σ : St} {H : Hp} {s s' : Shared} {D : Ends} {e : Value}
end
section
variable {P : Program} {w : World} {K : PySem.W.Frag} {mg : Str → Option Value} {base : Heap} {x : Str} {st : Stmt} {N ps : List Str} {k : Nat}
theorem Df.knX {sp : Sp} (D : Df K mg x st ps) (S : FnScope N ps (defScope st)) (len : ∀ vs H Q E, sp vs H Q E → vs.length = ps.length)
  (hbody : ∀ (f : Addr) (cdv : Value) (A : Around) (outer : List Env) (s : Shared) (H : Hp) (vs : List V) (Q : VK) (E : XK), Room k (A.deeper (envOfC x (defScope st) s.heap.objs.size f cdv)) → sp vs H Q E →
   wpB (cxOf (CX1 P w) P w K mg base N x (defScope st) f cdv A outer s H E) (defBody st) { nx := fun _ H' => Q .non H', rt := Q } (start N vs) H) : Kn P w K mg base (CX1 P w) x (k + 1) sp := by
 obtain ⟨f, fd, F, hm, hb⟩ := D.ex
 obtain ⟨oc, od, kV, doc, pm, an, cdv, ct, osl, rfl, lk, hcd⟩ := F.ex
 exact ⟨f, _, ps, fn_of lk hcd S len fun A outer s H vs Q E hr hsp => ⟨_, pss_self, hbody f cdv A outer s H vs Q E hr hsp⟩, hm, F.kp, hb⟩
end
end L2
namespace L3
open PySem PySem.Spec PyProof.Rows L2
noncomputable def spX (mg : Str → Option Value) (n : Nat) (run : List OV → RF) : Sp := fun vs H Q E => vs.length = n ∧ ∃ (M0 : Addr → Prop) (F : Fp) (args : List OV), RS M0 F (args.map some) (vs.map some) H ∧ match run args with
 | .ok r outs => ∀ F' v H', RS M0 F' (outs ++ [some r]) (vs.map some ++ [some v]) H' → Stp F H F' H' → Q v H'
 | .exc x _ => ∀ C, mg x.cls = some (.ref C) → ∀ F' H', Stp F H F' H' → E (.ref C) none H'
 | .bad => False
noncomputable def sRaise (x : Str) : SM := fun Γ => .exc ⟨x, .none⟩ Γ
noncomputable def RzOk (X : Cx) (XP : XPT) : Prop := ∀ (x : Exc) (Γ : Gv) (F : Fp) (ν : Nu) (σ : St) (H : Hp), XP x Γ F ν σ H → ∀ C, X.mg x.cls = some (.ref C) → ∀ pins s, Inv X pins σ H s → ∀ h' ea args, Heap.MadeExcOf s.heap h' ea (.ref C) args → X.xe (.ref ea) { s with heap := h' }
section
variable {X : Cx} {XP : XPT} {mp io : List Nat} {x : Str} {C : Addr} {np cpos pos cp : Pos} {z : Str} {cj : Nat}
theorem ss_raise (k : ExcK X x C) (hcalm : X.calm = true) (rz : RzOk X XP) : SS X XP mp io (.Raise (some (.Call (.Name x np) [.Constant (.str z) cj cp] [] cpos)) none pos) (sRaise x) := fun M0 F Γ ν σ H D rs hs hl hp =>
 wp_raise k hcalm fun pins s I h' ea args hm => rz ⟨x, .none⟩ Γ F ν σ H (hp F ν σ H rs (.refl _ _) hs hl fun _ _ => rfl) C k.mg pins s I h' ea args hm
end
structure HdN (X : Cx) (L : Str → Addr → Prop) (mp : List Nat) (hd : ExceptHandler) (x : Str) (C : Addr) (t j : Nat) (v : Str) : Prop where
 k : HdK X hd C t v
 e : ExcK X x C
 l : L x C
 m : mp[t]? = some j
inductive HdNs (X : Cx) (L : Str → Addr → Prop) (mp : List Nat) : List ExceptHandler → List (Str × Nat × Nat × Str) → List (Addr × Nat × Str) → Prop
 | nil : HdNs X L mp [] [] []
 | cons {hd : ExceptHandler} {hs : List ExceptHandler} {x : Str} {C : Addr} {t j : Nat} {v : Str} {ns : List (Str × Nat × Nat × Str)} {zs : List (Addr × Nat × Str)} : HdN X L mp hd x C t j v → HdNs X L mp hs ns zs → HdNs X L mp (hd :: hs) ((x, t, j, v) :: ns) ((C, t, v) :: zs)
theorem HdNs.ks {X : Cx} {L : Str → Addr → Prop} {mp : List Nat} : ∀ {hs : List ExceptHandler} {ns : List (Str × Nat × Nat × Str)} {zs : List (Addr × Nat × Str)}, HdNs X L mp hs ns zs → HdKs X hs zs
 | _, _, _, .nil => .nil
 | _, _, _, .cons h t => .cons h.k t.ks
section
variable {X : Cx} {XP : XPT} {mp io : List Nat} {L : Str → Addr → Prop} {hs : List ExceptHandler} {ns : List (Str × Nat × Nat × Str)} {zs : List (Addr × Nat × Str)} {a : Expr} {es : List Expr} {fl : EM (List AV)}
end
end L3
namespace Tab
open PySem PySem.Spec PyProof.Rows
section
variable {prog : Program} {w : World} {A : Around} {E : Value → Shared → Prop} {s : Shared}
end
end Tab
namespace L2
open PySem PySem.Spec PyProof.Rows
section
variable {X : Cx}
end
end L2
namespace L3
open PySem PySem.Spec PyProof.Rows L2
section
variable {X : Cx} {XP : XPT} {mp : List Nat} {a b : Expr} {p1 p2 q1 q2 : Pos} {fa fb : EM FV}
theorem vals_ints {M : Addr → Prop} {H : Hp} : ∀ {vs : List V} {ds : List PyData} {ns : List Int}, RepL M H vs ds → intsOf ds = some ns → vs = ns.map V.int
 | _, _, _, .nil, e => by cases e; rfl
 | _, _, _, .cons (ds := ds) (d := d) r t, e => by
  cases d with
  | int i =>
   unfold intsOf at e
   cases q : intsOf ds with
   | none => rw [q] at e; cases e
   | some ms =>
    rw [q] at e
    cases e
    cases r
    rw [List.map_cons, vals_ints t q]
  | _ => cases e
end
end L3
namespace L2
open PySem PySem.Spec PyProof.Rows
section
variable {prog : Program} {w : World} {A : Around} {E : Value → Shared → Prop} {s : Shared}
theorem star_two {l : Addr} {x : Value} {xs : List Value} {Q : List Value → Shared → Prop} (hl : s.heap.IsList l (x :: xs).toArray) (hh : A.handled = none) (hz : (x :: xs).length ≤ sizeLine)
  (k : ∀ (h2 : Heap) (tk : Nat), (∀ b o, s.heap.get? b = some o → h2.get? b = some o) → Q [x, .ref h2.objs.size] { s with heap := h2.push { cls := .type "list", data := .seq xs.toArray }, toks := tk }) :
  wpAny (model prog w) A (unpackItems (.ref l) 2 (some 1)) Q E s := by
 obtain ⟨ol, hol, hcl, hdl⟩ := id hl
 have hlt := Heap.lt_size hol
 have hne : l ≠ s.heap.objs.size := Nat.ne_of_lt hlt
 unfold unpackItems notIterableAtAll
 refine wpAny_bind (wpAny_bind (wpAny_specialOf hl.typeIs PySem.F.slot_list_iter.lookup (wpAny_pure ?_)))
 simp only [Bool.false_eq_true, if_false]
 refine wpAny_bind (wpAny_holding (wpAny_pyIter_list hl ?_))
 refine wpAny_bind (wpAny_holding (PySem.W.kun_draw hne 1 0 _ _ ⟨_, Heap.get?_push_size _ rfl, rfl, rfl⟩ (hl.push _) (by simp) fun h1 it1 sb1 => ?_))
 have hl1 : h1.IsList l (x :: xs).toArray := (hl.push _).extBut sb1.extBut hne
 obtain ⟨oi, hoi, _⟩ := id it1
 obtain ⟨o1, ho1, _⟩ := id hl1
 have hfst : (((x :: xs).toArray.toList.drop 0).take 1) = [x] := rfl
 rw [hfst]
 rw [if_neg (show ¬ ([x].length < 1) by simp)]
 refine wpAny_bind (wpAny_holding (PySem.W.kun_collect (s := { s with heap := h1 }) (T := "list_iterator") (.inr (.inr (.inl rfl))) (Walks.list (A := A.in1) hh s.heap.objs.size l hne (x :: xs).toArray) (fun j u st => st.1.typeIs) (k := 1) (by simp) ⟨it1, hl1⟩ (Heap.lt_size hoi) (Heap.lt_size ho1) (fun h2 tk hk => ?_) (by simpa using hz)))
 have hdr : (x :: xs).toArray.toList.drop 1 = xs := rfl
 rw [hdr]
 show wpAny _ _ (if xs.length < 2 - 1 - 1 then _ else _) _ _ _
 rw [if_neg (by omega)]
 have keep : ∀ b o, s.heap.get? b = some o → h2.get? b = some o := fun b o e => by
  have hb : b ≠ s.heap.objs.size := Nat.ne_of_lt (Heap.lt_size e)
  exact hk b o hb (sb1.extBut b o hb (Heap.get?_push_of_some _ e))
 show wpAny _ _ (newList (xs.take (xs.length - (2 - 1 - 1))) >>= fun d => pure ([x] ++ [d] ++ xs.drop (xs.length - (2 - 1 - 1)))) _ _ _
 have h0 : xs.length - (2 - 1 - 1) = xs.length := by omega
 rw [h0, List.take_length, List.drop_length]
 refine wpAny_bind (wpAny_newList (s := { s with heap := h2, toks := tk }) (wpAny_pure ?_) (by simp at hz; omega))
 exact k h2 tk keep
end
section
variable {M : Model} {A : Around} {E : Value → Shared → Prop} {s : Shared}
end
section
variable {X : Cx}
noncomputable def gStar (K : PySem.W.Frag) (i j : Nat) : TG := fun v σ H Q => ∃ l y ys, v = .ref l ∧ SqL K H l (y :: ys) ∧ ∀ p, H p = none → Q ((σ.set i (some y)).set j (some (.ref p))) (upd H p (.lst ys))
theorem pg_star {i j : Nat} {x y : Str} {k : Nat} {px py ps pos : Pos} (hc : X.calm = true) (hN : X.N.Nodup) (hi : X.N[i]? = some x) (hx : Loc X.env.scope x) (hfx : X.fn x = true ∨ X.env.scope.names.lookup x = some .local) (hj : X.N[j]? = some y) (hy : Loc X.env.scope y) (hfy : X.fn y = true ∨ X.env.scope.names.lookup y = some .local) :
  PG X (.Tuple [.Name x px, .Starred (.Name y py) ps] k pos) (gStar X.K i j) := by
 intro pins s σ H v u Q I r h
 obtain ⟨l, z, zs, rfl, hq, q⟩ := h
 cases r
 obtain ⟨its, rv, pl, hz⟩ := I.list hq
 cases rv with
 | cons r1 r2 =>
  rename_i w ws
  rw [assign_Tuple]
  refine wpAny_bind (wpAny_standAt ?_)
  unfold unpack
  refine wpAny_bind (wpAny_holding (star_two (x := w) (xs := ws) pl.isList (I.ok.hd hc) (by have := r2.length; simp at hz ⊢; omega) fun h2 tk keep => ?_))
  have I2 : Inv X pins σ H { s with heap := h2, toks := tk } := I.kept (t' := tk) keep
  have I3 := I2.lnew (t' := tk) r2 (by simp at hz; omega)
  refine assignInOrder_cons (wpAny_assign_Name (store_ok I3 hN hi hx r1 (fun s4 I4 => ?_) hfx))
  refine assignInOrder_cons (wpAny_assign_Name (store_ok (v := .ref h2.objs.size) I4 hN hj hy rfl (fun s5 I5 => ?_) hfy))
  exact assignInOrder_nil ⟨_, _, I5, q _ I2.fresh⟩
end
end L2
namespace L2
open PySem PySem.Spec PyProof.Rows
section
variable {X : Cx}
end
end L2
namespace L3
open PySem PySem.Spec PyProof.Rows L2
section
variable {X : Cx} {XP : XPT} {mp io : List Nat} {a e : Expr} {p p1 p2 q1 q2 pos px py ps : Pos} {fa : EM FV}
theorem Sees.again {ν : Nu} {σ : St} {s i : Nat} {v : V} (h : Sees mp ν σ) (hm : mp[s]? = some i) (hv : ν[i]? = some (some v)) (hs : s < σ.length) : Sees mp ν (σ.set s (some v)) := fun s' j w e1 e2 => by
 by_cases hj : s = s'
 ·subst hj
  rw [hm] at e1
  cases e1
  rw [hv] at e2
  cases e2
  rw [List.getElem?_set_self hs]
 ·rw [List.getElem?_set_ne hj]; exact h s' j w e1 e2
noncomputable def sStar (io : List Nat) (i j : Nat) (fa : EM FV) : SM := fun Γ => (fa Γ).bind fun (u, Γ1) => match derS Γ1 u with
 | some (.list (d :: ds)) => if i < Γ1.length ∧ j < Γ1.length ∧ i ∉ io ∧ j ∉ io then .ok (.next, (Γ1.set i (some (.d d))).set j (some (.d (.list ds)))) else .bad
 | _ => .bad
theorem ss_star {s i t j : Nat} {x y : Str} {k : Nat} (hc : X.calm = true) (hN : X.N.Nodup) (hn : mp.Nodup) (hi : X.N[s]? = some x) (hx : Loc X.env.scope x) (hfx : X.fn x = true ∨ X.env.scope.names.lookup x = some .local) (hm : mp[s]? = some i) (hj : X.N[t]? = some y) (hy : Loc X.env.scope y) (hfy : X.fn y = true ∨ X.env.scope.names.lookup y = some .local) (hmt : mp[t]? = some j)
  (ha : SE X XP mp a fa) (hsw : swapsWithSole [.Tuple [.Name x px, .Starred (.Name y py) ps] k p] a pos.line X.env = pure false) (hw : swappedStores [.Tuple [.Name x px, .Starred (.Name y py) ps] k p] a X.env = pure none) :
  SS X XP mp io (.Assign [.Tuple [.Name x px, .Starred (.Name y py) ps] k p] a pos) (sStar io i j fa) := fun M0 F Γ ν σ H D rs hs hl hp => by
 have hsl : s < X.N.length := (List.getElem?_eq_some_iff.mp hi).1
 have htl : t < X.N.length := (List.getElem?_eq_some_iff.mp hj).1
 refine (ps_asg pe_self (pg_star hc hN hi hx hfx hj hy hfy) hsw hw).wp (ha M0 F Γ ν σ H _ rs hs ((SPost.seq hs hl hp).mono fun F1 Γ1 H1 u rs1 s1 h1 v hv => ?_))
 unfold sStar at hp
 dsimp only at h1
 split at h1
 ·rename_i d ds ed
  split at h1
  ·rename_i hh
   obtain ⟨k1, k2, k3, k4⟩ := hh
   obtain ⟨l, zs, rfl, el, _, r⟩ := (hv.strong rs1 ed).lst_inv
   cases r with
   | cons r1 r2 =>
    rename_i w ws
    refine ⟨l, w, ws, rfl, SqL.of el, fun q hq => ?_⟩
    have sm : Same H1 (upd H1 q (.lst ws)) := upd_new hq
    obtain ⟨F2, rs2, s2⟩ := (rs1.same sm).setD (i := i) (r1.grow sm.grow) k1
    have hnm : ¬ MM M0 F1 q := fun z => rs1.al q z hq
    have rl : Rep (MM M0 F1) (upd H1 q (.lst ws)) (.ref q) (.list ds) := Rep.list upd_same hnm (r2.grow sm.grow)
    obtain ⟨F3, rs3, s3⟩ := rs2.setD (i := j) (rep_stp s2 (rs1.same sm).al0 rl) (by simpa using k2)
    refine h1 F3 _ _ _ rs3 (((Stp.same sm).trans s2).trans s3) ((hs.set hn hm (by rw [hl]; exact hsl)).set hn hmt (by rw [List.length_set, hl]; exact htl)) (by simpa using hl) fun z hz => ?_
    rw [List.getElem?_set_ne (fun e => k4 (by rw [e]; exact hz)), List.getElem?_set_ne (fun e => k3 (by rw [e]; exact hz))]
  ·exact h1.elim
 ·exact h1.elim
end
end L3
namespace L2
open PySem PySem.Spec PyProof.Rows
section
variable {X : Cx}
theorem op_sadd : OpR X (binaryOp .Add) (fun x y H Q => ∃ a b, x = .str a ∧ y = .str b ∧ a.length + b.length ≤ sizeLine ∧ Q (.str (a ++ b)) H) := by
 intro pins s σ H x y v u Q I rx ry h
 obtain ⟨a, b, rfl, rfl, hz, q⟩ := h
 obtain ⟨t, rfl⟩ := rx
 obtain ⟨t2, rfl⟩ := ry
 exact PyProof.Rows.add_str (fun t' tk => ⟨.str (a ++ b), H, I.tok tk, ⟨t', rfl⟩, q⟩) hz
theorem op_sin : OpR X (compareOp .In) (fun x y H Q => ∃ a b, x = .str a ∧ y = .str b ∧ Q (.bl (Txt.contains b a)) H) := by
 intro pins s σ H x y v u Q I rx ry h
 obtain ⟨a, b, rfl, rfl, q⟩ := h
 obtain ⟨t, rfl⟩ := rx
 obtain ⟨t2, rfl⟩ := ry
 exact SB.contains ⟨.bl _, H, I, rfl, q⟩
theorem call_len_txt : CallR X (.builtin "len") (fun xs H Q => ∃ a, xs = [.str a] ∧ a.length ≤ sizeLine ∧ Q (.int a.length) H) := by
 intro pins s σ H xs us Q I r h
 obtain ⟨a, rfl, hz, q⟩ := h
 obtain ⟨u, rfl, t, rfl⟩ := vals1 r
 have := sizeLine_eq
 exact PyProof.Rows.len_str (by omega) ⟨.int a.length, H, I.tok _, ⟨_, rfl⟩, q⟩
theorem call_str1 : CallR X (.type "str") (fun xs H Q => (∃ a, xs = [.str a] ∧ Q (.str a) H) ∨ ∃ i : Int, xs = [.int i] ∧ i.natAbs.log2 < 1920 ∧ Q (.str (toString i)) H) := by
 intro pins s σ H xs us Q I r h
 rcases h with ⟨a, rfl, q⟩ | ⟨i, rfl, hi, q⟩
 ·obtain ⟨u, rfl, t, rfl⟩ := vals1 r
  exact PySem.P.str_of_str ⟨.str a, H, I, ⟨_, rfl⟩, q⟩
 ·obtain ⟨u, rfl, t, rfl⟩ := vals1 r
  exact PySem.P.str_of_int hi ⟨.str (toString i), H, I.tok _, ⟨_, rfl⟩, q⟩
theorem strs_are : ∀ {xs : List V} {us : List Value} {ys : List Str}, Vals xs us → xs = ys.map .str → StrsAre us ys
 | _, _, [], .nil, _ => .nil
 | _, _, _ :: _, .nil, e => by cases e
 | _, _, [], .cons _ _, e => by cases e
 | _, _, y :: ys, .cons r t, e => by
  rw [List.map_cons, List.cons.injEq] at e
  obtain ⟨e1, e2⟩ := e
  subst e1
  obtain ⟨tk, rfl⟩ := r
  exact .cons y tk (strs_are t e2)
theorem mt_join : MtR X "str.join" (fun x xs H Q => ∃ (a : Str) (p : Addr) (ys : List Str), x = .str a ∧ xs = [.ref p] ∧ (SqL X.K H p (ys.map .str) ∨ SqT X.K H p (ys.map .str)) ∧ a.length ≤ 16 ∧ (ys.map (·.length)).sum + ys.length ≤ 1048576 ∧ Q (.str (Txt.join a ys)) H) := by
 intro pins s σ H x xs v us Q I rx r h
 obtain ⟨a, p, ys, rfl, rfl, hq, h16, hw, q⟩ := h
 obtain ⟨t, rfl⟩ := rx
 obtain ⟨u, rfl, ru⟩ := vals1 r
 cases ru
 rcases hq with hq | hq
 ·obtain ⟨its, r2, pl, hz⟩ := I.list hq
  exact join_listW pl.isList (by simpa using strs_are r2 rfl) h16 hw fun t' k => ⟨.str _, H, I.tok k, ⟨t', rfl⟩, q⟩
 ·obtain ⟨its, r2, pl, hz⟩ := I.tuple hq
  exact join_tupleW pl (by simpa using strs_are r2 rfl) h16 hw fun t' k => ⟨.str _, H, I.tok k, ⟨t', rfl⟩, q⟩
end
end L2
namespace L3
open PySem PySem.Spec PyProof.Rows L2
section
variable {X : Cx} {XP : XPT} {mp : List Nat} {a b c e : Expr} {es : List Expr} {pos p p2 : Pos} {fa fb fc : EM FV}
noncomputable def gSadd : PyData → PyData → Option PyData
 | .str x, .str y => if x.length + y.length ≤ 1000000 then some (.str (x ++ y)) else none
 | _, _ => none
theorem sadd_ok : OpS X (binaryOp .Add) gSadd := fun x y z e => by
 unfold gSadd at e
 split at e
 ·split at e
  ·rename_i h
   cases e
   exact ⟨_, op_sadd, fun M H v u Q _ r1 r2 k => by
    cases r1; cases r2
    exact ⟨_, _, rfl, rfl, sz6 h, k _ H (Same.refl H) (.str _)⟩⟩
  ·cases e
 ·cases e
noncomputable def gSin : PyData → PyData → Option Bool
 | .str x, .str y => some (Txt.contains y x)
 | _, _ => none
theorem sin_ok : CmpS X .In gSin := fun x y z e => by
 unfold gSin at e
 split at e
 ·cases e
  exact ⟨_, op_sin, fun H v u Q r1 r2 k => by
   cases r1; cases r2
   exact ⟨_, _, rfl, rfl, k⟩⟩
 ·cases e
noncomputable def gSlen : PyData → Option PyData
 | .str x => if x.length ≤ 1000000 then some (.int x.length) else none
 | _ => none
theorem cs_slen : CallS X (.builtin "len") gSlen := fun x z e => by
 unfold gSlen at e
 split at e
 ·split at e
  ·rename_i h
   cases e
   exact ⟨rfl, _, call_len_txt, fun H v Q r k => by cases r; exact ⟨_, rfl, sz6 h, k _ (.int _)⟩⟩
  ·cases e
 ·cases e
noncomputable def gStr : PyData → Option PyData
 | .str x => some (.str x)
 | .int i => if i.natAbs.log2 < 1920 then some (.str (toString i)) else none
 | _ => none
theorem cs_str : CallS X (.type "str") gStr := fun x z e => by
 unfold gStr at e
 split at e
 ·cases e
  exact ⟨rfl, _, call_str1, fun H v Q r k => by cases r; exact .inl ⟨_, rfl, k _ (.str _)⟩⟩
 ·split at e
  ·rename_i h
   cases e
   exact ⟨rfl, _, call_str1, fun H v Q r k => by cases r; exact .inr ⟨_, rfl, h, k _ (.str _)⟩⟩
  ·cases e
 ·cases e
noncomputable def fSix (fa fb : EM FV) : EM FV := fun Γ => (fa Γ).bind fun (u, Γ1) => (fb Γ1).bind fun (w, Γ2) => match derf Γ2 u, derf Γ2 w with
 | some (.str x), some (.int i) => if x.length ≤ 1000000 then match atI x.cps.toList i with
  | some c => .ok (.dat (.str ⟨#[c]⟩), Γ2)
  | none => .bad
  else .bad
 | _, _ => .bad
theorem se_six (ha : SE X XP mp a fa) (hb : SE X XP mp b fb) (hx : PlainIx b) : SE X XP mp (.Subscript a b pos) (fSix fa fb) := fun M0 F Γ ν σ H Q rs hs hp =>
 (pe_ix ix_str pe_self pe_self hx).wp (ha.run rs hs hp fun F1 Γ1 H1 u v rs1 s1 o1 h1 => hb.run rs1 hs h1 fun F2 Γ2 H2 w v2 rs2 s2 o2 h2 => by
  dsimp only at h2
  split at h2
  ·rename_i x i e1 e2
   split at h2
   ·rename_i hz
    split at h2
    ·rename_i cc ec
     have r1 := (o1.stp s2 rs1.al0).weak rs2 e1
     have r2 := o2.weak rs2 e2
     cases r1; cases r2
     exact ⟨_, _, cc, rfl, rfl, sz6 hz, ec, h2 F2 H2 rs2 (.refl _ _) _ (Rep.str _)⟩
    ·exact h2.elim
   ·exact h2.elim
  ·exact h2.elim)
noncomputable def strsOf : List PyData → Option (List Str)
 | [] => some []
 | .str x :: r => (strsOf r).map (x :: ·)
 | _ => none
theorem strsOf_map (xs : List Str) : strsOf (xs.map .str) = some xs := by
 induction xs with
 | nil => rfl
 | cons b r ih => simp [strsOf, ih]
theorem strsOf_eq : ∀ {ds : List PyData} {xs : List Str}, strsOf ds = some xs → ds = xs.map .str
 | [], xs, e => by cases e; rfl
 | .str b :: r, xs, e => by
  unfold strsOf at e
  cases q : strsOf r with
  | none => rw [q] at e; cases e
  | some l => rw [q] at e; cases e; rw [strsOf_eq q]; rfl
 | .none :: r, xs, e => by cases e
 | .bool _ :: r, xs, e => by cases e
 | .int _ :: r, xs, e => by cases e
 | .list _ :: r, xs, e => by cases e
 | .tuple _ :: r, xs, e => by cases e
 | .dict _ :: r, xs, e => by cases e
theorem repL_strs {M : Addr → Prop} {H : Hp} : ∀ {vs : List V} {xs : List Str}, RepL M H vs (xs.map .str) → vs = xs.map .str
 | _, [], .nil => rfl
 | _, x :: xs, .cons r t => by
  cases r
  rw [repL_strs t]; rfl
noncomputable def gJoin (z : Str) (x : PyData) : Option PyData := match (match x with | .list ds => strsOf ds | .tuple ds => strsOf ds | _ => none) with
 | some ys => if (ys.map (·.length)).sum + ys.length ≤ 1000000 ∧ z.length ≤ 16 then some (.str (Txt.join z ys)) else none
 | none => none
theorem se_join {z : Str} {j : Nat} {p1 : Pos} {name : Str} (en : name = "join") (ha : SE X XP mp a fa) (hst : starEach [a] X.env = [(false, eval a X.env)]) (hl : (p2.endLine == pos.line) = true) :
  SE X XP mp (.Call (.Attribute (.Constant (.str z) j p1) name p2) [a] [] pos) (f1 (gJoin z) fa) := fun M0 F Γ ν σ H Q rs hs hp => by
 subst en
 have hfew : ((backTo pos (starEach [a] X.env)).all (fun x => !x.1) && (backToKw pos (keywordEach [] X.env)).all (fun x => x.1.isSome) && decide ([a].length + ([] : List Keyword).length + (if ([] : List Keyword).isEmpty then 0 else 1) < 30)) = true := by rw [hst]; rfl
 refine (pe_bm PySem.F.plainAttrs_str PySem.F.slot_str_join PySem.F.type_str_join mt_join pe_str (pa_cons pe_self pa_nil hst) rfl hfew hl hst rfl).wp ⟨rfl, ?_⟩
 refine ha.run rs hs hp fun F1 Γ1 H1 u v rs1 s1 o1 h1 => ?_
 dsimp only at h1
 split at h1
 ·rename_i y ey
  cases ex : derf Γ1 u with
  | none => rw [ex] at ey; cases ey
  | some x =>
   rw [ex] at ey
   have ey : gJoin z x = some y := ey
   unfold gJoin at ey
   split at ey
   ·rename_i ys es
    split at ey
    ·rename_i hh
     cases ey
     have r := o1.weak rs1 ex
     cases x with
     | list ds =>
      obtain ⟨l, vs, rfl, el, _, rl⟩ := r.lst_inv
      rw [strsOf_eq es] at rl
      have := repL_strs rl
      subst this
      exact ⟨z, l, ys, rfl, rfl, .inl (SqL.of el), hh.2, by omega, h1 F1 H1 rs1 (.refl _ _) _ (Rep.str _)⟩
     | tuple ds =>
      obtain ⟨l, vs, rfl, el, rl⟩ := r.tup_inv
      rw [strsOf_eq es] at rl
      have := repL_strs rl
      subst this
      exact ⟨z, l, ys, rfl, rfl, .inr (SqT.of el), hh.2, by omega, h1 F1 H1 rs1 (.refl _ _) _ (Rep.str _)⟩
     | _ => cases es
    ·cases ey
   ·cases ey
 ·exact h1.elim
noncomputable def gFmt : PyData → Option Str
 | .str x => if x.length ≤ 10000 then some x else none
 | .int i => if i.natAbs.log2 < 1920 ∧ (Str.ofString (toString i)).length ≤ 10000 then some (toString i) else none
 | _ => none
noncomputable def catS : List Str → Str
 | [] => Str.empty
 | x :: r => x ++ catS r
theorem sapp_assoc (x y z : Str) : x ++ y ++ z = x ++ (y ++ z) := by
 show Str.append (Str.append x y) z = Str.append x (Str.append y z)
 simp [Str.append, Array.append_assoc]
theorem sapp_empty (x : Str) : x ++ Str.empty = x := by
 show Str.append x Str.empty = x
 cases x; simp [Str.append, Str.empty]
theorem sempty_app (x : Str) : Str.empty ++ x = x := by
 show Str.append Str.empty x = x
 cases x; simp [Str.append, Str.empty]
theorem slen_app (x y : Str) : (x ++ y).length = x.length + y.length := by
 show (Str.append x y).length = _
 simp [Str.append, Str.length]
noncomputable def fPart0 : EM (List Str) := fun Γ => .ok ([], Γ)
noncomputable def fPart (fa : EM FV) (fl : EM (List Str)) : EM (List Str) := fun Γ => (fa Γ).bind fun (u, Γ1) => match (derf Γ1 u).bind gFmt with
 | some y => (fl Γ1).bind fun (ys, Γ2) => .ok (y :: ys, Γ2)
 | none => .bad
noncomputable def fFstr (fl : EM (List Str)) : EM FV := fun Γ => (fl Γ).bind fun (ys, Γ1) => .ok (.dat (.str (catS ys)), Γ1)
noncomputable def SJ (X : Cx) (XP : XPT) (mp : List Nat) (es : List Expr) (f : EM (List Str)) : Prop := ∀ (M0 : Addr → Prop) (F : Fp) (Γ : Gv) (ν : Nu) (σ : St) (H : Hp) (acc : Str) (Q : Str → Hp → Prop), RS M0 F Γ ν H → Sees mp ν σ → acc.length + 10000 * es.length ≤ 10000000 →
 EPost M0 F ν σ H XP (fun F' Γ' H' ys => Q (acc ++ catS ys) H') (f Γ) → ∀ pins s, Inv X pins σ H s → Joins (model X.prog X.w) X.A X.xe (evalEach es X.env) acc (fun out s1 => out.length ≤ sizeLine ∧ ∃ H', Inv X pins σ H' s1 ∧ Q out H') s
theorem sj_nil : SJ X XP mp [] fPart0 := fun M0 F Γ ν σ H acc Q rs hs hz hp pins s I => by
 have := hp F H rs (.refl _ _)
 unfold catS at this
 rw [sapp_empty] at this
 exact ⟨by have := sizeLine_eq; omega, H, I, this⟩
theorem gFmt_le {x : PyData} {y : Str} (e : gFmt x = some y) : y.length ≤ 10000 := by
 unfold gFmt at e
 split at e
 ·split at e
  ·rename_i h; cases e; exact h
  ·cases e
 ·split at e
  ·rename_i h; cases e; exact h.2
  ·cases e
 ·cases e
theorem sj_con {fl : EM (List Str)} {z : Str} {j : Nat} (hz : z.length ≤ 10000) (hl : SJ X XP mp es fl) : SJ X XP mp (.Constant (.str z) j p :: es) (fPart (fC (.str z)) fl) := fun M0 F Γ ν σ H acc Q rs hs hb hp pins s I => by
 rw [List.length_cons] at hb
 have hb1 := sizeLine_eq
 have hg : gFmt (.str z) = some z := by simp [gFmt, hz]
 have hp' : EPost M0 F ν σ H XP (fun F' Γ' H' ys => Q (acc ++ catS ys) H') ((fl Γ).bind fun (ys, Γ2) => .ok (z :: ys, Γ2)) := by
  have e : fPart (fC (.str z)) fl Γ = ((fl Γ).bind fun (ys, Γ2) => .ok (z :: ys, Γ2)) := by
   unfold fPart fC
   show (match (some (PyData.str z)).bind gFmt with | some y => (fl Γ).bind fun (ys, Γ2) => R.ok (y :: ys, Γ2) | none => .bad) = _
   have : (some (PyData.str z)).bind gFmt = some z := hg
   rw [this]
  rw [← e]; exact hp
 show wpAny _ _ (eval (.Constant (.str z) j p) X.env) _ _ s
 refine thn (pe_str (X := X) (j := j) (pos := p) pins s σ H (fun v H' => v = .str z ∧ H' = H) I ⟨rfl, rfl⟩) fun v s1 ⟨x, H1, I1, r1, e1, e2⟩ => ?_
 subst e1 e2
 obtain ⟨t, rfl⟩ := r1
 refine ⟨z, t, rfl, by rw [slen_app]; omega, ?_⟩
 refine hl M0 F Γ ν σ H1 (acc ++ z) Q rs hs (by rw [slen_app]; omega) ?_ pins s1 I1
 cases q : fl Γ with
 | ok w =>
  obtain ⟨ys, Γ2⟩ := w
  rw [q] at hp'
  exact fun F' H' rs' s' => by have := hp' F' H' rs' s'; show Q (acc ++ z ++ catS ys) H'; rw [sapp_assoc]; exact this
 | exc x y => rw [q] at hp'; exact hp'
 | bad => rw [q] at hp'; exact hp'
theorem sj_val {fl : EM (List Str)} (ha : SE X XP mp a fa) (hl : SJ X XP mp es fl) : SJ X XP mp (.FormattedValue a (-1) none p :: es) (fPart fa fl) := fun M0 F Γ ν σ H acc Q rs hs hb hp pins s I => by
 rw [List.length_cons] at hb
 have hb1 := sizeLine_eq
 show wpAny _ _ (eval (.FormattedValue a (-1) none p) X.env) _ _ s
 refine wpAny_FormattedValue_plain ?_
 have key : wpE X a σ H fun v H1 => ∃ F1 Γ1 x y, RS M0 F1 Γ1 ν H1 ∧ Stp F H F1 H1 ∧ Rep Nothing H1 v x ∧ gFmt x = some y ∧ EPost M0 F1 ν σ H1 XP (fun F' Γ' H' ys => Q (acc ++ catS ys) H') ((fl Γ1).bind fun (ys, Γ2) => .ok (y :: ys, Γ2)) := by
  refine ha.run rs hs hp fun F1 Γ1 H1 u v rs1 s1 o1 h1 => ?_
  dsimp only at h1
  split at h1
  ·rename_i y ey
   cases ex : derf Γ1 u with
   | none => rw [ex] at ey; cases ey
   | some x =>
    rw [ex] at ey
    exact ⟨F1, Γ1, x, y, rs1, s1, o1.weak rs1 ex, ey, h1⟩
  ·exact h1.elim
 refine thn (key pins s I) fun r s1 ⟨v, H1, I1, r1, F1, Γ1, x, y, rs1, s1', rx, ey, h1⟩ => ?_
 have go : ∀ t (k : Nat), ∃ y0 t0, (Value.str y t : Value) = .str y0 t0 ∧ (acc ++ y0).length ≤ sizeLine ∧ Joins (model X.prog X.w) X.A X.xe (evalEach es X.env) (acc ++ y0) (fun out s2 => out.length ≤ sizeLine ∧ ∃ H', Inv X pins σ H' s2 ∧ Q out H') { s1 with toks := k } := fun t k => by
  have hy := gFmt_le ey
  refine ⟨y, t, rfl, by rw [slen_app]; omega, ?_⟩
  refine hl M0 F1 Γ1 ν σ H1 (acc ++ y) Q rs1 hs (by rw [slen_app]; omega) ?_ pins _ (I1.tok k)
  cases q : fl Γ1 with
  | ok w =>
   obtain ⟨ys, Γ2⟩ := w
   rw [q] at h1
   exact fun F' H' rs' s' => by have := h1 F' H' rs' s'; show Q (acc ++ y ++ catS ys) H'; rw [sapp_assoc]; exact this
  | exc x y => rw [q] at h1; exact h1
  | bad => rw [q] at h1; exact h1
 cases rx with
 | str z =>
  obtain ⟨t, rfl⟩ := r1
  have hy := gFmt_le ey
  have ez : y = z := by
   simp only [gFmt] at ey
   split at ey
   ·cases ey; rfl
   ·cases ey
  subst ez
  exact wpAny_formatField_str (go t s1.toks) (go _ _) (by omega)
 | int i =>
  obtain ⟨t, rfl⟩ := r1
  simp only [gFmt] at ey
  split at ey
  ·rename_i hh
   cases ey
   exact wpAny_formatField_int hh.1 (go _ _)
  ·cases ey
 | none => cases ey
 | bool b => cases ey
 | list _ _ _ => cases ey
 | tuple _ _ => cases ey
theorem se_fstr {fl : EM (List Str)} {v1 v2 : Expr} (hl : SJ X XP mp (v1 :: v2 :: es) fl) (hz : (v1 :: v2 :: es).length ≤ 100) : SE X XP mp (.JoinedStr (v1 :: v2 :: es) pos) (fFstr fl) := fun M0 F Γ ν σ H Q rs hs hp pins s I => by
 refine wpAny_JoinedStr ?_
 have he : Str.empty.length = 0 := rfl
 have := hl M0 F Γ ν σ H Str.empty (fun out H' => Q (.str out) H') rs hs (by rw [he]; omega) (by
  unfold fFstr at hp
  refine (EPost.seq hp).mono fun F1 Γ1 H1 ys rs1 s1 h1 => ?_
  rw [sempty_app]
  exact h1 F1 H1 rs1 (.refl _ _) _ (Rep.str _)) pins s I
 revert this
 generalize evalEach (v1 :: v2 :: es) X.env = parts
 generalize Str.empty = acc
 intro this
 have mono : ∀ (parts : List (Sem Value)) (acc : Str) (s : Shared), Joins (model X.prog X.w) X.A X.xe parts acc (fun out s1 => out.length ≤ sizeLine ∧ ∃ H', Inv X pins σ H' s1 ∧ Q (.str out) H') s →
   Joins (model X.prog X.w) X.A X.xe parts acc (fun out s₁ => out.length ≤ sizeLine ∧ EP X pins σ Q (.str out s₁.toks) { s₁ with toks := s₁.toks + 1 }) s := by
  intro parts
  induction parts with
  | nil =>
   intro acc s h
   obtain ⟨h1, H', I', q⟩ := h
   exact ⟨h1, .str acc, H', I'.tok _, ⟨_, rfl⟩, q⟩
  | cons x r ih =>
   intro acc s h
   exact wpAny_mono h (fun v s1 ⟨y, t, e, hz, k⟩ => ⟨y, t, e, hz, ih _ _ k⟩) fun _ _ y => y
 exact mono parts acc s this
end
end L3
namespace L2
open PySem PySem.Spec PyProof.Rows PySem.Builtin PySem.Builtin.Str
theorem split_push {prog : Program} {w : World} {A : Around} {E : Value → Shared → Prop} {s : Shared} {x y : Str} {t u : Tok} {Q : Value → Shared → Prop} (hy : (y.length == 0) = false)
  (h : ∀ (l : List (Str × Tok)) k, l.map (·.1) = Txt.split x y → Q (.ref s.heap.objs.size) { s with heap := s.heap.push { cls := .type "list", data := .seq (strValues l).toArray }, toks := k })
  (hsz : x.length + 2 ≤ sizeLine) : wpAny (model prog w) A (call (.builtin "str.split") [.str x t, .str y u]) Q E s := by
 have hn : (partsBetween x (occurrences x y 0 x.length (x.length + 1)) y.length).length ≤ sizeLine := by
  have e1 := StrLaws.occ_length_le x y 0 x.length (x.length + 1)
  rw [length_partsBetween]; omega
 cases h1 : (decide (x.length < y.length) || decide (strKind x < strKind y))
 ·cases hf : (occurrences x y 0 x.length (x.length + 1)).isEmpty
  ·refine call_meets F.slot_str_split (typeIs_str _ _ _) F.entry_str_split (F.args_str_split_2 _ _) (meets_str_split_sep x y t u h1 hy hf (by omega) hn) ?_
   show wants Q E _ { s with toks := _, heap := s.heap.push { cls := .type "list", data := .seq (strsFrom s.toks (partsBetween x (occurrences x y 0 x.length (x.length + 1)) y.length)).toArray } }
   rw [strsFrom_eq]
   exact h (numbered s.toks _) _ ((numbered_texts _ _).trans ((if_neg (ne_true_of_eq_false h1)).trans (if_neg (ne_true_of_eq_false hf))).symm)
  ·exact call_meets F.slot_str_split (typeIs_str _ _ _) F.entry_str_split (F.args_str_split_2 _ _) (meets_str_split_not_found x y t u h1 hy hf)
    (h [(x, t)] s.toks ((if_neg (ne_true_of_eq_false h1)).trans (if_pos hf)).symm)
 ·exact call_meets F.slot_str_split (typeIs_str _ _ _) F.entry_str_split (F.args_str_split_2 _ _) (meets_str_split_cannot_occur x y t u h1)
   (h [(x, t)] s.toks (if_pos h1).symm)
theorem vals_strs : ∀ (l : List (Str × Tok)), Vals ((l.map (·.1)).map .str) (strValues l)
 | [] => .nil
 | p :: r => .cons ⟨p.2, rfl⟩ (vals_strs r)
theorem split_len (x y : Str) : (Txt.split x y).length ≤ x.length + 2 := by
 unfold Txt.split
 split
 ·simp
 ·split
  ·simp
  ·have e1 := StrLaws.occ_length_le x y 0 x.length (x.length + 1)
   rw [length_partsBetween]; omega
section
variable {X : Cx}
theorem mt_ends : MtR X "str.endswith" (fun x xs H Q => ∃ a b : Str, x = .str a ∧ xs = [.str b] ∧ Q (.bl (Txt.endswith a b)) H) := by
 intro pins s σ H x xs v us Q I rx r h
 obtain ⟨a, b, rfl, rfl, q⟩ := h
 obtain ⟨t, rfl⟩ := rx
 obtain ⟨u, rfl, t2, rfl⟩ := vals1 r
 exact SC.endswith ⟨.bl _, H, I, rfl, q⟩
theorem mt_split : MtR X "str.split" (fun x xs H Q => ∃ a b : Str, x = .str a ∧ xs = [.str b] ∧ (b.length == 0) = false ∧ a.length + 2 ≤ sizeLine ∧ ∀ p, H p = none → Q (.ref p) (upd H p (.lst ((Txt.split a b).map .str)))) := by
 intro pins s σ H x xs v us Q I rx r h
 obtain ⟨a, b, rfl, rfl, hy, hz, q⟩ := h
 obtain ⟨t, rfl⟩ := rx
 obtain ⟨u, rfl, t2, rfl⟩ := vals1 r
 refine split_push hy (fun l k el => ?_) hz
 refine ⟨.ref s.heap.objs.size, _, I.laid (t' := k) (o := .lst ((Txt.split a b).map .str)) (fun b ob q => Heap.get?_push_of_some _ q) (Nat.le_refl _) ?_, rfl, q _ (I.hok.fresh (Nat.le_refl _))⟩
 refine ⟨?_, _, 0, by rw [← el]; exact vals_strs l, Heap.get?_push_size _ rfl⟩
 rw [List.length_map]
 exact Nat.le_trans (split_len a b) hz
theorem call_int_txt : CallR X (.type "int") (fun xs H Q => ∃ (a : Str) (n : Int), xs = [.str a] ∧ PySem.intText? a = some n ∧ a.length ≤ 640 ∧ Q (.int n) H) := by
 intro pins s σ H xs us Q I r h
 obtain ⟨a, n, rfl, hn, hz, q⟩ := h
 obtain ⟨u, rfl, t, rfl⟩ := vals1 r
 exact PySem.W.KIN.call_text hn hz ⟨.int n, H, I.tok _, ⟨_, rfl⟩, q⟩
theorem sl_txt : SlR X (fun x lo hi H Q => ∃ a : Str, x = .str a ∧ a.length ≤ sizeLine ∧ Q (.str (Txt.slice a lo hi)) H) := by
 intro pins s σ H x v vl vu lo hi sl Q I rx hs pl pu h
 obtain ⟨a, rfl, hz, q⟩ := h
 obtain ⟨t, rfl⟩ := rx
 refine ⟨"str", _, F.slot_str_getitem.lookup, typeIs_str _ _ _, ?_⟩
 have key : ∀ (l u : Option (Int × Tok)), vl = partValue l → vu = partValue u → lo = l.map (·.1) → hi = u.map (·.1) → wpAny (model X.prog X.w) X.A (getItem (.str a t) (.ref sl)) (EP X pins σ Q) X.xe s := by
  intro l u e1 e2 e3 e4
  subst e1 e2 e3 e4
  refine wpAny_getItem_str_slice (l := l) (u := u) (st := none) ?_ rfl ?_
  ·obtain ⟨o, ho, hc, hd⟩ := hs
   exact ⟨o, ho, hc, hd⟩
  ·exact post_val_or_str ⟨Nat.le_trans (Txt.slice_le a _ _) hz, fun t' k => ⟨.str (Txt.slice a (l.map (·.1)) (u.map (·.1))), H, I.tok k, ⟨t', rfl⟩, q⟩⟩
 cases pl with
 | none => cases pu with
  | none => exact key none none rfl rfl rfl rfl
  | int j t2 => exact key none (some (j, t2)) rfl rfl rfl rfl
 | int i t1 => cases pu with
  | none => exact key (some (i, t1)) none rfl rfl rfl rfl
  | int j t2 => exact key (some (i, t1)) (some (j, t2)) rfl rfl rfl rfl
end
noncomputable def Itc (x : Str) : It := ⟨fun i _ => i < x.length, fun i H v H' => H' = H ∧ ∃ c, x.cps[i]? = some c ∧ v = .str ⟨#[c]⟩, fun i _ => x.length ≤ i⟩
theorem turn_chars {P : Program} {w : World} {K : PySem.W.Frag} {tg : Expr} (x : Str) (t : Tok) (it : Addr) : Turn P w K tg (Itc x) [it] it (fun i h => h.IsStrIter it "str_ascii_iterator" x t i) where
 mem := by simp
 obj := fun i h st b hb => by
  have e : b = it := by simpa using hb
  subst e
  obtain ⟨o, e, c, d⟩ := st
  exact ⟨o, e, fun v z => by rw [d] at z; cases z⟩
 keep := fun i h h' st k => by
  obtain ⟨o, e, c, d⟩ := st
  exact ⟨o, k it (by simp) o e, c, d⟩
 item := by
  intro X hP hw hK hc i pins s σ H E I hf st hg
  subst hP hw hK
  have hg : i < x.cps.size := hg
  obtain ⟨f0, f1, f2, f3, f4, f5⟩ := hf it (by simp)
  have hx : x.cps[i]? = some x.cps[i] := Array.getElem?_eq_getElem hg
  refine wpAny_pyNext_ascii_item st hx fun h' st' sb => ?_
  have I1 : Inv X pins σ H { s with heap := h', toks := s.toks + 1 } := I.turned (t' := s.toks + 1) (fun b o hb e => (sb.2 b hb).trans e) f0 f1 f3 f4 f5
  obtain ⟨o, e, c, d⟩ := id st'
  exact ⟨_, rfl, go_of (s := { s with heap := h', toks := s.toks + 1 }) e c d (by decide) ⟨.str ⟨#[x.cps[i]]⟩, H, I1, ⟨_, rfl⟩, ⟨rfl, _, hx, rfl⟩, st', fun b hb => (hf b hb).1⟩⟩
 done := by
  intro X hP hw hK hc i pins s σ H E I hf st hg
  subst hP hw hK
  have hg : x.cps.size ≤ i := hg
  obtain ⟨f0, f1, f2, f3, f4, f5⟩ := hf it (by simp)
  exact wpAny_pyNext_ascii_end (I.ok.hd hc) st (Array.getElem?_eq_none hg) fun h' eb => ⟨rfl, I.turned (t' := s.toks) (fun b o hb e => eb b o hb e) f0 f1 f3 f4 f5⟩
 self := fun _ _ _ _ _ st h => wpAny_pyIter_striter_ascii st h
section
variable {X : Cx}
noncomputable def iChars (tl : TE) : TI := fun σ H R => tl σ H fun x H1 => ∃ a : Str, x = .str a ∧ a.cps.all (· < 128) = true ∧ R (Itc a) H1
theorem pi_chars {tg l : Expr} {tl : TE} (hl : PE X l tl) : PI X tg l (iChars tl) := by
 intro pins s σ H R I h
 refine thn (hl pins s σ H _ I h) fun v s1 ⟨x, H1, I1, r1, q1⟩ => ?_
 obtain ⟨a, rfl, ha, q⟩ := q1
 obtain ⟨t, rfl⟩ := r1
 refine wpAny_pyIter_ascii ha ?_
 have I2 : Inv X pins σ H1 { s1 with heap := s1.heap.push { cls := .type "str_ascii_iterator", data := .fields #[.str a t, .int 0 0] } } := I1.kept (t' := s1.toks) fun b ob q => Heap.get?_push_of_some _ q
 refine ⟨s1.heap.objs.size, [s1.heap.objs.size], _, _, H1, rfl, I2, turn_chars a t _, ⟨_, Heap.get?_push_size _ rfl, rfl, rfl⟩, fun b hb => ?_, q⟩
 have eb : b = s1.heap.objs.size := by simpa using hb
 subst eb
 exact I1.fpOk (Nat.le_refl _) (I1.hok.fresh (Nat.le_refl _))
end
end L2
namespace L2
open PySem PySem.Spec PyProof.Rows
noncomputable def ItK : Bool → Heap → Addr → Addr → Nat → Prop
 | true, h, i, l, k => h.IsTupleIter i l k
 | false, h, i, l, k => h.IsListIter i l k
noncomputable def SqK : Bool → Heap → Addr → Array Value → Prop
 | true, h, l, xs => h.IsTuple l xs
 | false, h, l, xs => h.IsList l xs
noncomputable def itN : Bool → String
 | true => "tuple_iterator"
 | false => "list_iterator"
theorem ItK.obj {tp : Bool} {h : Heap} {i l : Addr} {k : Nat} (x : ItK tp h i l k) : ∃ o, h.get? i = some o ∧ o.cls = .type (itN tp) ∧ o.data = .fields #[.ref l, .int k 0] := by
 cases tp <;> exact x
theorem ItK.of {tp : Bool} {h : Heap} {i l : Addr} {k : Nat} (x : ∃ o, h.get? i = some o ∧ o.cls = .type (itN tp) ∧ o.data = .fields #[.ref l, .int k 0]) : ItK tp h i l k := by
 cases tp <;> exact x
theorem ItK.at {tp : Bool} {h h' : Heap} {i l : Addr} {k : Nat} (x : ItK tp h i l k) (e : ∀ o, h.get? i = some o → h'.get? i = some o) : ItK tp h' i l k := by
 obtain ⟨o, a, b, c⟩ := x.obj
 exact .of ⟨o, e o a, b, c⟩
theorem SqK.at {tp : Bool} {h h' : Heap} {l : Addr} {xs : Array Value} (x : SqK tp h l xs) (e : ∀ o, h.get? l = some o → h'.get? l = some o) : SqK tp h' l xs := by
 cases tp
 ·obtain ⟨o, a, b⟩ := id x; exact ⟨o, e o a, b⟩
 ·obtain ⟨o, a, b⟩ := id x; exact ⟨o, e o a, b⟩
section
variable {prog : Program} {w : World} {A : Around} {E : Value → Shared → Prop} {s : Shared}
end
noncomputable def SqV (tp : Bool) (H : Hp) (a : Addr) (xs : List V) : Prop := match tp with
 | true => H a = some (.tup xs)
 | false => H a = some (.lst xs)
theorem SqV.inj {H : Hp} {tp : Bool} {a : Addr} {xs ys : List V} (h : SqV tp H a xs) (h' : SqV tp H a ys) : xs = ys := by
 cases tp with
 | false => have := Eq.trans (Eq.symm h) h'; cases this; rfl
 | true => have := Eq.trans (Eq.symm h) h'; cases this; rfl
theorem SqV.ne {H : Hp} {tp : Bool} {a c : Addr} {xs : List V} (h : SqV tp H a xs) (e : H c = none) : a ≠ c := fun z => by
 subst z
 cases tp with
 | false => have h : H a = some (.lst xs) := h; rw [e] at h; cases h
 | true => have h : H a = some (.tup xs) := h; rw [e] at h; cases h
section
variable {X : Cx}
end
end L2
namespace L2
open PySem PySem.Spec PyProof.Rows
noncomputable def dictObj (w : World) (l : List (Str × Nat × Addr)) (ep : Nat) : Obj := { cls := .type "dict", data := .dict (l.map fun p => (⟨PySem.PyData.keyHash w.params p.1, .str p.1 p.2.1, .ref p.2.2⟩ : DictEntry)).toArray ep }
inductive GRows (mg : Str → Option Value) : List (Str × Nat × Addr) → List (Str × Str) → Prop
 | nil : GRows mg [] []
 | cons {k f : Str} {t : Nat} {a : Addr} {l kf} : mg f = some (.ref a) → GRows mg l kf → GRows mg ((k, t, a) :: l) ((k, f) :: kf)
structure GD (w : World) (K : PySem.W.Frag) (mg : Str → Option Value) (x : Str) (kf : List (Str × Str)) : Prop where
 ex : ∃ (D : Addr) (ep : Nat) (l : List (Str × Nat × Addr)), mg x = some (.ref D) ∧ (D == sysModules) = false ∧ K.lookup D = some (dictObj w l ep) ∧ GRows mg l kf ∧ (kf.map (·.1)).Nodup
theorem GRows.keys {mg : Str → Option Value} {l : List (Str × Nat × Addr)} {kf : List (Str × Str)} (h : GRows mg l kf) : l.map (·.1) = kf.map (·.1) := by
 induction h with
 | nil => rfl
 | cons _ _ ih => simp [ih]
theorem GRows.find {mg : Str → Option Value} {l : List (Str × Nat × Addr)} {kf : List (Str × Str)} (h : GRows mg l kf) (k : Str) : match kf.lookup k with
  | some f => ∃ a, mg f = some (.ref a) ∧ valueAt (l.map fun p => (p.1, Value.ref p.2.2)) k = some (.ref a)
  | none => valueAt (l.map fun p => (p.1, Value.ref p.2.2)) k = none := by
 induction h with
 | nil => rfl
 | @cons k' f t a l kf hm hr ih =>
  rw [List.lookup_cons]
  by_cases e : k = k'
  ·subst e
   simp only [beq_self_eq_true]
   exact ⟨a, hm, by simp [valueAt]⟩
  ·have e1 : (k == k') = false := by simpa using e
   rw [e1]
   have e2 : valueAt (((k', t, a) :: l).map fun p => (p.1, Value.ref p.2.2)) k = valueAt (l.map fun p => (p.1, Value.ref p.2.2)) k := by
    unfold valueAt
    rw [List.map_cons, List.find?_cons_of_neg (by simpa using Ne.symm e)]
   rw [e2]; exact ih
theorem pairs_of {P : Program} {w : World} : ∀ (l : List (Str × Nat × Addr)), Pairs (PySem.strKind P w) (l.map fun p => (⟨PySem.PyData.keyHash w.params p.1, .str p.1 p.2.1, .ref p.2.2⟩ : DictEntry)) (l.map fun p => (p.1, Value.ref p.2.2))
 | [] => .nil
 | p :: r => .cons (by simp [PySem.strKind, Value.isStrOf]) rfl (pairs_of r)
theorem dict_at {P : Program} {w : World} {h : Heap} {D : Addr} {ep : Nat} {l : List (Str × Nat × Addr)} (hd : h.get? D = some (dictObj w l ep)) (nd : (l.map (·.1)).Nodup) : h.DictOf (PySem.strKind P w) D (l.map fun p => (p.1, Value.ref p.2.2)) := by
 refine ⟨_, _, ep, hd, ⟨rfl, rfl, rfl⟩, rfl, ?_, by simpa using pairs_of l, ?_⟩
 ·intro e he
  simp only [List.mem_toArray, List.mem_map] at he
  obtain ⟨p, hp, rfl⟩ := he
  exact ⟨p.1, by simp [PySem.strKind, Value.isStrOf], rfl⟩
 ·rw [List.map_map]; exact nd
section
variable {X : Cx}
theorem sub_got {x r : Str} {kf : List (Str × Str)} {i : Nat} {e : Expr} {p1 p2 q1 q2 : Pos} (g : GD X.w X.K X.mg x kf) (hg : Gl X x) (hdb : (x == ("__debug__" : Str)) = false) (hs : ∀ ov iv, subscripted e false ov iv = operate [ov, iv] (getItem ov iv)) (hN : X.N.Nodup) (hi : X.N[i]? = some r) (hx : Loc X.env.scope r)
  (hsw : swapsWith (.Subscript (.Name x p1) e q1) (some (.Name r p2)) q2.line X.env = pure false) (hf : X.fn r = true ∨ X.env.scope.names.lookup r = some .local) :
  PS X (.Assign [.Name r p2] (.Subscript (.Name x p1) e q1) q2) (fun D σ H => wpE X e σ H fun v H1 => ∃ (a f : Str) (b : Addr), v = .str a ∧ kf.lookup a = some f ∧ (X.mg f = some (.ref b) → D.nx (σ.set i (some (.ref b))) H1) ∧ X.mg f = some (.ref b)) := by
 have hpe : PE X (.Subscript (.Name x p1) e q1) (fun σ H Q => wpE X e σ H fun v H1 => ∃ (a f : Str) (b : Addr), v = .str a ∧ kf.lookup a = some f ∧ X.mg f = some (.ref b) ∧ Q (.ref b) H1) := by
  intro pins s σ H Q I h
  obtain ⟨D, ep, l, h1, h2, h3, h4, h5⟩ := g.ex
  refine Subscript_ (ld_glob I hg h1 (thn (h pins s I) fun iv s2 ⟨y, H2, I2, ry, a, f, b, ey, ef, eb, q⟩ => ?_) hdb)
  subst ey
  obtain ⟨t, rfl⟩ := ry
  have hd := dict_at (P := X.prog) (I2.kIn D _ h3) (by rw [h4.keys]; exact h5)
  have hfd := h4.find a
  rw [ef] at hfd
  obtain ⟨b', eb', ev⟩ := hfd
  rw [eb] at eb'; cases eb'
  refine tail_any (ops := [.ref D, .str a t]) hd.typeIs PySem.F.slot_dict_getitem.lookup ?_ (hs _ _)
  exact wpAny_getItem_of (knd := PySem.strKind X.prog X.w) (k := a) (by simp [PySem.strKind, Value.isStrOf]) hd.mapOf ev ⟨.ref b, H2, I2.tok _, rfl, q⟩
 intro pins s σ H D I h
 exact ps_set hN hi hx hpe hsw hf pins s σ H D I (h.mono fun v H1 ⟨a, f, b, e1, e2, q, e3⟩ => ⟨a, f, b, e1, e2, e3, q e3⟩)
theorem wp_callL {r x : Str} {k i : Nat} {CX : CXT} {E : XK} {e : Expr} {es : List Expr} {p pos : Pos} {sp : Sp} {σ : St} {H : Hp} {Q : VK} {b : Addr} (kn : Kn X.prog X.w X.K X.mg X.base CX x k sp) (hb0 : X.mg x = some (.ref b)) (hr : Room k X.A) (hx : Passes CX X E)
  (hN : X.N[i]? = some r) (hv : Vis X.env.scope r) (hd : (r == ("__debug__" : Str)) = false) (hcd : (r == ("__classdict__" : Str)) = false) (hσ : σ[i]? = some (some (.ref b)))
  (h : wpA X (e :: es) σ H fun vs H1 => sp vs H1 Q E) (he : starEach (e :: es) X.env = (false, eval e X.env) :: starEach es X.env) (hpl : (backTo pos (starEach es X.env)).any (·.1) = false) : wpE X (.Call (.Name r p) (e :: es) [] pos) σ H Q := by
 obtain ⟨f, fd, ps, F, hm, hk, hb⟩ := kn.ex
 rw [hb0] at hm; cases hm
 intro pins s I
 refine wpAny_Call_Name_kw (thn (pe_var (X := X) hN hv hd hcd pins s σ H (fun v H' => v = .ref b ∧ H' = H) I ⟨_, hσ, rfl, rfl⟩) fun u s1 ⟨v, H1, I1, r1, e1, e2⟩ => ?_)
 subst e1 e2
 cases r1
 refine PySem.W.callWith_K (h₀ := X.base) I1.ok.mod.kin hk (thn (h pos pins s1 I1) fun us s2 ⟨vs, H2, I2, r2, q⟩ => ⟨I2.kIn, ?_⟩) he hpl
 exact run_fn F hr hb .nil hx I2 r2 (by rw [List.append_nil]; exact q)
end
end L2
namespace L2
open PySem PySem.Spec PyProof.Rows
end L2
namespace L3
open PySem PySem.Spec PyProof.Rows L2
section
variable {X : Cx} {XP : XPT} {mp io : List Nat} {a b c e : Expr} {es : List Expr} {pos p p2 : Pos} {fa fb fc : EM FV}
noncomputable def fEnds (fa fb : EM FV) : EM FV := fun Γ => (fa Γ).bind fun (u, Γ1) => match derf Γ1 u with
 | some (.str x) => (fb Γ1).bind fun (w, Γ2) => match derf Γ2 w with
  | some (.str y) => .ok (.dat (.bool (Txt.endswith x y)), Γ2)
  | _ => .bad
 | _ => .bad
theorem se_ends {name : Str} (en : name = "endswith") (ha : SE X XP mp a fa) (hb : SE X XP mp b fb) (hbase : attributeBase a name X.env (eval a X.env) = eval a X.env) (hst : starEach [b] X.env = [(false, eval b X.env)]) (hline : (p2.endLine == pos.line) = true) :
  SE X XP mp (.Call (.Attribute a name p2) [b] [] pos) (fEnds fa fb) := fun M0 F Γ ν σ H Q rs hs hp => by
 subst en
 refine (pe_bm PySem.F.plainAttrs_str PySem.F.slot_str_endswith PySem.F.type_str_endswith mt_ends pe_self (pa_cons pe_self pa_nil hst) hbase (by rw [hst]; rfl) hline hst rfl).wp (ha.run rs hs hp fun F1 Γ1 H1 u v rs1 s1 o1 h1 => ?_)
 dsimp only at h1
 split at h1
 ·rename_i x ex
  have r1 := o1.weak rs1 ex
  cases r1
  refine ⟨rfl, ?_⟩
  refine hb.run rs1 hs h1 fun F2 Γ2 H2 w v2 rs2 s2 o2 h2 => ?_
  dsimp only at h2
  split at h2
  ·rename_i y ey
   have r2 := o2.weak rs2 ey
   cases r2
   exact ⟨_, _, rfl, rfl, h2 F2 H2 rs2 (.refl _ _) _ (Rep.bool _)⟩
  ·exact h2.elim
 ·exact h1.elim
noncomputable def fSplit (fa fb : EM FV) : EM (List PyData) := fun Γ => (fa Γ).bind fun (u, Γ1) => match derf Γ1 u with
 | some (.str x) => (fb Γ1).bind fun (w, Γ2) => match derf Γ2 w with
  | some (.str y) => if (y.length == 0) = false ∧ x.length ≤ 900000 then .ok ((Txt.split x y).map .str, Γ2) else .bad
  | _ => .bad
 | _ => .bad
theorem rep_strs {M : Addr → Prop} {H : Hp} : ∀ (xs : List Str), RepL M H (xs.map V.str) (xs.map PyData.str)
 | [] => .nil
 | x :: r => .cons (.str x) (rep_strs r)
theorem sn_split {name : Str} (en : name = "split") (ha : SE X XP mp a fa) (hb : SE X XP mp b fb) (hbase : attributeBase a name X.env (eval a X.env) = eval a X.env) (hst : starEach [b] X.env = [(false, eval b X.env)]) (hline : (p2.endLine == pos.line) = true) :
  SN X XP mp (.Call (.Attribute a name p2) [b] [] pos) (fSplit fa fb) := fun M0 F Γ ν σ H Q rs hs hp => by
 subst en
 refine (pe_bm PySem.F.plainAttrs_str PySem.F.slot_str_split PySem.F.type_str_split mt_split pe_self (pa_cons pe_self pa_nil hst) hbase (by rw [hst]; rfl) hline hst rfl).wp (ha.run rs hs hp fun F1 Γ1 H1 u v rs1 s1 o1 h1 => ?_)
 dsimp only at h1
 split at h1
 ·rename_i x ex
  have r1 := o1.weak rs1 ex
  cases r1
  refine ⟨rfl, ?_⟩
  refine hb.run rs1 hs h1 fun F2 Γ2 H2 w v2 rs2 s2 o2 h2 => ?_
  dsimp only at h2
  split at h2
  ·rename_i y ey
   split at h2
   ·rename_i hz
    have r2 := o2.weak rs2 ey
    cases r2
    exact ⟨_, _, rfl, rfl, hz.1, by have := sizeLine_eq; omega, fun p n => h2 F2 H2 rs2 (.refl _ _) _ p (rep_strs _) n⟩
   ·exact h2.elim
  ·exact h2.elim
 ·exact h1.elim
noncomputable def gSint : PyData → Option PyData
 | .str x => if x.length ≤ 640 then (PySem.intText? x).map .int else none
 | _ => none
theorem cs_sint : CallS X (.type "int") gSint := fun x z e => by
 unfold gSint at e
 split at e
 ·split at e
  ·rename_i x h
   cases q : PySem.intText? x with
   | none => rw [q] at e; cases e
   | some n =>
    rw [q] at e
    cases e
    exact ⟨rfl, _, call_int_txt, fun H v Q r k => by cases r; exact ⟨_, n, rfl, q, h, k _ (.int _)⟩⟩
  ·cases e
 ·cases e
noncomputable def fCutS (fa : EM FV) (fl fh : EM (Option Int)) : EM FV := fun Γ => (fa Γ).bind fun (u, Γ1) => (fl Γ1).bind fun (lo, Γ2) => (fh Γ2).bind fun (hi, Γ3) => match derf Γ3 u with
 | some (.str x) => if x.length ≤ 1000000 then .ok (.dat (.str (Txt.slice x lo hi)), Γ3) else .bad
 | _ => .bad
theorem se_cutS {lo hi : Option Expr} {fl fh : EM (Option Int)} (ha : SE X XP mp a fa) (hl : SOp X XP mp lo fl) (hh : SOp X XP mp hi fh) : SE X XP mp (.Subscript a (.Slice lo hi none p2) pos) (fCutS fa fl fh) := fun M0 F Γ ν σ H Q rs hs hp => by
 obtain ⟨tl, pl, kl⟩ := hl
 obtain ⟨th, ph, kh⟩ := hh
 refine (pe_slice sl_txt pe_self pl ph).wp (ha.run rs hs hp fun F1 Γ1 H1 u v rs1 s1 o1 h1 => ?_)
 refine kl M0 F1 Γ1 ν σ H1 _ rs1 hs (h1.seq.mono fun F2 Γ2 H2 lo rs2 s2 h2 => ?_)
 refine kh M0 F2 Γ2 ν σ H2 _ rs2 hs (h2.seq.mono fun F3 Γ3 H3 hi rs3 s3 h3 => ?_)
 dsimp only at h3
 split at h3
 ·rename_i x e
  split at h3
  ·rename_i hz
   have r3 := ((o1.stp s2 rs1.al0).stp s3 rs2.al0).weak rs3 e
   cases r3
   exact ⟨_, rfl, sz6 hz, h3 F3 H3 rs3 (.refl _ _) _ (Rep.str _)⟩
  ·exact h3.elim
 ·exact h3.elim
noncomputable def signsOf (x : Str) : List PyData := x.cps.toList.map fun c => .str ⟨#[c]⟩
theorem ji_chars {M0 : Addr → Prop} {F : Fp} {H1 : Hp} (x : Str) : JI M0 F (Itc x) (signsOf x) H1 := fun i F' H' s h0 => by
 refine ⟨fun d hd => ?_, fun hi => ?_⟩
 ·unfold signsOf at hd
  rw [List.getElem?_map] at hd
  cases q : x.cps.toList[i]? with
  | none => rw [q] at hd; cases hd
  | some c =>
   rw [q] at hd
   cases hd
   have q' : x.cps[i]? = some c := by simpa using q
   refine ⟨(Array.getElem?_eq_some_iff.mp q').1, fun z H2 ⟨e2, c', ec, ez⟩ => ?_⟩
   subst e2 ez
   rw [q'] at ec; cases ec
   exact ⟨.refl _, .str _⟩
 ·have : (signsOf x).length = x.length := by simp [signsOf, Str.length]
  rw [this] at hi; exact hi
noncomputable def fChars (fa : EM FV) : EM (List PyData) := fun Γ => (fa Γ).bind fun (u, Γ1) => match derf Γ1 u with
 | some (.str x) => if x.cps.all (· < 128) then .ok (signsOf x, Γ1) else .bad
 | _ => .bad
theorem si_chars {tg : Expr} (ha : SE X XP mp a fa) : SI X XP mp tg a (fChars fa) := fun M0 F Γ ν σ H R rs hs hp =>
 (pi_chars pe_self).wp (ha.run rs hs hp fun F1 Γ1 H1 u v rs1 s1 o1 h1 => by
  dsimp only at h1
  split at h1
  ·rename_i x ex
   split at h1
   ·rename_i hz
    have r1 := o1.weak rs1 ex
    cases r1
    exact ⟨_, rfl, hz, h1 F1 H1 rs1 (.refl _ _) _ (ji_chars x)⟩
   ·exact h1.elim
  ·exact h1.elim)
theorem RS.unset {M0 : Addr → Prop} {F : Fp} {Γ : Gv} {ν : Nu} {H : Hp} {i : Nat} (r : RS M0 F Γ ν H) (h : ∀ o, Γ[i]? ≠ some (some o)) : RS M0 F Γ (ν.set i none) H :=
 ⟨r.al0, r.dis0, r.nd, r.dis, fun j o e => by
  obtain ⟨w, e1, z⟩ := r.at' j o e
  refine ⟨w, ?_, z⟩
  rw [List.getElem?_set_ne (fun q => h o (by rw [q]; exact e))]
  exact e1, r.emp, by rw [List.length_set]; exact r.len⟩
theorem Sees.unset {ν : Nu} {σ : St} {s i : Nat} {v : V} (h : Sees mp ν σ) (hn : mp.Nodup) (hm : mp[s]? = some i) : Sees mp (ν.set i none) (σ.set s (some v)) := fun t j w e1 e2 => by
 by_cases hj : j = i
 ·subst hj
  have hs : t = s := (List.getElem?_inj (List.getElem?_eq_some_iff.mp e1).1 hn).mp (e1.trans hm.symm)
  subst hs
  rw [List.getElem?_set_self'] at e2
  cases q : ν[j]? with
  | none => rw [q] at e2; cases e2
  | some z => rw [q] at e2; cases e2
 ·rw [List.getElem?_set_ne (Ne.symm hj)] at e2
  have hts : s ≠ t := fun z => by subst z; rw [hm] at e1; cases e1; exact hj rfl
  rw [List.getElem?_set_ne hts]
  exact h t j w e1 e2
noncomputable def sDisp (io : List Nat) (kf : List (Str × Str)) (run : Str → List OV → RF) (i : Nat) (fe : EM FV) (fl : EM (List AV)) : SM := fun Γ => (fe Γ).bind fun (u, Γ1) => match derf Γ1 u with
 | some (.str k) => match kf.lookup k with
  | some f => if i ∈ io ∨ (Γ1[i]?.join).isSome = true then .bad else (fCall (run f) fl Γ1).bind fun (o, Γ2) => .ok (.ret o, Γ2)
  | none => .bad
 | _ => .bad
theorem sb_disp {s i k n : Nat} {r x : Str} {kf : List (Str × Str)} {run : Str → List OV → RF} {fl : EM (List AV)} {p1 p3 q1 q2 q3 q4 : Pos} (g : GD X.w X.K X.mg x kf) (hg : Gl X x) (hdb : (x == ("__debug__" : Str)) = false)
  (kn : ∀ key f, kf.lookup key = some f → Kn X.prog X.w X.K X.mg X.base CX0 f k (spI n (run f)) ∧ ∀ args r outs, run f args = .ok r outs → args.length = n) (hr : Room k X.A)
  (he : SE X XP mp e fa) (hps : PS X (.Assign [.Name r p2] (.Subscript (.Name x p1) e q1) q2) (fun D σ H => wpE X e σ H fun v H1 => ∃ (a f : Str) (b : Addr), v = .str a ∧ kf.lookup a = some f ∧ (X.mg f = some (.ref b) → D.nx (σ.set s (some (.ref b))) H1) ∧ X.mg f = some (.ref b)))
  (hN : X.N[s]? = some r) (hv : Vis X.env.scope r) (hd : (r == ("__debug__" : Str)) = false) (hcd : (r == ("__classdict__" : Str)) = false) (hn : mp.Nodup) (hm : mp[s]? = some i)
  (hl : SA X XP mp (a :: es) fl) (hst : starEach (a :: es) X.env = (false, eval a X.env) :: starEach es X.env) (hpl : (backTo q3 (starEach es X.env)).any (·.1) = false) :
  SB X XP mp io [.Assign [.Name r p2] (.Subscript (.Name x p1) e q1) q2, .Return (some (.Call (.Name r p3) (a :: es) [] q3)) q4] (sDisp io kf run i fa fl) := fun M0 F Γ ν σ H D rs hs hl0 hp => by
 refine (pss_cons hps (pss_one (ps_ret pe_self))).wp ?_
 refine he M0 F Γ ν σ H _ rs hs ((SPost.seq hs hl0 hp).mono fun F1 Γ1 H1 u rs1 s1 h1 v hv1 => ?_)
 dsimp only at h1
 split at h1
 ·rename_i key ek
  have r1 := hv1.weak rs1 ek
  cases r1
  split at h1
  ·rename_i f ef
   split at h1
   ·exact h1.elim
   ·rename_i hh
    obtain ⟨kn1, hrun⟩ := kn key f ef
    obtain ⟨b, fd, ps, _, hb, _⟩ := kn1.ex
    have hio : i ∉ io := fun z => hh (.inl z)
    have hΓ : ∀ o, Γ1[i]? ≠ some (some o) := fun o z => hh (.inr (by rw [z]; rfl))
    have rs2 := rs1.unset hΓ
    have hs2 : Sees mp (ν.set i none) (σ.set s (some (.ref b))) := hs.unset hn hm
    have hlen : (σ.set s (some (.ref b)) : St).length = X.N.length := by rw [List.length_set]; exact hl0
    refine ⟨key, f, b, rfl, ef, fun _ => ?_, hb⟩
    refine wp_callL (E := E0) kn1 hb hr pass0 hN hv hd hcd ?_ (hl M0 F1 Γ1 (ν.set i none) (σ.set s (some (.ref b))) H1 _ rs2 hs2 (call_post rs2 hrun ?_)) hst hpl
    ·have : s < σ.length := by rw [hl0]; exact (List.getElem?_eq_some_iff.mp hN).1
     rw [List.getElem?_set_self this]
    ·have h1' : SPost M0 F1 (ν.set i none) H1 XP mp X.N.length io D ((fCall (run f) fl Γ1).bind fun (o, Γ2) => .ok (.ret o, Γ2)) := h1.step (.refl _ _) fun j hj => by
      rw [List.getElem?_set_ne (fun z => hio (by rw [z]; exact hj))]
     exact (SPost.seqO hs2 hlen h1').mono fun F3 Γ3 H3 o v rs3 s3 h3 => h3 F3 _ v H3 rs3 (.refl _ _) fun _ _ => rfl
  ·exact h1.elim
 ·exact h1.elim
end
end L3
namespace L3
open PySem PySem.Spec PyProof.Rows L2
section
variable {M0 : Addr → Prop} {F F' : Fp} {Γ Γ' : Gv} {ν ν' : Nu} {H H' : Hp}
theorem RS.pair {o : OV} {v u : V} {x : PyData} {p : Addr} (r : RS M0 F (Γ ++ [some o]) (ν ++ [some v]) H) (n : H p = none) (qx : Rep (MM M0 F) H u x) :
  RS M0 F (Γ ++ [some (.t [.d x, o])]) (ν ++ [some (.ref p)]) (upd H p (.tup [u, v])) ∧ Stp F H F (upd H p (.tup [u, v])) := by
 have hl : ν.length = Γ.length := by have := r.len; simp at this; exact this
 have hp : ∀ i, p ∉ F i := fun i h => by
  obtain ⟨vs, e⟩ := r.laidF h
  rw [n] at e; cases e
 obtain ⟨w, ew, q⟩ := r.at' Γ.length o (by rw [List.getElem?_append_right (Nat.le_refl _)]; simp)
 have ewv : w = v := by
  rw [List.getElem?_append_right (by omega), hl] at ew
  simpa using ew.symm
 subst ewv
 have s : Stp F H F (upd H p (.tup [u, w])) := .same (upd_new n)
 have hF : fset F Γ.length (F Γ.length) = F := by
  funext j
  by_cases hj : j = Γ.length
  ·subst hj; exact fset_same
  ·exact fset_ne hj
 have keep : ∀ j, ∀ a ∈ F j, upd H p (.tup [u, w]) a = H a := fun j a ha => upd_ne (fun e => hp j (by rw [← e]; exact ha))
 have q2 : ORL (MM M0 F) (upd H p (.tup [u, w])) [u, w] [.d x, o] (F Γ.length) := by
  have := ORL.cons (A := []) (.d (rep_stp s r.al0 qx)) (ORL.cons (q.go (fun _ _ x => rep_stp s r.al0 x) s.tups (keep _)) ORL.nil)
  rw [List.append_nil, List.nil_append] at this; exact this
 have r1 := r.put (i := Γ.length) (o := .t [.d x, o]) (v := .ref p) (A := F Γ.length) (H' := upd H p (.tup [u, w])) (by rw [hF]; exact s) (fun j _ => keep j)
  (fun a h => s.stay a (r.al0 a h)) (fun a ha h => r.dis0 _ a ha h) (r.nd _) (fun j hj a ha h => hj (r.dis _ _ a h ha)) (by simp) (by rw [hF]; exact .t upd_same q2)
 rw [hF] at r1
 have e1 : (Γ ++ [some o]).set Γ.length (some (OV.t [.d x, o])) = Γ ++ [some (.t [.d x, o])] := by
  rw [List.set_append_right _ _ (Nat.le_refl _)]; simp
 have e2 : (ν ++ [some w]).set Γ.length (some (V.ref p)) = ν ++ [some (.ref p)] := by
  rw [← hl, List.set_append_right _ _ (Nat.le_refl _)]; simp
 rw [e1, e2] at r1
 exact ⟨r1, s⟩
theorem tup_at {i : Nat} {xs : List OV} (rs : RS M0 F Γ ν H) (e : Γ[i]? = some (some (.t xs))) : ∃ a vs, ν[i]? = some (some (.ref a)) ∧ H a = some (.tup vs) ∧ ORL (MM M0 F) H vs xs (F i) := by
 obtain ⟨v, ev, q⟩ := rs.at' i _ e
 generalize F i = A at q
 cases q with
 | t ea qa => exact ⟨_, _, ev, ea, qa⟩
theorem mutInT {i j : Nat} {xs ys : List OV} {a : Addr} {vs : List V} (rs : RS M0 F Γ ν H) (e : Γ[i]? = some (some (.t xs))) (en : ν[i]? = some (some (.ref a))) (eh : H a = some (.tup vs)) (ej : xs[j]? = some (.l ys)) :
  ∃ b us, vs[j]? = some (.ref b) ∧ H b = some (.lst us) ∧ us.length = ys.length ∧ ∀ v x, Rep (MM M0 F) H v x →
   ∃ F', RS M0 F' (Γ.set i (some (.t (xs.set j (.l (ys ++ [.d x])))))) ν (upd H b (.lst (us ++ [v]))) ∧ Stp F H F' (upd H b (.lst (us ++ [v]))) := by
 have hi := (List.getElem?_eq_some_iff.mp e).1
 obtain ⟨a1, vs1, en1, eh1, qa⟩ := tup_at rs e
 rw [en] at en1
 cases en1
 rw [eh] at eh1
 cases eh1
 obtain ⟨b, us, h1, h2, h3, h4, h5⟩ := qa.inner ej
 have hba : b ≠ a := fun z => by subst z; rw [h2] at eh; cases eh
 refine ⟨b, us, h1, h2, h4, fun v x rx => ?_⟩
 have s : Stp F H (fset F i (F i)) (upd H b (.lst (us ++ [v]))) := ⟨fun c o ec nc => ⟨by
   rw [upd_ne (fun z => by subst z; exact nc i h3)]; exact ec, fun k h => by
   by_cases hk : k = i
   ·subst hk; rw [fset_same] at h; exact nc _ h
   ·rw [fset_ne hk] at h; exact nc _ h⟩, fun c xs ec => by
   rw [upd_ne (fun z => by subst z; rw [h2] at ec; cases ec)]; exact ec, fun c h => by
   by_cases z : c = b
   ·subst z; rw [upd_same]; exact fun z => nomatch z
   ·rw [upd_ne z]; exact h⟩
 have q2 := h5 v x (MM M0 (fset F i (F i))) (upd H b (.lst (us ++ [v]))) (rs.nd i) (fun _ _ z => rep_stp s rs.al0 z) s.tups (fun c _ hc => upd_ne hc) upd_same (rep_stp s rs.al0 rx)
 have r1 := rs.put (i := i) (o := .t (xs.set j (.l (ys ++ [.d x])))) (v := .ref a) (A := F i) (H' := upd H b (.lst (us ++ [v]))) s (fun k hk c hc => upd_ne fun z => by subst z; exact hk (rs.dis _ _ _ hc h3))
  (fun c h => s.stay c (rs.al0 c h)) (rs.dis0 i) (rs.nd i) (fun k hk c hc h => hk (rs.dis _ _ c h hc)) hi (.t (by rw [upd_ne (Ne.symm hba)]; exact eh) q2)
 have eν : ν.set i (some (.ref a)) = ν := by
  apply List.ext_getElem?
  intro k
  by_cases hk : i = k
  ·subst hk; rw [List.getElem?_set_self (by rw [rs.len]; exact hi), en]
  ·rw [List.getElem?_set_ne hk]
 rw [eν] at r1
 exact ⟨_, r1, s⟩
end
section
variable {X : Cx} {XP : XPT} {mp io : List Nat} {a b c e : Expr} {es : List Expr} {pos p p2 pos' p3 : Pos} {fa fb fc : EM FV} {fo : EM OV} {kx : Nat}
noncomputable def fPair (fa : EM FV) (fo : EM OV) : EM OV := fun Γ => (fa Γ).bind fun (u, Γ1) => match derS Γ1 u with
 | some x => (fo Γ1).bind fun (o, Γ2) => .ok (.t [.d x, o], Γ2)
 | none => .bad
theorem so_pair (ha : SE X XP mp a fa) (h : SO X XP mp b fo) (h1 : starEach [a, b] X.env = (false, eval a X.env) :: starEach [b] X.env) (h2 : starEach [b] X.env = [(false, eval b X.env)]) : SO X XP mp (.Tuple [a, b] kx pos) (fPair fa fo) := fun M0 F Γ ν σ H Q rs hs hp => by
 refine (pe_tup (pa_cons pe_self (pa_cons pe_self pa_nil h2) h1)).wp ?_
 refine ha M0 F Γ ν σ H _ rs hs (hp.seq.mono fun F1 Γ1 H1 u rs1 s1 h1 v hv => ?_)
 dsimp only at h1
 split at h1
 ·rename_i x ex
  have rx := hv.strong rs1 ex
  refine h M0 F1 Γ1 ν σ H1 _ rs1 hs ?_
  cases q : fo Γ1 with
  | bad => rw [q] at h1; exact h1.elim
  | exc x y => rw [q] at h1; exact h1
  | ok z =>
   obtain ⟨o, Γ2⟩ := z
   rw [q] at h1
   intro F2 H2 w rs2 s2
   refine ⟨by show 2 ≤ sizeLine; decide, fun p n => ?_⟩
   obtain ⟨r3, s3⟩ := rs2.pair n (rep_stp s2 rs1.al0 rx)
   exact h1 F2 _ _ r3 (s2.trans s3)
 ·exact h1.elim
noncomputable def isTup1 (Γ : Gv) (i : Nat) : Bool := match Γ[i]? with
 | some (some (.t _)) => true
 | _ => false
noncomputable def sAppT (i : Nat) (fk : EM FV) (w : IW) : SM := fun Γ => if isTup1 Γ i then (fk Γ).bind fun (u, Γ1) => match derf Γ1 u, Γ1[i]?, wD Γ1 w with
 | some (.int k), some (some (.t xs)), some x => match ixN xs.length k with
  | some j => match xs[j]? with
   | some (.l ys) => if ys.length < 1000000 then .ok (.next, Γ1.set i (some (.t (xs.set j (.l (ys ++ [.d x])))))) else .bad
   | _ => .bad
  | none => .bad
 | _, _, _ => .bad
 else .bad
theorem ss_appT {s i : Nat} {x : Str} {w : IW} (n : NmK X mp s i x) (hk : SE X XP mp b fb) (hx : PlainIx b) (hw : WOk X mp a w) (hst : starEach [a] X.env = [(false, eval a X.env)]) (hline : (p2.endLine == pos.line) = true) :
  SS X XP mp io (.Expr (.Call (.Attribute (.Subscript (.Name x p) b p3) "append" p2) [a] [] pos) pos') (sAppT i fb w) := fun M0 F Γ ν σ H D rs hs hl hp => by
 unfold sAppT at hp
 split at hp
 ·rename_i hw0
  obtain ⟨xs0, e0⟩ : ∃ xs, Γ[i]? = some (some (.t xs)) := by
   unfold isTup1 at hw0
   split at hw0
   ·rename_i xs q; exact ⟨xs, q⟩
   ·cases hw0
  obtain ⟨a0, vs0, en0, eh0, q0⟩ := tup_at rs e0
  refine (ps_expr (pe_bm PySem.F.plainAttrs_list PySem.F.slot_list_append PySem.F.type_list_append mt_append (pe_ix ix_tup (pe_var n.hN n.hv n.hd n.hcd) pe_self hx) (pa_cons pe_self pa_nil hst) rfl (by rw [hst]; rfl) hline hst rfl) rfl).wp ⟨.ref a0, hs s i _ n.hm en0, ?_⟩
  refine hk M0 F Γ ν σ H _ rs hs ((SPost.seq hs hl hp).mono fun F1 Γ1 H1 u rs1 s1 h1 vk ok => ?_)
  dsimp only at h1
  split at h1
  ·rename_i k xs y ek ex ey
   split at h1
   ·rename_i j ej
    split at h1
    ·rename_i ys eys
     split at h1
     ·rename_i hz
      cases ok.weak rs1 ek
      obtain ⟨a1, vs1, en1, eh1, q1⟩ := tup_at rs1 ex
      rw [en0] at en1
      cases en1
      obtain ⟨b1, us, g1, g2, g4, g5⟩ := mutInT rs1 ex en0 eh1 eys
      refine ⟨a0, vs1, k, .ref b1, rfl, rfl, SqT.of eh1, atI_of (by rw [q1.length]; exact ej) g1, ?_⟩
      refine .inl ⟨rfl, _, SqL.of g2⟩ |> fun z => ⟨z, ?_⟩
      obtain ⟨v, rv, hv⟩ := hw M0 F1 Γ1 ν σ H1 y rs1 hs ey
      refine hv _ ?_
      refine ⟨b1, us, v, rfl, rfl, g2, by have := sizeLine_eq; omega, ?_⟩
      obtain ⟨F2, rs2, s2⟩ := g5 v y rv
      exact h1 F2 ν σ _ rs2 s2 hs hl fun _ _ => rfl
     ·exact h1.elim
    ·exact h1.elim
   ·exact h1.elim
  ·exact h1.elim
 ·exact hp.elim
end
end L3
namespace L3
open PySem PySem.Spec PyProof.Rows L2
mutual
inductive IE where
 | var (s i : Nat)
 | frz (s i : Nat)
 | cint (i : Int)
 | cstr (x : Str)
 | cbool (b : Bool)
 | cnone
 | gint (x : Str) (i : Int)
 | gstr (x : Str) (z : Str)
 | tup (a : IL)
 | new (n : IN)
 | bin (op : Operator) (a b : IE)
 | cmp (op : CmpOp) (a b : IE)
 | chain (op op' : CmpOp) (a b c : IE)
 | not (a : IE)
 | neg (a : IE)
 | and (a b : IE)
 | or (a b : IE)
 | ite (c a b : IE)
 | ix (a b : IE)
 | len (a : IE)
 | int (a : IE)
 | all (a : IE)
 | tuple (a : IE)
 | isi (T : String) (a : IE)
 | min (a b : IE)
 | max (a b : IE)
 | call (o : IO)
 | callw (f : Str) (n : Nat) (a : IL)
 | sadd (a b : IE)
 | sin (a b : IE)
 | slen (a : IE)
 | str (a : IE)
 | join (z : Str) (a : IE)
 | six (a b : IE)
 | fstr (a : IJ)
 | ends (a b : IE)
 | sint (a : IE)
 | cutS (a : IE) (lo hi : IP)
inductive IL where
 | nil
 | cons (e : IE) (a : IL)
inductive IA where
 | nil
 | cons (e : IE) (a : IA)
 | io (s i : Nat) (a : IA)
 | tmp (n : IN)
inductive IN where
 | lst (a : IL)
 | cat (a b : IE)
 | list (e : IE)
 | comp (n k : Nat) (ix : List Nat) (N' : List Str) (t : IT) (src : II) (c : IC) (el : IE)
 | split (a b : IE)
inductive IP where
 | non
 | one (e : IE)
inductive II where
 | list (e : IE)
 | tup (e : IE)
 | range (e : IE)
 | chars (e : IE)
inductive IC where
 | yes
 | one (e : IE)
inductive IO where
 | dat (e : IE)
 | own (n : IN)
 | call (f : Str) (n : Nat) (a : IA)
 | move (s i : Nat)
 | pair (e : IE) (o : IO)
inductive IJ where
 | nil
 | con (z : Str) (r : IJ)
 | val (e : IE) (r : IJ)
end
noncomputable abbrev CF := Str → List OV → RF
noncomputable def fNo : EM Bool := fun _ => .bad
mutual
noncomputable def IE.ev (cf : CF) : IE → EM FV × EM Bool
 | .var _ i => (fVar i, fTru (fVar i))
 | .frz _ i => (fFrz i, fTru (fFrz i))
 | .cint i => (fC (.int i), fTru (fC (.int i)))
 | .cstr x => (fC (.str x), fTru (fC (.str x)))
 | .cbool b => (fC (.bool b), fTru (fC (.bool b)))
 | .cnone => (fC .none, fTru (fC .none))
 | .gint _ i => (fC (.int i), fTru (fC (.int i)))
 | .gstr _ z => (fC (.str z), fTru (fC (.str z)))
 | .tup a => (fTup (a.ev cf), fTru (fTup (a.ev cf)))
 | .new n => (fNew (n.ev cf), fTru (fNew (n.ev cf)))
 | .bin op a b => (fBin (binD op) (a.ev cf).1 (b.ev cf).1, fTru (fBin (binD op) (a.ev cf).1 (b.ev cf).1))
 | .cmp op a b => (fB (fCmp (cmpD op) (a.ev cf).1 (b.ev cf).1), fCmp (cmpD op) (a.ev cf).1 (b.ev cf).1)
 | .chain op op' a b c => (fB (fChain (cmpD op) (cmpD op') (a.ev cf).1 (b.ev cf).1 (c.ev cf).1), fChain (cmpD op) (cmpD op') (a.ev cf).1 (b.ev cf).1 (c.ev cf).1)
 | .not a => (fB (fNotT (fTru (a.ev cf).1)), fNotT (a.ev cf).2)
 | .neg a => (f1 gNeg (a.ev cf).1, fTru (f1 gNeg (a.ev cf).1))
 | .and a b => (fAndV (a.ev cf).1 (b.ev cf).1, fAndT (a.ev cf).2 (b.ev cf).2)
 | .or a b => (fOrV (a.ev cf).1 (b.ev cf).1, fOrT (a.ev cf).2 (b.ev cf).2)
 | .ite c a b => (fIf (c.ev cf).2 (a.ev cf).1 (b.ev cf).1, fNo)
 | .ix a b => (fIx (a.ev cf).1 (b.ev cf).1, fTru (fIx (a.ev cf).1 (b.ev cf).1))
 | .len a => (f1 gLen (a.ev cf).1, fTru (f1 gLen (a.ev cf).1))
 | .int a => (f1 gInt (a.ev cf).1, fTru (f1 gInt (a.ev cf).1))
 | .all a => (f1 gAll (a.ev cf).1, fTru (f1 gAll (a.ev cf).1))
 | .tuple a => (fTupC (a.ev cf).1, fTru (fTupC (a.ev cf).1))
 | .isi T a => (fIsi T (a.ev cf).1, fTru (fIsi T (a.ev cf).1))
 | .min a b => (f2 gMin (a.ev cf).1 (b.ev cf).1, fTru (f2 gMin (a.ev cf).1 (b.ev cf).1))
 | .max a b => (f2 gMax (a.ev cf).1 (b.ev cf).1, fTru (f2 gMax (a.ev cf).1 (b.ev cf).1))
 | .call o => (fOD (o.ev cf), fTru (fOD (o.ev cf)))
 | .callw f n a => (fCallW (cf f) (a.ev cf), fTru (fCallW (cf f) (a.ev cf)))
 | .sadd a b => (fBin gSadd (a.ev cf).1 (b.ev cf).1, fTru (fBin gSadd (a.ev cf).1 (b.ev cf).1))
 | .sin a b => (fB (fCmp gSin (a.ev cf).1 (b.ev cf).1), fCmp gSin (a.ev cf).1 (b.ev cf).1)
 | .slen a => (f1 gSlen (a.ev cf).1, fTru (f1 gSlen (a.ev cf).1))
 | .str a => (f1 gStr (a.ev cf).1, fTru (f1 gStr (a.ev cf).1))
 | .join z a => (f1 (gJoin z) (a.ev cf).1, fTru (f1 (gJoin z) (a.ev cf).1))
 | .six a b => (fSix (a.ev cf).1 (b.ev cf).1, fTru (fSix (a.ev cf).1 (b.ev cf).1))
 | .fstr a => (fFstr (a.ev cf), fTru (fFstr (a.ev cf)))
 | .ends a b => (fEnds (a.ev cf).1 (b.ev cf).1, fTru (fEnds (a.ev cf).1 (b.ev cf).1))
 | .sint a => (f1 gSint (a.ev cf).1, fTru (f1 gSint (a.ev cf).1))
 | .cutS a lo hi => (fCutS (a.ev cf).1 (lo.ev cf) (hi.ev cf), fTru (fCutS (a.ev cf).1 (lo.ev cf) (hi.ev cf)))
noncomputable def IL.ev (cf : CF) : IL → EM (List FV)
 | .nil => fNil
 | .cons e a => fCons (e.ev cf).1 (a.ev cf)
noncomputable def IA.ev (cf : CF) : IA → EM (List AV)
 | .nil => aNil
 | .cons e a => aCons (e.ev cf).1 (a.ev cf)
 | .io _ i a => aIo i (a.ev cf)
 | .tmp n => aTmp (n.ev cf)
noncomputable def IN.ev (cf : CF) : IN → EM (List PyData)
 | .lst a => fLst (a.ev cf)
 | .cat a b => fCat (a.ev cf).1 (b.ev cf).1
 | .list e => fListC (e.ev cf).1
 | .comp n k _ _ t src c el => fComp n k t (src.ev cf) (c.ev cf) (el.ev cf).1
 | .split a b => fSplit (a.ev cf).1 (b.ev cf).1
noncomputable def IP.ev (cf : CF) : IP → EM (Option Int)
 | .non => fNoE
 | .one e => fEnd (e.ev cf).1
noncomputable def II.ev (cf : CF) : II → EM (List PyData)
 | .list e => fSeqL (e.ev cf).1
 | .tup e => fSeqT (e.ev cf).1
 | .range e => fRange (e.ev cf).1
 | .chars e => fChars (e.ev cf).1
noncomputable def IC.ev (cf : CF) : IC → EM Bool
 | .yes => fYes
 | .one e => (e.ev cf).2
noncomputable def IO.ev (cf : CF) : IO → EM OV
 | .dat e => fD (e.ev cf).1
 | .own n => fOwn (n.ev cf)
 | .call f _ a => fCall (cf f) (a.ev cf)
 | .move _ i => fMove i
 | .pair e o => fPair (e.ev cf).1 (o.ev cf)
noncomputable def IJ.ev (cf : CF) : IJ → EM (List Str)
 | .nil => fPart0
 | .con z r => fPart (fC (.str z)) (r.ev cf)
 | .val e r => fPart (e.ev cf).1 (r.ev cf)
end
structure Wd where
 bi : List Str
 gi : List (Str × Int)
 gs : List (Str × Str)
 fl : List (Str × Nat)
 fx : List (Str × Nat)
 ex : List Str
 gd : List (Str × List (Str × Str))
noncomputable def notStar : Expr → Bool
 | .Starred .. => false
 | _ => true
noncomputable def plainT : Expr → Bool
 | .UnaryOp .Not _ _ => false
 | .BoolOp .. => false
 | .IfExp .. => false
 | .Compare .. => false
 | _ => true
noncomputable def notSlice : Expr → Bool
 | .Slice .. => false
 | _ => true
noncomputable def notSet : Expr → Bool
 | .Set .. => false
 | _ => true
noncomputable def isTup : Expr → Bool
 | .Tuple .. => true
 | _ => false
noncomputable def visB (sc : Scope) (x : Str) : Bool := decide (sc.names.lookup x = some .local) || decide (sc.names.lookup x = some .cell) || decide (sc.names.lookup x = some .free)
noncomputable def gloB (sc : Scope) (x : Str) : Bool := decide (sc.names.lookup x = some .globalImplicit)
noncomputable def nmB (sc : Scope) (N : List Str) (mp : List Nat) (s i : Nat) (x : Str) : Bool := decide (N[s]? = some x) && visB sc x && decide (mp[s]? = some i) && !(x == ("__debug__" : Str)) && !(x == ("__classdict__" : Str))
noncomputable def biB (W : Wd) (sc : Scope) (x y : Str) : Bool := decide (x = y) && gloB sc x && W.bi.contains x
noncomputable def okO {α : Type} (o : Option α) (f : α → Bool) : Bool := match o with
 | some a => f a
 | none => false
theorem okO_inv {α : Type} {o : Option α} {f : α → Bool} (h : okO o f = true) : ∃ a, o = some a ∧ f a = true := by
 cases o with
 | none => cases h
 | some a => exact ⟨a, rfl, h⟩
noncomputable def unName : Expr → Option (Str × Pos)
 | .Name x p => some (x, p)
 | _ => none
noncomputable def unCon : Expr → Option (Const × Nat × Pos)
 | .Constant c j p => some (c, j, p)
 | _ => none
noncomputable def cInt : Const → Option Int
 | .int i => some i
 | _ => none
noncomputable def cStr : Const → Option Str
 | .str i => some i
 | _ => none
noncomputable def cBool : Const → Option Bool
 | .bool i => some i
 | _ => none
noncomputable def cNone : Const → Bool
 | .none => true
 | _ => false
noncomputable def unTup : Expr → Option (List Expr × Nat × Pos)
 | .Tuple es n p => some (es, n, p)
 | _ => none
noncomputable def unLst : Expr → Option (List Expr × Pos)
 | .List es p => some (es, p)
 | _ => none
noncomputable def unBin : Expr → Option (Expr × Operator × Expr × Pos)
 | .BinOp x op y p => some (x, op, y, p)
 | _ => none
noncomputable def unCmp : Expr → Option (Expr × List CmpOp × List Expr × Pos)
 | .Compare x ops ys p => some (x, ops, ys, p)
 | _ => none
noncomputable def unUn : Expr → Option (UnaryOp × Expr × Pos)
 | .UnaryOp op x p => some (op, x, p)
 | _ => none
noncomputable def unBl : Expr → Option (BoolOp × List Expr × Pos)
 | .BoolOp op vs p => some (op, vs, p)
 | _ => none
noncomputable def unIfE : Expr → Option (Expr × Expr × Expr × Pos)
 | .IfExp z x y p => some (z, x, y, p)
 | _ => none
noncomputable def unSub : Expr → Option (Expr × Expr × Pos)
 | .Subscript x y p => some (x, y, p)
 | _ => none
noncomputable def unSli : Expr → Option (Option Expr × Option Expr × Option Expr × Pos)
 | .Slice l h s p => some (l, h, s, p)
 | _ => none
noncomputable def unCal : Expr → Option (Expr × List Expr × List Keyword × Pos)
 | .Call f xs ks q => some (f, xs, ks, q)
 | _ => none
noncomputable def unAtt : Expr → Option (Expr × Str × Pos)
 | .Attribute x f p => some (x, f, p)
 | _ => none
noncomputable def unLco : Expr → Option (Expr × List Comprehension × Scope × Pos)
 | .ListComp elt gens scope p => some (elt, gens, scope, p)
 | _ => none
theorem unName_inv {e : Expr} {x : Str} {p : Pos} (h : unName e = some (x, p)) : e = .Name x p := by cases e <;> cases h <;> rfl
theorem unCon_inv {e : Expr} {c : Const} {j : Nat} {p : Pos} (h : unCon e = some (c, j, p)) : e = .Constant c j p := by cases e <;> cases h <;> rfl
theorem cInt_inv {c : Const} {i : Int} (h : cInt c = some i) : c = .int i := by cases c <;> cases h <;> rfl
theorem cStr_inv {c : Const} {i : Str} (h : cStr c = some i) : c = .str i := by cases c <;> cases h <;> rfl
theorem cBool_inv {c : Const} {i : Bool} (h : cBool c = some i) : c = .bool i := by cases c <;> cases h <;> rfl
theorem cNone_inv {c : Const} (h : cNone c = true) : c = .none := by cases c <;> first | rfl | cases h
theorem unTup_inv {e : Expr} {es : List Expr} {n : Nat} {p : Pos} (h : unTup e = some (es, n, p)) : e = .Tuple es n p := by cases e <;> cases h <;> rfl
theorem unLst_inv {e : Expr} {es : List Expr} {p : Pos} (h : unLst e = some (es, p)) : e = .List es p := by cases e <;> cases h <;> rfl
theorem unBin_inv {e x y : Expr} {op : Operator} {p : Pos} (h : unBin e = some (x, op, y, p)) : e = .BinOp x op y p := by cases e <;> cases h <;> rfl
theorem unCmp_inv {e x : Expr} {ops : List CmpOp} {ys : List Expr} {p : Pos} (h : unCmp e = some (x, ops, ys, p)) : e = .Compare x ops ys p := by cases e <;> cases h <;> rfl
theorem unUn_inv {e x : Expr} {op : UnaryOp} {p : Pos} (h : unUn e = some (op, x, p)) : e = .UnaryOp op x p := by cases e <;> cases h <;> rfl
theorem unBl_inv {e : Expr} {op : BoolOp} {vs : List Expr} {p : Pos} (h : unBl e = some (op, vs, p)) : e = .BoolOp op vs p := by cases e <;> cases h <;> rfl
theorem unIfE_inv {e z x y : Expr} {p : Pos} (h : unIfE e = some (z, x, y, p)) : e = .IfExp z x y p := by cases e <;> cases h <;> rfl
theorem unSub_inv {e x y : Expr} {p : Pos} (h : unSub e = some (x, y, p)) : e = .Subscript x y p := by cases e <;> cases h <;> rfl
theorem unSli_inv {e : Expr} {l u s : Option Expr} {p : Pos} (h : unSli e = some (l, u, s, p)) : e = .Slice l u s p := by cases e <;> cases h <;> rfl
theorem unCal_inv {e f : Expr} {xs : List Expr} {ks : List Keyword} {p : Pos} (h : unCal e = some (f, xs, ks, p)) : e = .Call f xs ks p := by cases e <;> cases h <;> rfl
theorem unAtt_inv {e x : Expr} {f : Str} {p : Pos} (h : unAtt e = some (x, f, p)) : e = .Attribute x f p := by cases e <;> cases h <;> rfl
theorem unLco_inv {e elt : Expr} {gens : List Comprehension} {scope : Scope} {p : Pos} (h : unLco e = some (elt, gens, scope, p)) : e = .ListComp elt gens scope p := by cases e <;> cases h <;> rfl
noncomputable def unN (e : Expr) : Option (Str × Pos × List Expr × Pos) := (unCal e).bind fun (f, xs, ks, q) => match ks with
 | [] => (unName f).map fun (x, p) => (x, p, xs, q)
 | _ :: _ => none
theorem unN_inv {e : Expr} {f : Str} {p : Pos} {xs : List Expr} {q : Pos} (h : unN e = some (f, p, xs, q)) : e = .Call (.Name f p) xs [] q := by
 unfold unN at h
 cases e1 : unCal e with
 | none => rw [e1] at h; cases h
 | some z =>
  obtain ⟨g, ys, ks, q'⟩ := z
  rw [e1] at h
  cases ks with
  | cons _ _ => cases h
  | nil =>
   cases e2 : unName g with
   | none => simp [e2] at h
   | some z =>
    obtain ⟨x, p'⟩ := z
    simp [e2] at h
    obtain ⟨rfl, rfl, rfl, rfl⟩ := h
    rw [unCal_inv e1, unName_inv e2]
noncomputable def one1 {α : Type} : List α → Option α
 | [x] => some x
 | _ => none
theorem one1_inv {α : Type} {l : List α} {x : α} (h : one1 l = some x) : l = [x] := by
 match l, h with
 | [_], h => cases h; rfl
noncomputable def two2 {α : Type} : List α → Option (α × α)
 | [x, y] => some (x, y)
 | _ => none
theorem two2_inv {α : Type} {l : List α} {x y : α} (h : two2 l = some (x, y)) : l = [x, y] := by
 match l, h with
 | [_, _], h => cases h; rfl
noncomputable def un1 (e : Expr) : Option (Str × Pos × Expr × Pos) := (unN e).bind fun (f, p, xs, q) => (one1 xs).map fun x => (f, p, x, q)
theorem un1_inv {e : Expr} {f : Str} {p : Pos} {x : Expr} {q : Pos} (h : un1 e = some (f, p, x, q)) : e = .Call (.Name f p) [x] [] q := by
 unfold un1 at h
 cases e1 : unN e with
 | none => rw [e1] at h; cases h
 | some z =>
  obtain ⟨g, p', xs, q'⟩ := z
  cases e2 : one1 xs with
  | none => simp [e1, e2] at h
  | some y =>
   simp [e1, e2] at h
   obtain ⟨rfl, rfl, rfl, rfl⟩ := h
   rw [unN_inv e1, one1_inv e2]
noncomputable def un2 (e : Expr) : Option (Str × Pos × Expr × Expr × Pos) := (unN e).bind fun (f, p, xs, q) => (two2 xs).map fun (x, y) => (f, p, x, y, q)
theorem un2_inv {e : Expr} {f : Str} {p : Pos} {x y : Expr} {q : Pos} (h : un2 e = some (f, p, x, y, q)) : e = .Call (.Name f p) [x, y] [] q := by
 unfold un2 at h
 cases e1 : unN e with
 | none => rw [e1] at h; cases h
 | some z =>
  obtain ⟨g, p', xs, q'⟩ := z
  cases e2 : two2 xs with
  | none => simp [e1, e2] at h
  | some y =>
   obtain ⟨y1, y2⟩ := y
   simp [e1, e2] at h
   obtain ⟨rfl, rfl, rfl, rfl, rfl⟩ := h
   rw [unN_inv e1, two2_inv e2]
noncomputable def unMe (e : Expr) : Option (Str × Pos × Str × Pos × List Expr × Pos) := (unCal e).bind fun (f, xs, ks, q) => match ks with
 | [] => (unAtt f).bind fun (x, m, p2) => (unName x).map fun (y, p) => (y, p, m, p2, xs, q)
 | _ :: _ => none
theorem unMe_inv {e : Expr} {x f : Str} {p p2 : Pos} {xs : List Expr} {q : Pos} (h : unMe e = some (x, p, f, p2, xs, q)) : e = .Call (.Attribute (.Name x p) f p2) xs [] q := by
 unfold unMe at h
 cases e1 : unCal e with
 | none => rw [e1] at h; cases h
 | some z =>
  obtain ⟨g, ys, ks, q'⟩ := z
  rw [e1] at h
  cases ks with
  | cons _ _ => cases h
  | nil =>
   cases e2 : unAtt g with
   | none => simp [e2] at h
   | some z =>
    obtain ⟨y, m, p3⟩ := z
    cases e3 : unName y with
    | none => simp [e2, e3] at h
    | some z =>
     obtain ⟨y', p'⟩ := z
     simp [e2, e3] at h
     obtain ⟨rfl, rfl, rfl, rfl, rfl, rfl⟩ := h
     rw [unCal_inv e1, unAtt_inv e2, unName_inv e3]
noncomputable def unCut (e : Expr) : Option (Expr × Option Expr × Option Expr × Pos × Pos) := (unSub e).bind fun (x, y, q) => (unSli y).bind fun (l, h, s, p) => match s with
 | none => some (x, l, h, p, q)
 | some _ => none
theorem unCut_inv {e x : Expr} {l h : Option Expr} {p q : Pos} (hh : unCut e = some (x, l, h, p, q)) : e = .Subscript x (.Slice l h none p) q := by
 unfold unCut at hh
 cases e1 : unSub e with
 | none => rw [e1] at hh; cases hh
 | some z =>
  obtain ⟨x', y, q'⟩ := z
  cases e2 : unSli y with
  | none => simp [e1, e2] at hh
  | some z =>
   obtain ⟨l', h', s, p'⟩ := z
   cases s with
   | some _ => simp [e1, e2] at hh
   | none =>
    simp [e1, e2] at hh
    obtain ⟨rfl, rfl, rfl, rfl, rfl⟩ := hh
    rw [unSub_inv e1, unSli_inv e2]
noncomputable def unLC (e : Expr) : Option (Expr × Expr × Expr × List Expr × Scope × Pos) := (unLco e).bind fun (elt, gens, scope, p) => (one1 gens).bind fun g => if g.is_async = 0 then some (elt, g.target, g.iter, g.ifs, scope, p) else none
theorem unLC_inv {e elt tg iter : Expr} {ifs : List Expr} {scope : Scope} {p : Pos} (h : unLC e = some (elt, tg, iter, ifs, scope, p)) : e = .ListComp elt [⟨tg, iter, ifs, 0⟩] scope p := by
 unfold unLC at h
 cases e1 : unLco e with
 | none => rw [e1] at h; cases h
 | some z =>
  obtain ⟨a1, a2, a3, a4⟩ := z
  cases e2 : one1 a2 with
  | none => simp [e1, e2] at h
  | some g =>
   obtain ⟨g1, g2, g3, g4⟩ := g
   by_cases hz : g4 = 0
   ·subst hz
    simp [e1, e2] at h
    obtain ⟨rfl, rfl, rfl, rfl, rfl, rfl⟩ := h
    rw [unLco_inv e1, one1_inv e2]
   ·simp [e1, e2, hz] at h
noncomputable def unAnd (op : BoolOp) (e : Expr) : Option (Expr × Expr) := (unBl e).bind fun (o, vs, p) => if o = op then (match vs with
 | x :: y :: [] => some (x, y)
 | x :: y :: z :: r => some (x, .BoolOp op (y :: z :: r) p)
 | _ => none) else none
theorem unAnd_inv {op : BoolOp} {e x z : Expr} (h : unAnd op e = some (x, z)) : (∃ p, e = .BoolOp op [x, z] p) ∨ ∃ y w r p, e = .BoolOp op (x :: y :: w :: r) p ∧ z = .BoolOp op (y :: w :: r) p := by
 unfold unAnd at h
 cases e1 : unBl e with
 | none => rw [e1] at h; cases h
 | some q =>
  obtain ⟨o, vs, p⟩ := q
  rw [unBl_inv e1]
  by_cases ho : o = op
  ·subst ho
   match vs with
   | [] => simp [e1] at h
   | [_] => simp [e1] at h
   | [a, b] =>
    simp [e1] at h
    obtain ⟨rfl, rfl⟩ := h
    exact .inl ⟨p, rfl⟩
   | a :: b :: c :: r =>
    simp [e1] at h
    obtain ⟨rfl, rfl⟩ := h
    exact .inr ⟨b, c, r, p, rfl, rfl⟩
  ·simp [e1, ho] at h
mutual
noncomputable def chkT (sc : Scope) (N : List Str) (mp : List Nat) (lo : Nat) : IT → Expr → Bool
 | .nm s i, .Name x _ => decide (N[s]? = some x) && decide (mp[s]? = some i) && decide (lo ≤ i) && (decide (sc.names.lookup x = some .local) || decide (sc.names.lookup x = some .cell))
 | .tp ts, .Tuple es _ _ => chkTs sc N mp lo ts es
 | _, _ => false
noncomputable def chkTs (sc : Scope) (N : List Str) (mp : List Nat) (lo : Nat) : ITs → List Expr → Bool
 | .nil, [] => true
 | .cons t ts, e :: es => notStar e && chkT sc N mp lo t e && chkTs sc N mp lo ts es
 | _, _ => false
end
noncomputable def unJs : Expr → Option (List Expr × Pos)
 | .JoinedStr vs p => some (vs, p)
 | _ => none
theorem unJs_inv {e : Expr} {vs : List Expr} {p : Pos} (h : unJs e = some (vs, p)) : e = .JoinedStr vs p := by cases e <;> cases h <;> rfl
noncomputable def unFv : Expr → Option (Expr × Pos)
 | .FormattedValue v c none p => if c = -1 then some (v, p) else none
 | _ => none
theorem unFv_inv {e v : Expr} {p : Pos} (h : unFv e = some (v, p)) : e = .FormattedValue v (-1) none p := by
 cases e <;> try (cases h; done)
 rename_i v' c sp p'
 cases sp with
 | some _ => cases h
 | none =>
  simp only [unFv] at h
  split at h
  ·rename_i hc; subst hc; cases h; rfl
  ·cases h
noncomputable def unJn (e : Expr) : Option (Str × Nat × Pos × Str × Pos × Expr × Pos) := (unCal e).bind fun (f, xs, ks, q) => match ks with
 | [] => (unAtt f).bind fun (x, m, p2) => (unCon x).bind fun (c, j, p1) => (cStr c).bind fun z => (one1 xs).map fun a => (z, j, p1, m, p2, a, q)
 | _ :: _ => none
theorem unJn_inv {e a : Expr} {z m : Str} {j : Nat} {p1 p2 q : Pos} (h : unJn e = some (z, j, p1, m, p2, a, q)) : e = .Call (.Attribute (.Constant (.str z) j p1) m p2) [a] [] q := by
 unfold unJn at h
 cases e1 : unCal e with
 | none => rw [e1] at h; cases h
 | some w =>
  obtain ⟨f, xs, ks, q'⟩ := w
  rw [e1] at h
  cases ks with
  | cons _ _ => cases h
  | nil =>
   cases e2 : unAtt f with
   | none => simp [e2] at h
   | some w =>
    obtain ⟨x, m', p2'⟩ := w
    cases e3 : unCon x with
    | none => simp [e2, e3] at h
    | some w =>
     obtain ⟨c, j', p1'⟩ := w
     cases e4 : cStr c with
     | none => simp [e2, e3, e4] at h
     | some z' =>
      cases e5 : one1 xs with
      | none => simp [e2, e3, e4, e5] at h
      | some a' =>
       simp [e2, e3, e4, e5] at h
       obtain ⟨rfl, rfl, rfl, rfl, rfl, rfl, rfl⟩ := h
       rw [unCal_inv e1, unAtt_inv e2, unCon_inv e3, cStr_inv e4, one1_inv e5]
noncomputable def plainO : Expr → Bool
 | .Name .. => true
 | .Subscript .. => true
 | _ => false
theorem base_of {o : Expr} {nm : Str} {env : Env} (h : plainO o = true) : attributeBase o nm env (eval o env) = eval o env := by
 cases o <;> first | rfl | (simp [plainO] at h)
noncomputable def unMg (e : Expr) : Option (Expr × Str × Pos × Expr × Pos) := (unCal e).bind fun (f, xs, ks, q) => match ks with
 | [] => (unAtt f).bind fun (x, m, p2) => (one1 xs).map fun a => (x, m, p2, a, q)
 | _ :: _ => none
theorem unMg_inv {e o a : Expr} {m : Str} {p2 q : Pos} (h : unMg e = some (o, m, p2, a, q)) : e = .Call (.Attribute o m p2) [a] [] q := by
 unfold unMg at h
 cases e1 : unCal e with
 | none => rw [e1] at h; cases h
 | some w =>
  obtain ⟨f, xs, ks, q'⟩ := w
  rw [e1] at h
  cases ks with
  | cons _ _ => cases h
  | nil =>
   cases e2 : unAtt f with
   | none => simp [e2] at h
   | some w =>
    obtain ⟨x, m', p2'⟩ := w
    cases e5 : one1 xs with
    | none => simp [e2, e5] at h
    | some a' =>
     simp [e2, e5] at h
     obtain ⟨rfl, rfl, rfl, rfl, rfl⟩ := h
     rw [unCal_inv e1, unAtt_inv e2, one1_inv e5]
mutual
noncomputable def IE.chk (W : Wd) (sc : Scope) (N : List Str) (mp : List Nat) (m : Nat) : IE → Expr → Bool
 | .var s i, e => okO (unName e) fun x => nmB sc N mp s i x.1
 | .frz s i, e => okO (unName e) fun x => nmB sc N mp s i x.1
 | .cint i, e => okO (unCon e) fun c => okO (cInt c.1) fun j => decide (i = j)
 | .cstr x, e => okO (unCon e) fun c => okO (cStr c.1) fun y => decide (x = y)
 | .cbool b, e => okO (unCon e) fun c => okO (cBool c.1) fun y => decide (b = y)
 | .cnone, e => okO (unCon e) fun c => cNone c.1
 | .gint x i, e => okO (unName e) fun y => decide (x = y.1) && gloB sc x && W.gi.contains (x, i) && !(x == ("__debug__" : Str))
 | .gstr x i, e => okO (unName e) fun y => decide (x = y.1) && gloB sc x && W.gs.contains (x, i) && !(x == ("__debug__" : Str))
 | .tup a, e => okO (unTup e) fun es => a.chk W sc N mp m es.1
 | .new n, e => plainT e && n.chk W sc N mp m e
 | .bin op a b, e => okO (unBin e) fun z => decide (op = z.2.1) && a.chk W sc N mp m z.1 && b.chk W sc N mp m z.2.2.1
 | .cmp op a b, e => okO (unCmp e) fun z => okO (one1 z.2.1) fun op' => okO (one1 z.2.2.1) fun y => decide (op = op') && notSet y && a.chk W sc N mp m z.1 && b.chk W sc N mp m y
 | .chain op1 op2 a b c, e => okO (unCmp e) fun z => okO (two2 z.2.1) fun o => okO (two2 z.2.2.1) fun y => decide (op1 = o.1) && decide (op2 = o.2) && notSet y.2 && a.chk W sc N mp m z.1 && b.chk W sc N mp m y.1 && c.chk W sc N mp m y.2
 | .not a, e => okO (unUn e) fun z => decide (z.1 = .Not) && a.chk W sc N mp m z.2.1
 | .neg a, e => okO (unUn e) fun z => decide (z.1 = .USub) && a.chk W sc N mp m z.2.1
 | .and a b, e => okO (unAnd .And e) fun z => a.chk W sc N mp m z.1 && b.chk W sc N mp m z.2
 | .or a b, e => okO (unAnd .Or e) fun z => a.chk W sc N mp m z.1 && b.chk W sc N mp m z.2
 | .ite c a b, e => okO (unIfE e) fun z => c.chk W sc N mp m z.1 && a.chk W sc N mp m z.2.1 && b.chk W sc N mp m z.2.2.1
 | .ix a b, e => okO (unSub e) fun z => notSlice z.2.1 && a.chk W sc N mp m z.1 && b.chk W sc N mp m z.2.1
 | .len a, e => match un1 e with
  | some (f, _, x, _) => biB W sc f "len" && notStar x && a.chk W sc N mp m x
  | none => false
 | .int a, e => match un1 e with
  | some (f, _, x, _) => biB W sc f "int" && notStar x && a.chk W sc N mp m x
  | none => false
 | .all a, e => match un1 e with
  | some (f, _, x, _) => biB W sc f "all" && notStar x && a.chk W sc N mp m x
  | none => false
 | .tuple a, e => match un1 e with
  | some (f, _, x, _) => biB W sc f "tuple" && notStar x && a.chk W sc N mp m x
  | none => false
 | .isi T a, e => match un2 e with
  | some (f, _, x, y, _) => biB W sc f "isinstance" && notStar x && (T == "int" || T == "bool" || T == "list" || T == "tuple" || T == "str") && okO (unName y) (fun z => biB W sc z.1 (Str.ofString T)) && a.chk W sc N mp m x
  | none => false
 | .min a b, e => match un2 e with
  | some (f, _, x, y, _) => biB W sc f "min" && notStar x && notStar y && a.chk W sc N mp m x && b.chk W sc N mp m y
  | none => false
 | .max a b, e => match un2 e with
  | some (f, _, x, y, _) => biB W sc f "max" && notStar x && notStar y && a.chk W sc N mp m x && b.chk W sc N mp m y
  | none => false
 | .call o, e => plainT e && o.chk W sc N mp m e
 | .callw f n a, e => match unN e with
  | some (g, _, xs, _) => decide (f = g) && gloB sc f && W.fl.contains (f, n) && !(f == ("__debug__" : Str)) && !xs.isEmpty && xs.all notStar && a.chk W sc N mp m xs
  | none => false
 | .sadd a b, e => okO (unBin e) fun z => decide (z.2.1 = .Add) && a.chk W sc N mp m z.1 && b.chk W sc N mp m z.2.2.1
 | .sin a b, e => okO (unCmp e) fun z => okO (one1 z.2.1) fun op => okO (one1 z.2.2.1) fun y => decide (op = .In) && notSet y && a.chk W sc N mp m z.1 && b.chk W sc N mp m y
 | .slen a, e => match un1 e with
  | some (f, _, x, _) => biB W sc f "len" && notStar x && a.chk W sc N mp m x
  | none => false
 | .str a, e => match un1 e with
  | some (f, _, x, _) => biB W sc f "str" && notStar x && a.chk W sc N mp m x
  | none => false
 | .join z a, e => okO (unJn e) fun y => decide (z = y.1) && decide (y.2.2.2.1 = "join") && notStar y.2.2.2.2.2.1 && (y.2.2.2.2.1.endLine == y.2.2.2.2.2.2.line) && a.chk W sc N mp m y.2.2.2.2.2.1
 | .six a b, e => okO (unSub e) fun z => notSlice z.2.1 && a.chk W sc N mp m z.1 && b.chk W sc N mp m z.2.1
 | .ends a b, e => okO (unMg e) fun z => plainO z.1 && decide (z.2.1 = "endswith") && notStar z.2.2.2.1 && (z.2.2.1.endLine == z.2.2.2.2.line) && a.chk W sc N mp m z.1 && b.chk W sc N mp m z.2.2.2.1
 | .sint a, e => match un1 e with
  | some (f, _, x, _) => biB W sc f "int" && notStar x && a.chk W sc N mp m x
  | none => false
 | .cutS a lo hi, e => match unCut e with
  | some (x, l, h, _, _) => a.chk W sc N mp m x && lo.chk W sc N mp m l && hi.chk W sc N mp m h
  | none => false
 | .fstr a, e => okO (unJs e) fun z => decide (2 ≤ z.1.length ∧ z.1.length ≤ 100) && a.chk W sc N mp m z.1
noncomputable def IL.chk (W : Wd) (sc : Scope) (N : List Str) (mp : List Nat) (m : Nat) : IL → List Expr → Bool
 | .nil, [] => true
 | .cons e a, x :: xs => notStar x && e.chk W sc N mp m x && a.chk W sc N mp m xs
 | _, _ => false
noncomputable def IA.chk (W : Wd) (sc : Scope) (N : List Str) (mp : List Nat) (m : Nat) : IA → List Expr → Bool
 | .nil, [] => true
 | .cons e a, x :: xs => notStar x && e.chk W sc N mp m x && a.chk W sc N mp m xs
 | .io s i a, x :: xs => okO (unName x) (fun z => nmB sc N mp s i z.1) && a.chk W sc N mp m xs
 | .tmp n, [x] => notStar x && n.chk W sc N mp m x
 | _, _ => false
noncomputable def IN.chk (W : Wd) (sc : Scope) (N : List Str) (mp : List Nat) (m : Nat) : IN → Expr → Bool
 | .lst a, e => okO (unLst e) fun z => a.chk W sc N mp m z.1
 | .cat a b, e => okO (unBin e) fun z => decide (z.2.1 = .Add) && a.chk W sc N mp m z.1 && b.chk W sc N mp m z.2.2.1
 | .list e, y => match un1 y with
  | some (f, _, x, _) => biB W sc f "list" && notStar x && e.chk W sc N mp m x
  | none => false
 | .comp n k ix N' t src c el, e => match unLC e with
  | some (elt, tg, iter, ifs, scope, _) => decide (n = m) && cscOk sc N scope N' k ix && decide (mpC mp n k ix).Nodup && ix.all (fun i => match mp[i]? with
   | some j => decide (j < n)
   | none => false) && notSet iter && src.chk W sc N mp m iter tg && chkT scope N' (mpC mp n k ix) n t tg && c.chk W scope N' (mpC mp n k ix) (n + k) ifs && el.chk W scope N' (mpC mp n k ix) (n + k) elt
  | none => false
 | .split a b, e => okO (unMg e) fun z => plainO z.1 && decide (z.2.1 = "split") && notStar z.2.2.2.1 && (z.2.2.1.endLine == z.2.2.2.2.line) && a.chk W sc N mp m z.1 && b.chk W sc N mp m z.2.2.2.1
noncomputable def IP.chk (W : Wd) (sc : Scope) (N : List Str) (mp : List Nat) (m : Nat) : IP → Option Expr → Bool
 | .non, none => true
 | .one e, some x => e.chk W sc N mp m x
 | _, _ => false
noncomputable def II.chk (W : Wd) (sc : Scope) (N : List Str) (mp : List Nat) (m : Nat) : II → Expr → Expr → Bool
 | .list e, x, _ => e.chk W sc N mp m x
 | .tup e, x, _ => e.chk W sc N mp m x
 | .range e, y, _ => match un1 y with
  | some (f, _, x, _) => biB W sc f "range" && notStar x && e.chk W sc N mp m x
  | none => false
 | .chars e, x, _ => e.chk W sc N mp m x
noncomputable def IC.chk (W : Wd) (sc : Scope) (N : List Str) (mp : List Nat) (m : Nat) : IC → List Expr → Bool
 | .yes, [] => true
 | .one e, [x] => e.chk W sc N mp m x
 | _, _ => false
noncomputable def IO.chk (W : Wd) (sc : Scope) (N : List Str) (mp : List Nat) (m : Nat) : IO → Expr → Bool
 | .dat e, x => e.chk W sc N mp m x
 | .own n, x => n.chk W sc N mp m x
 | .call f n a, e => match unN e with
  | some (g, _, xs, _) => decide (f = g) && gloB sc f && W.fl.contains (f, n) && !(f == ("__debug__" : Str)) && xs.all notStar && a.chk W sc N mp m xs
  | none => false
 | .move s i, e => okO (unName e) fun x => nmB sc N mp s i x.1
 | .pair a o, e => okO (unTup e) fun z => okO (two2 z.1) fun x => notStar x.1 && notStar x.2 && a.chk W sc N mp m x.1 && o.chk W sc N mp m x.2
noncomputable def IJ.chk (W : Wd) (sc : Scope) (N : List Str) (mp : List Nat) (m : Nat) : IJ → List Expr → Bool
 | .nil, [] => true
 | .con z r, x :: xs => okO (unCon x) (fun c => okO (cStr c.1) fun y => decide (z = y)) && decide (z.length ≤ 10000) && r.chk W sc N mp m xs
 | .val e r, x :: xs => okO (unFv x) (fun v => e.chk W sc N mp m v.1) && r.chk W sc N mp m xs
 | _, _ => false
end
end L3
set_option maxHeartbeats 4000000
namespace L3
open PySem PySem.Spec PyProof.Rows L2
structure XSc (X : Cx) (sc : Scope) (N : List Str) : Prop where
 hN : X.N = N
 vis : ∀ x, visB sc x = true → Vis X.env.scope x
 loc : ∀ x, sc.names.lookup x = some .local → X.env.scope.names.lookup x = some .local
 cel : ∀ x, sc.names.lookup x = some .cell → X.env.scope.names.lookup x = some .cell ∧ X.fn x = true
 fre : ∀ x, sc.names.lookup x = some .free → X.env.scope.names.lookup x = some .cell ∨ X.env.scope.names.lookup x = some .free
 glo : ∀ x, gloB sc x = true → Gl X x
structure XW (X : Cx) (cf : CF) (W : Wd) (k : Nat) : Prop where
 bi : ∀ x, W.bi.contains x = true → X.mg x = none
 gi : ∀ x i, W.gi.contains (x, i) = true → ∃ t, X.mg x = some (.int i t)
 gs : ∀ x i, W.gs.contains (x, i) = true → ∃ t, X.mg x = some (.str i t)
 fn : ∀ x n, W.fl.contains (x, n) = true → Kn X.prog X.w X.K X.mg X.base CX0 x k (spI n (cf x)) ∧ ∀ args r outs, cf x args = .ok r outs → args.length = n
 rm : Room k X.A
 hk : 1 ≤ k
 calm : X.calm = true
 fx : ∀ x n, W.fx.contains (x, n) = true → Kn X.prog X.w X.K X.mg X.base (CX1 X.prog X.w) x k (spX X.mg n (cf x)) ∧ ∀ args, cf x args ≠ .bad → args.length = n
 ex : ∀ x, W.ex.contains x = true → ∃ C, X.mg x = some (.ref C) ∧ PySem.W.excIn X.K C bmV "ValueError.__new__" = true
 mr : ∀ x C y C2, W.ex.contains x = true → X.mg x = some (.ref C) → W.ex.contains y = true → X.mg y = some (.ref C2) → (mroIn X.K C).contains (.ref C2) = decide (x = y)
 gd : ∀ x kf, W.gd.contains (x, kf) = true → GD X.w X.K X.mg x kf
theorem star_of {e : Expr} {es : List Expr} {env : Env} (h : notStar e = true) : starEach (e :: es) env = (false, eval e env) :: starEach es env := by
 cases e <;> first | rfl | (simp [notStar] at h)
theorem star_all {es : List Expr} {env : Env} : es.all notStar = true → (starEach es env).any (·.1) = false := by
 induction es with
 | nil => intro; rfl
 | cons e es ih =>
  intro h
  rw [List.all_cons, Bool.and_eq_true] at h
  rw [star_of h.1, List.any_cons, ih h.2]; rfl
theorem backTo_any {pos : Pos} : ∀ {l : List (Bool × Sem Value)}, l.any (·.1) = false → (backTo pos l).any (·.1) = false
 | [], _ => rfl
 | (b, t) :: r, h => by
  rw [List.any_cons, Bool.or_eq_false_iff] at h
  show ((b, _) :: backTo pos r).any (·.1) = false
  rw [List.any_cons, backTo_any h.2]
  have hb : b = false := h.1
  rw [hb]; rfl
theorem plainIx_of {e : Expr} (h : notSlice e = true) : PlainIx e := fun o i => by
 cases e <;> first | rfl | (simp [notSlice] at h)
theorem folded_of {e : Expr} {env : Env} (h : notSet e = true) (x : Value) : foldedSetIterable e env x = pure x := by
 cases e <;> first | rfl | (simp [notSet] at h)
theorem marks_of {e : Expr} (op : CmpOp) (h : notSet e = true) : behindInMarks op e = false := by
 cases e <;> first | rfl | (simp [notSet] at h)
theorem lmarks_of {e b : Expr} (op op' : CmpOp) (h : notSet e = true) : lastMarks [op, op'] [b, e] = false := marks_of op' h
theorem strne {x y : Str} (h : (!(x == y)) = true) : (x == y) = false := by simpa using h
section
variable {X : Cx} {XP : XPT} {cf : CF} {W : Wd} {k : Nat} {sc : Scope} {N : List Str} {mp : List Nat} {m : Nat}
theorem nm_of {s i : Nat} {x : Str} (S : XSc X sc N) (h : nmB sc N mp s i x = true) : NmK X mp s i x := by
 unfold nmB at h
 simp only [Bool.and_eq_true, decide_eq_true_eq] at h
 obtain ⟨⟨⟨⟨h1, h2⟩, h3⟩, h4⟩, h5⟩ := h
 exact ⟨by rw [S.hN]; exact h1, S.vis x h2, h3, strne h4, strne h5⟩
theorem bi_of {x y : Str} {v : Value} (S : XSc X sc N) (T : XW X cf W k) (h : biB W sc x y = true) (hb : bootBuiltins y = some v) (hn : y ≠ "__name__") (hd : (y == ("__debug__" : Str)) = false) : BiK X x v := by
 unfold biB at h
 simp only [Bool.and_eq_true, decide_eq_true_eq] at h
 obtain ⟨⟨h1, h2⟩, h3⟩ := h
 subst h1
 exact ⟨S.glo x h2, T.bi x h3, hb, hn, hd⟩
theorem lookup_map2 {f : Str → NameKind → NameKind} : ∀ {names : List (Str × NameKind)} {x : Str}, (names.map fun (n, k) => (n, f n k)).lookup x = (names.lookup x).map (f x)
 | [], _ => rfl
 | (n, k) :: r, x => by
  rw [List.map_cons]
  cases hx : x == n with
  | true => rw [List.lookup_cons, List.lookup_cons, hx]; rw [eq_of_beq hx]; rfl
  | false => rw [List.lookup_cons, List.lookup_cons, hx]; exact lookup_map2
theorem relabel_look {scope : Scope} {env : Env} {x : Str} : (relabel scope env).names.lookup x = (scope.names.lookup x).map fun k => if (k == .free && env.scope.kind == ScopeKind.function && env.kindOf x == some NameKind.cell) then .cell else k := by
 unfold relabel
 have e : (scope.names.map fun (n, k) => if (k == NameKind.free && env.scope.kind == ScopeKind.function && env.kindOf n == some NameKind.cell) then (n, NameKind.cell) else (n, k)) =
   scope.names.map fun (n, k) => (n, (fun n k => if (k == NameKind.free && env.scope.kind == ScopeKind.function && env.kindOf n == some NameKind.cell) then NameKind.cell else k) n k) := by
  apply List.map_congr_left
  rintro ⟨n, k⟩ _
  dsimp only
  split <;> rfl
 rw [e]
 exact lookup_map2 (f := fun n k => if (k == NameKind.free && env.scope.kind == ScopeKind.function && env.kindOf n == some NameKind.cell) then NameKind.cell else k)
theorem XSc.comp {scope : Scope} {N' : List Str} {k : Nat} {ix : List Nat} {psc : Scope} (S : CSc psc N scope N' k ix) (cl : List (Str × Addr)) (C : Addr) (s2 : Shared) (H2 : Hp) (fp : List Addr) : XSc (X.comp N' scope cl C s2 H2 fp) scope N' where
 hN := rfl
 vis x h := by
  unfold visB at h
  simp only [Bool.or_eq_true, decide_eq_true_eq] at h
  show Vis (relabel scope X.env) x
  unfold Vis
  rw [relabel_look]
  rcases h with (h | h) | h
  ·rw [h]; exact .inl rfl
  ·rw [h]; exact .inr (.inl rfl)
  ·rw [h]
   simp only [Option.map_some]
   split
   ·exact .inr (.inl rfl)
   ·exact .inr (.inr rfl)
 loc x h := by
  show (relabel scope X.env).names.lookup x = _
  rw [relabel_look, h]; rfl
 cel x h := by
  refine ⟨?_, decide_eq_true h⟩
  show (relabel scope X.env).names.lookup x = _
  rw [relabel_look, h]; rfl
 fre x h := by
  show (relabel scope X.env).names.lookup x = _ ∨ (relabel scope X.env).names.lookup x = _
  rw [relabel_look, h]
  simp only [Option.map_some]
  split
  ·exact .inl rfl
  ·exact .inr rfl
 glo x h := by
  unfold gloB at h
  simp only [decide_eq_true_eq] at h
  show (relabel scope X.env).names.lookup x = _
  rw [relabel_look, h]; rfl
theorem XW.comp (T : XW X cf W k) {N' : List Str} {scope : Scope} (cl : List (Str × Addr)) (C : Addr) (s2 : Shared) (H2 : Hp) (fp : List Addr) : XW (X.comp N' scope cl C s2 H2 fp) cf W k := ⟨T.bi, T.gi, T.gs, T.fn, T.rm, T.hk, T.calm, T.fx, T.ex, T.mr, T.gd⟩
theorem csc_of {scope : Scope} {N' : List Str} {k : Nat} {ix : List Nat} (S : XSc X sc N) (h : CSc sc N scope N' k ix) : CSc X.env.scope X.N scope N' k ix :=
 ⟨h.kind, h.cel, h.loc, fun y hy e => by
  rcases h.fre y hy e with z | z
  ·exact .inl (S.cel _ z).1
  ·exact S.fre _ z, h.len, h.nd, fun j i e => by
  rw [S.hN]; exact h.cap j i e⟩
theorem Room.at1 (T : XW X cf W k) : Room 1 X.A := T.rm.mono T.hk
theorem Room.atk (T : XW X cf W k) : Room k X.A := T.rm
theorem assign_len {es : List Expr} {env : Env} : (assignEach es env).length = es.length := by
 induction es with
 | nil => rfl
 | cons e es ih => cases e <;> simp [assignEach, ih]
theorem assign_star {e : Expr} {es : List Expr} {env : Env} (h : notStar e = true) : assignEach (e :: es) env = (false, assign e env) :: assignEach es env := by
 cases e <;> first | rfl | (simp [notStar] at h)
mutual
theorem sound_T {kp : Nat → Prop} {lo : Nat} (S : XSc X sc N) (hN : N.Nodup) (hn : mp.Nodup) (hc : X.calm = true) (hk : ∀ i, lo ≤ i → ¬ kp i) : ∀ (t : IT) (e : Expr), chkT sc N mp lo t e = true → SG X mp kp e t
  | .nm s i, e, h => by
   cases e with
   | Name x p =>
    simp only [chkT, Bool.and_eq_true, Bool.or_eq_true, decide_eq_true_eq] at h
    obtain ⟨⟨⟨h1, h2⟩, h3⟩, h4⟩ := h
    refine sg_name (by rw [S.hN]; exact hN) hn (by rw [S.hN]; exact h1) h2 (hk i h3) ?_ ?_
    · rcases h4 with h4 | h4
      · exact .inl (S.loc x h4)
      · exact .inr (S.cel x h4).1
    · rcases h4 with h4 | h4
      · exact .inr (S.loc x h4)
      · exact .inl (S.cel x h4).2
   | _ => simp [chkT] at h
  | .tp ts, e, h => by
   cases e with
   | Tuple es n p =>
    simp only [chkT] at h
    obtain ⟨h1, h2, h3⟩ := sound_Ts S hN hn hc hk ts es h
    exact sg_tup hc h1 (by rw [assign_len]; exact h2) h3
   | _ => simp [chkT] at h
theorem sound_Ts {kp : Nat → Prop} {lo : Nat} (S : XSc X sc N) (hN : N.Nodup) (hn : mp.Nodup) (hc : X.calm = true) (hk : ∀ i, lo ≤ i → ¬ kp i) : ∀ (ts : ITs) (es : List Expr), chkTs sc N mp lo ts es = true → SGs X mp kp es ts ∧ ts.len = es.length ∧ (assignEach es X.env).findIdx? (·.1) = none
  | .nil, [], h => ⟨sgs_nil, rfl, rfl⟩
  | .cons t ts, e :: es, h => by
    simp only [chkTs, Bool.and_eq_true] at h
    obtain ⟨⟨h1, h2⟩, h3⟩ := h
    have ih1 := sound_T S hN hn hc hk t e h2
    obtain ⟨i1, i2, i3⟩ := sound_Ts S hN hn hc hk ts es h3
    refine ⟨sgs_cons ih1 i1 (by rw [assign_star h1]; rfl), by rw [ITs.len, i2]; rfl, ?_⟩
    rw [assign_star h1, List.findIdx?_cons]
    simp [i3]
  | .nil, _ :: _, h => by simp [chkTs] at h
  | .cons .., [], h => by simp [chkTs] at h
end
noncomputable def CompOk (X : Cx) (XP : XPT) (mp : List Nat) (e : Expr) (f : EM (List PyData)) : Prop := ∀ elt gens scope pos, e = .ListComp elt gens scope pos → ∃ tg iter ifs N' k ix, gens = [⟨tg, iter, ifs, 0⟩] ∧ CSc X.env.scope X.N scope N' k ix ∧ (∀ x, foldedSetIterable iter X.env x = pure x) ∧
 SNt XP mp (tComp k ix (wpI X tg iter) (gU X N' scope tg) (fU X N' scope ifs) (eU X N' scope elt)) f
theorem noComp {X : Cx} {XP : XPT} {mp : List Nat} {e : Expr} {f : EM (List PyData)} (h : ∀ elt gens scope pos, e ≠ .ListComp elt gens scope pos) : CompOk X XP mp e f := fun a b c d q => absurd q (h a b c d)
theorem plainT_of {e : Expr} {env : Env} (h : plainT e = true) (whole : Sem Value) : isTrue e env whole = (do let v ← whole; standAt e.pos; holding [v] (truthy v)) := by
 cases e <;> first | rfl | (simp [plainT] at h; done) | skip
 rename_i op x p
 cases op <;> first | rfl | (simp [plainT] at h)
theorem both {X : Cx} {XP : XPT} {mp : List Nat} {e : Expr} {fa : EM FV} (h : SE X XP mp e fa) (hp : plainT e = true) : SE X XP mp e fa ∧ ST X XP mp e (fTru fa) := ⟨h, st_truth h (plainT_of hp)⟩
theorem sw_of_st {X : Cx} {XP : XPT} {mp : List Nat} {op : BoolOp} {vs : List Expr} {p : Pos} {t : EM Bool} (h : ST X XP mp (.BoolOp op vs p) t) : SW X XP mp (.BoolOp op vs p) t := fun M0 F Γ ν σ H Q rs hs hp whole pins s I => h M0 F Γ ν σ H Q rs hs hp pins s I
theorem boot_rangeW : bootBuiltins "range" = some (.type "range") := by decide +kernel
theorem boot_lenW : bootBuiltins "len" = some (.builtin "len") := by decide +kernel
theorem boot_minW : bootBuiltins "min" = some (.builtin "min") := by decide +kernel
theorem boot_maxW : bootBuiltins "max" = some (.builtin "max") := by decide +kernel
theorem boot_strW : bootBuiltins "str" = some (.type "str") := by decide +kernel
theorem boot_isiW : bootBuiltins "isinstance" = some (.builtin "isinstance") := by decide +kernel
noncomputable abbrev QE (cf : CF) (W : Wd) (a : IE) : Prop := ∀ (X : Cx) (XP : XPT) (k : Nat) (sc : Scope) (N : List Str) (mp : List Nat) (m : Nat), XSc X sc N → XW X cf W k → ∀ (e : Expr), a.chk W sc N mp m e = true → SE X XP mp e (a.ev cf).1 ∧ ST X XP mp e (a.ev cf).2
noncomputable abbrev QL (cf : CF) (W : Wd) (a : IL) : Prop := ∀ (X : Cx) (XP : XPT) (k : Nat) (sc : Scope) (N : List Str) (mp : List Nat) (m : Nat), XSc X sc N → XW X cf W k → ∀ (e : List Expr), a.chk W sc N mp m e = true → SL X XP mp e (a.ev cf)
noncomputable abbrev QA (cf : CF) (W : Wd) (a : IA) : Prop := ∀ (X : Cx) (XP : XPT) (k : Nat) (sc : Scope) (N : List Str) (mp : List Nat) (m : Nat), XSc X sc N → XW X cf W k → ∀ (e : List Expr), a.chk W sc N mp m e = true → SA X XP mp e (a.ev cf)
noncomputable abbrev QN (cf : CF) (W : Wd) (a : IN) : Prop := ∀ (X : Cx) (XP : XPT) (k : Nat) (sc : Scope) (N : List Str) (mp : List Nat) (m : Nat), XSc X sc N → XW X cf W k → ∀ (e : Expr), a.chk W sc N mp m e = true → SN X XP mp e (a.ev cf) ∧ CompOk X XP mp e (a.ev cf)
noncomputable abbrev QP (cf : CF) (W : Wd) (a : IP) : Prop := ∀ (X : Cx) (XP : XPT) (k : Nat) (sc : Scope) (N : List Str) (mp : List Nat) (m : Nat), XSc X sc N → XW X cf W k → ∀ (e : Option Expr), a.chk W sc N mp m e = true → SOp X XP mp e (a.ev cf)
noncomputable abbrev QI (cf : CF) (W : Wd) (a : II) : Prop := ∀ (X : Cx) (XP : XPT) (k : Nat) (sc : Scope) (N : List Str) (mp : List Nat) (m : Nat), XSc X sc N → XW X cf W k → ∀ (tg e : Expr), a.chk W sc N mp m e tg = true → SI X XP mp tg e (a.ev cf)
noncomputable abbrev QC (cf : CF) (W : Wd) (a : IC) : Prop := ∀ (X : Cx) (XP : XPT) (k : Nat) (sc : Scope) (N : List Str) (mp : List Nat) (m : Nat), XSc X sc N → XW X cf W k → ∀ (e : List Expr), a.chk W sc N mp m e = true → SF X XP mp e (a.ev cf)
noncomputable abbrev QO (cf : CF) (W : Wd) (a : IO) : Prop := ∀ (X : Cx) (XP : XPT) (k : Nat) (sc : Scope) (N : List Str) (mp : List Nat) (m : Nat), XSc X sc N → XW X cf W k → ∀ (e : Expr), a.chk W sc N mp m e = true → SO X XP mp e (a.ev cf)
noncomputable abbrev QJ (cf : CF) (W : Wd) (a : IJ) : Prop := ∀ (X : Cx) (XP : XPT) (k : Nat) (sc : Scope) (N : List Str) (mp : List Nat) (m : Nat), XSc X sc N → XW X cf W k → ∀ (e : List Expr), a.chk W sc N mp m e = true → SJ X XP mp e (a.ev cf)
theorem cE_var {cf : CF} {W : Wd} (s i : Nat) : QE cf W (.var s i) := by
 intro X XP k sc N mp m S T e g0
 simp only [IE.chk] at g0
 obtain ⟨⟨x, p⟩, eu, h⟩ := okO_inv g0
 cases unName_inv eu
 have n := nm_of S h
 exact both (se_var n.hN n.hv n.hm n.hd n.hcd) rfl
theorem cE_frz {cf : CF} {W : Wd} (s i : Nat) : QE cf W (.frz s i) := by
 intro X XP k sc N mp m S T e g0
 simp only [IE.chk] at g0
 obtain ⟨⟨x, p⟩, eu, h⟩ := okO_inv g0
 cases unName_inv eu
 have n := nm_of S h
 exact both (se_frz n.hN n.hv n.hm n.hd n.hcd) rfl
theorem cE_cint {cf : CF} {W : Wd} (i : Int) : QE cf W (.cint i) := by
 intro X XP k sc N mp m S T e g0
 simp only [IE.chk] at g0
 obtain ⟨⟨c, j, p⟩, eu, h⟩ := okO_inv g0
 obtain ⟨z, ez, h⟩ := okO_inv h
 cases unCon_inv eu
 cases cInt_inv ez
 cases of_decide_eq_true h
 exact both se_int rfl
theorem cE_cstr {cf : CF} {W : Wd} (i : Str) : QE cf W (.cstr i) := by
 intro X XP k sc N mp m S T e g0
 simp only [IE.chk] at g0
 obtain ⟨⟨c, j, p⟩, eu, h⟩ := okO_inv g0
 obtain ⟨z, ez, h⟩ := okO_inv h
 cases unCon_inv eu
 cases cStr_inv ez
 cases of_decide_eq_true h
 exact both se_str rfl
theorem cE_cbool {cf : CF} {W : Wd} (i : Bool) : QE cf W (.cbool i) := by
 intro X XP k sc N mp m S T e g0
 simp only [IE.chk] at g0
 obtain ⟨⟨c, j, p⟩, eu, h⟩ := okO_inv g0
 obtain ⟨z, ez, h⟩ := okO_inv h
 cases unCon_inv eu
 cases cBool_inv ez
 cases of_decide_eq_true h
 exact both se_bool rfl
theorem cE_cnone {cf : CF} {W : Wd}  : QE cf W (.cnone) := by
 intro X XP k sc N mp m S T e g0
 simp only [IE.chk] at g0
 obtain ⟨⟨c, j, p⟩, eu, h⟩ := okO_inv g0
 cases unCon_inv eu
 cases cNone_inv h
 exact both se_none rfl
theorem cE_gint {cf : CF} {W : Wd} (x : Str) (i : Int) : QE cf W (.gint x i) := by
 intro X XP k sc N mp m S T e g0
 simp only [IE.chk] at g0
 obtain ⟨⟨y, p⟩, eu, h⟩ := okO_inv g0
 cases unName_inv eu
 simp only [Bool.and_eq_true, decide_eq_true_eq] at h
 obtain ⟨⟨⟨h1, h2⟩, h3⟩, h4⟩ := h
 subst h1
 exact both (se_gint (S.glo x h2) (T.gi x i h3) (strne h4)) rfl
theorem cE_gstr {cf : CF} {W : Wd} (x : Str) (i : Str) : QE cf W (.gstr x i) := by
 intro X XP k sc N mp m S T e g0
 simp only [IE.chk] at g0
 obtain ⟨⟨y, p⟩, eu, h⟩ := okO_inv g0
 cases unName_inv eu
 simp only [Bool.and_eq_true, decide_eq_true_eq] at h
 obtain ⟨⟨⟨h1, h2⟩, h3⟩, h4⟩ := h
 subst h1
 exact both (se_gstr (S.glo x h2) (T.gs x i h3) (strne h4)) rfl
theorem cE_tup {cf : CF} {W : Wd} (a : IL) (ih_a : QL cf W a) : QE cf W (.tup a) := by
 intro X XP k sc N mp m S T e g0
 simp only [IE.chk] at g0
 obtain ⟨⟨es, j, p⟩, eu, h⟩ := okO_inv g0
 cases unTup_inv eu
 exact both (se_tup (ih_a _ _ _ _ _ _ _ S T es h)) rfl
theorem cE_new {cf : CF} {W : Wd} (n : IN) (ih_n : QN cf W n) : QE cf W (.new n) := by
 intro X XP k sc N mp m S T e h
 simp only [IE.chk, Bool.and_eq_true] at h
 exact both (SN.se (ih_n _ _ _ _ _ _ _ S T e h.2).1) h.1
theorem cE_bin {cf : CF} {W : Wd} (op : Operator) (a b : IE) (ih_a : QE cf W a) (ih_b : QE cf W b) : QE cf W (.bin op a b) := by
 intro X XP k sc N mp m S T e g0
 simp only [IE.chk] at g0
 obtain ⟨⟨x, op', y, p⟩, eu, h⟩ := okO_inv g0
 cases unBin_inv eu
 simp only [Bool.and_eq_true, decide_eq_true_eq] at h
 obtain ⟨⟨h1, h2⟩, h3⟩ := h
 subst h1
 exact both (se_bin (bin_ok op) (ih_a _ _ _ _ _ _ _ S T x h2).1 (ih_b _ _ _ _ _ _ _ S T y h3).1) rfl
theorem cE_cmp {cf : CF} {W : Wd} (op : CmpOp) (a b : IE) (ih_a : QE cf W a) (ih_b : QE cf W b) : QE cf W (.cmp op a b) := by
 intro X XP k sc N mp m S T e g0
 simp only [IE.chk] at g0
 obtain ⟨⟨x, ops, ys, p⟩, eu, g1⟩ := okO_inv g0
 obtain ⟨op', eo, h⟩ := okO_inv g1
 obtain ⟨y, ey, h⟩ := okO_inv h
 cases unCmp_inv eu
 cases one1_inv eo
 cases one1_inv ey
 simp only [Bool.and_eq_true, decide_eq_true_eq] at h
 obtain ⟨⟨⟨h1, h2⟩, h3⟩, h4⟩ := h
 subst h1
 have ha := (ih_a _ XP _ _ _ _ _ S T x h3).1
 have hb := (ih_b _ XP _ _ _ _ _ S T y h4).1
 exact ⟨se_cmp (cmp_ok (Room.at1 T) op) ha hb (marks_of op h2), st_cmp (cmp_ok (Room.at1 T) op) ha hb (marks_of op h2)⟩
theorem cE_chain {cf : CF} {W : Wd} (op1 op2 : CmpOp) (a b c : IE) (ih_a : QE cf W a) (ih_b : QE cf W b) (ih_c : QE cf W c) : QE cf W (.chain op1 op2 a b c) := by
 intro X XP k sc N mp m S T e g0
 simp only [IE.chk] at g0
 obtain ⟨⟨x, ops, ys, p⟩, eu, g1⟩ := okO_inv g0
 obtain ⟨⟨o1, o2⟩, eo, h⟩ := okO_inv g1
 obtain ⟨⟨y, z⟩, ey, h⟩ := okO_inv h
 cases unCmp_inv eu
 cases two2_inv eo
 cases two2_inv ey
 simp only [Bool.and_eq_true, decide_eq_true_eq] at h
 obtain ⟨⟨⟨⟨⟨h1, h2⟩, h3⟩, h4⟩, h5⟩, h6⟩ := h
 subst h1 h2
 have ha := (ih_a _ XP _ _ _ _ _ S T x h4).1
 have hb := (ih_b _ XP _ _ _ _ _ S T y h5).1
 have hc := (ih_c _ XP _ _ _ _ _ S T z h6).1
 exact ⟨se_chain (cmp_ok (Room.at1 T) op1) (cmp_ok (Room.at1 T) op2) ha hb hc (lmarks_of op1 op2 h3), st_chain (cmp_ok (Room.at1 T) op1) (cmp_ok (Room.at1 T) op2) ha hb hc (lmarks_of op1 op2 h3)⟩
theorem cE_not {cf : CF} {W : Wd} (a : IE) (ih_a : QE cf W a) : QE cf W (.not a) := by
 intro X XP k sc N mp m S T e g0
 simp only [IE.chk] at g0
 obtain ⟨⟨op, x, p⟩, eu, h⟩ := okO_inv g0
 cases unUn_inv eu
 simp only [Bool.and_eq_true, decide_eq_true_eq] at h
 cases h.1
 have hh := ih_a _ XP _ _ _ _ _ S T x h.2
 exact ⟨se_not hh.1, st_not hh.2⟩
theorem cE_neg {cf : CF} {W : Wd} (a : IE) (ih_a : QE cf W a) : QE cf W (.neg a) := by
 intro X XP k sc N mp m S T e g0
 simp only [IE.chk] at g0
 obtain ⟨⟨op, x, p⟩, eu, h⟩ := okO_inv g0
 cases unUn_inv eu
 simp only [Bool.and_eq_true, decide_eq_true_eq] at h
 cases h.1
 exact both (se_neg (ih_a _ _ _ _ _ _ _ S T x h.2).1) rfl
theorem cE_and {cf : CF} {W : Wd} (a b : IE) (ih_a : QE cf W a) (ih_b : QE cf W b) : QE cf W (.and a b) := by
 intro X XP k sc N mp m S T e g0
 simp only [IE.chk] at g0
 obtain ⟨⟨x, z⟩, eu, h⟩ := okO_inv g0
 rw [Bool.and_eq_true] at h
 have ha := ih_a _ XP _ _ _ _ _ S T x h.1
 have hb := ih_b _ XP _ _ _ _ _ S T z h.2
 rcases unAnd_inv eu with ⟨p, rfl⟩ | ⟨y, w, r, p, rfl, rfl⟩
 ·exact ⟨se_and ha.1 (se_one hb.1), (sw_and ha.2 (sw_one1 hb.2)).st⟩
 ·exact ⟨se_and ha.1 hb.1, (sw_and ha.2 (sw_of_st hb.2)).st⟩
theorem cE_or {cf : CF} {W : Wd} (a b : IE) (ih_a : QE cf W a) (ih_b : QE cf W b) : QE cf W (.or a b) := by
 intro X XP k sc N mp m S T e g0
 simp only [IE.chk] at g0
 obtain ⟨⟨x, z⟩, eu, h⟩ := okO_inv g0
 rw [Bool.and_eq_true] at h
 have ha := ih_a _ XP _ _ _ _ _ S T x h.1
 have hb := ih_b _ XP _ _ _ _ _ S T z h.2
 rcases unAnd_inv eu with ⟨p, rfl⟩ | ⟨y, w, r, p, rfl, rfl⟩
 ·exact ⟨se_or ha.1 (se_one hb.1), (sw_or ha.2 (sw_one2 hb.2)).st⟩
 ·exact ⟨se_or ha.1 hb.1, (sw_or ha.2 (sw_of_st hb.2)).st⟩
theorem cE_ite {cf : CF} {W : Wd} (c a b : IE) (ih_c : QE cf W c) (ih_a : QE cf W a) (ih_b : QE cf W b) : QE cf W (.ite c a b) := by
 intro X XP k sc N mp m S T e g0
 simp only [IE.chk] at g0
 obtain ⟨⟨z, x, y, p⟩, eu, h⟩ := okO_inv g0
 cases unIfE_inv eu
 simp only [Bool.and_eq_true] at h
 obtain ⟨⟨h1, h2⟩, h3⟩ := h
 exact ⟨se_if (ih_c _ _ _ _ _ _ _ S T z h1).2 (ih_a _ _ _ _ _ _ _ S T x h2).1 (ih_b _ _ _ _ _ _ _ S T y h3).1, fun M0 F Γ ν σ H Q rs hs hp => hp.elim⟩
theorem cE_ix {cf : CF} {W : Wd} (a b : IE) (ih_a : QE cf W a) (ih_b : QE cf W b) : QE cf W (.ix a b) := by
 intro X XP k sc N mp m S T e g0
 simp only [IE.chk] at g0
 obtain ⟨⟨x, y, p⟩, eu, h⟩ := okO_inv g0
 cases unSub_inv eu
 simp only [Bool.and_eq_true] at h
 obtain ⟨⟨h1, h2⟩, h3⟩ := h
 exact both (se_ix (ih_a _ _ _ _ _ _ _ S T x h2).1 (ih_b _ _ _ _ _ _ _ S T y h3).1 (plainIx_of h1)) rfl
theorem cE_len {cf : CF} {W : Wd} (a : IE) (ih_a : QE cf W a) : QE cf W (.len a) := by
 intro X XP k sc N mp m S T e h
 simp only [IE.chk] at h
 split at h
 ·rename_i f p x q eu
  cases un1_inv eu
  simp only [Bool.and_eq_true] at h
  obtain ⟨⟨h1, h2⟩, h3⟩ := h
  exact both (se_b1 cs_len (bi_of S T h1 boot_lenW (by decide) (by decide)) (ih_a _ _ _ _ _ _ _ S T x h3).1 (star_of h2)) rfl
 ·cases h
theorem cE_int {cf : CF} {W : Wd} (a : IE) (ih_a : QE cf W a) : QE cf W (.int a) := by
 intro X XP k sc N mp m S T e h
 simp only [IE.chk] at h
 split at h
 ·rename_i f p x q eu
  cases un1_inv eu
  simp only [Bool.and_eq_true] at h
  obtain ⟨⟨h1, h2⟩, h3⟩ := h
  exact both (se_t1 cs_int (bi_of S T h1 boot_intW (by decide) (by decide)) (ih_a _ _ _ _ _ _ _ S T x h3).1 (star_of h2)) rfl
 ·cases h
theorem cE_all {cf : CF} {W : Wd} (a : IE) (ih_a : QE cf W a) : QE cf W (.all a) := by
 intro X XP k sc N mp m S T e h
 simp only [IE.chk] at h
 split at h
 ·rename_i f p x q eu
  cases un1_inv eu
  simp only [Bool.and_eq_true] at h
  obtain ⟨⟨h1, h2⟩, h3⟩ := h
  exact both (se_b1 (cs_all T.calm) (bi_of S T h1 boot_allW (by decide) (by decide)) (ih_a _ _ _ _ _ _ _ S T x h3).1 (star_of h2)) rfl
 ·cases h
theorem cE_tuple {cf : CF} {W : Wd} (a : IE) (ih_a : QE cf W a) : QE cf W (.tuple a) := by
 intro X XP k sc N mp m S T e h
 simp only [IE.chk] at h
 split at h
 ·rename_i f p x q eu
  cases un1_inv eu
  simp only [Bool.and_eq_true] at h
  obtain ⟨⟨h1, h2⟩, h3⟩ := h
  exact both (se_tuple (bi_of S T h1 boot_tupleW (by decide) (by decide)) (ih_a _ _ _ _ _ _ _ S T x h3).1 (star_of h2)) rfl
 ·cases h
theorem cE_isi {cf : CF} {W : Wd} (TT : String) (a : IE) (ih_a : QE cf W a) : QE cf W (.isi TT a) := by
 intro X XP k sc N mp m S T e h
 simp only [IE.chk] at h
 split at h
 ·rename_i f p x y q eu
  cases un2_inv eu
  simp only [Bool.and_eq_true, Bool.or_eq_true, beq_iff_eq] at h
  obtain ⟨⟨⟨⟨h1, h2⟩, h3⟩, h4⟩, h5⟩ := h
  obtain ⟨⟨y, p2⟩, ey, h4⟩ := okO_inv h4
  cases unName_inv ey
  have B := bi_of S T h1 boot_isiW (by decide) (by decide)
  have ha := (ih_a _ XP _ _ _ _ _ S T x h5).1
  rcases h3 with (((rfl | rfl) | rfl) | rfl) | rfl
  ·exact both (se_isi B (bi_of S T h4 boot_intW (by decide) (by decide)) ha (star_of h2)) rfl
  ·exact both (se_isi B (bi_of S T h4 boot_boolW (by decide) (by decide)) ha (star_of h2)) rfl
  ·exact both (se_isi B (bi_of S T h4 boot_listW (by decide) (by decide)) ha (star_of h2)) rfl
  ·exact both (se_isi B (bi_of S T h4 boot_tupleW (by decide) (by decide)) ha (star_of h2)) rfl
  ·exact both (se_isi B (bi_of S T h4 boot_strW (by decide) (by decide)) ha (star_of h2)) rfl
 ·cases h
theorem cE_min {cf : CF} {W : Wd} (a b : IE) (ih_a : QE cf W a) (ih_b : QE cf W b) : QE cf W (.min a b) := by
 intro X XP k sc N mp m S T e h
 simp only [IE.chk] at h
 split at h
 ·rename_i f p x y q eu
  cases un2_inv eu
  simp only [Bool.and_eq_true] at h
  obtain ⟨⟨⟨⟨h1, h2⟩, h3⟩, h4⟩, h5⟩ := h
  exact both (se_min2 T.calm (bi_of S T h1 boot_minW (by decide) (by decide)) (ih_a _ _ _ _ _ _ _ S T x h4).1 (ih_b _ _ _ _ _ _ _ S T y h5).1 (star_of h2) (star_of h3)) rfl
 ·cases h
theorem cE_max {cf : CF} {W : Wd} (a b : IE) (ih_a : QE cf W a) (ih_b : QE cf W b) : QE cf W (.max a b) := by
 intro X XP k sc N mp m S T e h
 simp only [IE.chk] at h
 split at h
 ·rename_i f p x y q eu
  cases un2_inv eu
  simp only [Bool.and_eq_true] at h
  obtain ⟨⟨⟨⟨h1, h2⟩, h3⟩, h4⟩, h5⟩ := h
  exact both (se_max2 T.calm (bi_of S T h1 boot_maxW (by decide) (by decide)) (ih_a _ _ _ _ _ _ _ S T x h4).1 (ih_b _ _ _ _ _ _ _ S T y h5).1 (star_of h2) (star_of h3)) rfl
 ·cases h
theorem cE_call {cf : CF} {W : Wd} (o : IO) (ih_o : QO cf W o) : QE cf W (.call o) := by
 intro X XP k sc N mp m S T e h
 simp only [IE.chk, Bool.and_eq_true] at h
 exact both (ih_o _ _ _ _ _ _ _ S T e h.2).se h.1
theorem cE_callw {cf : CF} {W : Wd} (g : Str) (n : Nat) (a : IL) (ih_a : QL cf W a) : QE cf W (.callw g n a) := by
 intro X XP k sc N mp m S T e h
 simp only [IE.chk] at h
 split at h
 ·rename_i f p xs q eu
  cases unN_inv eu
  simp only [Bool.and_eq_true, decide_eq_true_eq] at h
  obtain ⟨⟨⟨⟨⟨⟨h1, h2⟩, h3⟩, h4⟩, h0⟩, h5⟩, h6⟩ := h
  subst h1
  obtain ⟨kn, hrun⟩ := T.fn _ _ h3
  obtain ⟨x, xs, rfl⟩ : ∃ y ys, xs = y :: ys := by
   cases xs with
   | nil => cases h0
   | cons y ys => exact ⟨y, ys, rfl⟩
  rw [List.all_cons, Bool.and_eq_true] at h5
  exact both (se_callW kn (Room.atk T) (S.glo _ h2) hrun (ih_a _ _ _ _ _ _ _ S T (x :: xs) h6) (strne h4) (star_of h5.1) (backTo_any (star_all h5.2))) rfl
 ·cases h
theorem cN_lst {cf : CF} {W : Wd} (a : IL) (ih_a : QL cf W a) : QN cf W (.lst a) := by
 intro X XP k sc N mp m S T e g0
 simp only [IN.chk] at g0
 obtain ⟨⟨es, p⟩, eu, h⟩ := okO_inv g0
 cases unLst_inv eu
 exact ⟨sn_lst (ih_a _ _ _ _ _ _ _ S T es h), noComp (fun _ _ _ _ q => nomatch q)⟩
theorem cN_cat {cf : CF} {W : Wd} (a b : IE) (ih_a : QE cf W a) (ih_b : QE cf W b) : QN cf W (.cat a b) := by
 intro X XP k sc N mp m S T e g0
 simp only [IN.chk] at g0
 obtain ⟨⟨x, op, y, p⟩, eu, h⟩ := okO_inv g0
 cases unBin_inv eu
 simp only [Bool.and_eq_true, decide_eq_true_eq] at h
 obtain ⟨⟨h0, h1⟩, h2⟩ := h
 cases h0
 exact ⟨sn_cat (ih_a _ _ _ _ _ _ _ S T x h1).1 (ih_b _ _ _ _ _ _ _ S T y h2).1, noComp (fun _ _ _ _ q => nomatch q)⟩
theorem cN_list {cf : CF} {W : Wd} (a : IE) (ih_a : QE cf W a) : QN cf W (.list a) := by
 intro X XP k sc N mp m S T e h
 simp only [IN.chk] at h
 split at h
 ·rename_i f p x q eu
  cases un1_inv eu
  simp only [Bool.and_eq_true] at h
  obtain ⟨⟨h1, h2⟩, h3⟩ := h
  exact ⟨sn_list (bi_of S T h1 boot_listW (by decide) (by decide)) (ih_a _ _ _ _ _ _ _ S T x h3).1 (star_of h2), noComp (fun _ _ _ _ q => nomatch q)⟩
 ·cases h
theorem cN_comp {cf : CF} {W : Wd} (n kk : Nat) (ix : List Nat) (N' : List Str) (t : IT) (src : II) (c : IC) (el : IE) (ih_src : QI cf W src) (ih_c : QC cf W c) (ih_el : QE cf W el) : QN cf W (.comp n kk ix N' t src c el) := by
 intro X XP k sc N mp m S T e h
 simp only [IN.chk] at h
 split at h
 ·rename_i elt tg iter ifs scope p eu
  cases unLC_inv eu
  simp only [Bool.and_eq_true, decide_eq_true_eq] at h
  obtain ⟨⟨⟨⟨⟨⟨⟨⟨h1, h3⟩, h4⟩, h5⟩, h6⟩, h7⟩, h8⟩, h9⟩, h10⟩ := h
  subst h1
  have C0 : CSc sc N scope N' kk ix := CSc.of h3
  have C1 := csc_of S C0
  have hm : ∀ j i : Nat, ix[j]? = some i → ∃ m, mp[i]? = some m ∧ m < n := fun j i e => by
   have := List.all_eq_true.mp h5 i (List.mem_of_getElem? e)
   split at this
   ·rename_i q eq; exact ⟨q, eq, by simpa using this⟩
   ·cases this
  have hi := ih_src _ XP _ _ _ _ _ S T tg iter h7
  have hg : ∀ cl C s2 H2 fp, SG (X.comp N' scope cl C s2 H2 fp) (mpC mp n kk ix) (· < n) tg t := fun cl C s2 H2 fp => sound_T (XSc.comp C0 cl C s2 H2 fp) C0.nd h4 T.calm (fun i h => by omega) t tg h8
  have hc : ∀ cl C s2 H2 fp, SF (X.comp N' scope cl C s2 H2 fp) XP0 (mpC mp n kk ix) ifs (c.ev cf) := fun cl C s2 H2 fp => ih_c _ _ _ _ _ _ _ (XSc.comp C0 cl C s2 H2 fp) (T.comp cl C s2 H2 fp) ifs h9
  have he : ∀ cl C s2 H2 fp, SE (X.comp N' scope cl C s2 H2 fp) XP0 (mpC mp n kk ix) elt (el.ev cf).1 := fun cl C s2 H2 fp => (ih_el _ _ _ _ _ _ _ (XSc.comp C0 cl C s2 H2 fp) (T.comp cl C s2 H2 fp) elt h10).1
  refine ⟨sn_comp T.calm C1 hm hi hg hc he (folded_of h6), fun a b c' d q => ?_⟩
  cases q
  exact ⟨tg, iter, ifs, N', kk, ix, rfl, C1, folded_of h6, snt_comp C1 hm hi hg hc he⟩
 ·cases h
theorem cI_list {cf : CF} {W : Wd} (a : IE) (ih_a : QE cf W a) : QI cf W (.list a) := by
 intro X XP k sc N mp m S T tg e h
 exact si_list (ih_a _ _ _ _ _ _ _ S T e h).1
theorem cI_tup {cf : CF} {W : Wd} (a : IE) (ih_a : QE cf W a) : QI cf W (.tup a) := by
 intro X XP k sc N mp m S T tg e h
 exact si_tup (ih_a _ _ _ _ _ _ _ S T e h).1
theorem cI_range {cf : CF} {W : Wd} (a : IE) (ih_a : QE cf W a) : QI cf W (.range a) := by
 intro X XP k sc N mp m S T tg e h
 simp only [II.chk] at h
 split at h
 ·rename_i f p x q eu
  cases un1_inv eu
  simp only [Bool.and_eq_true] at h
  obtain ⟨⟨h1, h2⟩, h3⟩ := h
  have ef : f = "range" := by
   unfold biB at h1
   simp only [Bool.and_eq_true, decide_eq_true_eq] at h1
   exact h1.1.1
  exact si_range (bi_of S T h1 boot_rangeW (by decide) (by decide)) ef (ih_a _ _ _ _ _ _ _ S T x h3).1 (star_of h2)
 ·cases h
theorem cO_dat {cf : CF} {W : Wd} (a : IE) (ih_a : QE cf W a) : QO cf W (.dat a) := by
 intro X XP k sc N mp m S T e h
 exact (ih_a _ _ _ _ _ _ _ S T e h).1.so
theorem cO_own {cf : CF} {W : Wd} (n : IN) (ih_n : QN cf W n) : QO cf W (.own n) := by
 intro X XP k sc N mp m S T e h
 exact (ih_n _ _ _ _ _ _ _ S T e h).1.so
theorem cO_call {cf : CF} {W : Wd} (g : Str) (n : Nat) (a : IA) (ih_a : QA cf W a) : QO cf W (.call g n a) := by
 intro X XP k sc N mp m S T e h
 simp only [IO.chk] at h
 split at h
 ·rename_i f p xs q eu
  cases unN_inv eu
  simp only [Bool.and_eq_true, decide_eq_true_eq] at h
  obtain ⟨⟨⟨⟨⟨h1, h2⟩, h3⟩, h4⟩, h5⟩, h6⟩ := h
  subst h1
  obtain ⟨kn, hrun⟩ := T.fn _ _ h3
  cases xs with
  | nil =>
   cases a with
   | nil => exact so_call0 kn (Room.atk T) (S.glo _ h2) hrun (strne h4)
   | cons _ _ => cases h6
   | io _ _ _ => cases h6
   | tmp _ => cases h6
  | cons x xs =>
   rw [List.all_cons, Bool.and_eq_true] at h5
   exact so_call kn (Room.atk T) (S.glo _ h2) hrun (ih_a _ _ _ _ _ _ _ S T (x :: xs) h6) (strne h4) (star_of h5.1) (backTo_any (star_all h5.2))
 ·cases h
theorem cO_move {cf : CF} {W : Wd} (s i : Nat) : QO cf W (.move s i) := by
 intro X XP k sc N mp m S T e g0
 obtain ⟨⟨x, p⟩, eu, h⟩ := okO_inv g0
 cases unName_inv eu
 have n := nm_of S h
 exact so_move n.hN n.hv n.hm n.hd n.hcd
theorem cL_nil {cf : CF} {W : Wd} : QL cf W .nil := by
 intro X XP k sc N mp m S T es h
 cases es with
 | nil => exact sl_nil
 | cons _ _ => cases h
theorem cL_cons {cf : CF} {W : Wd} (e : IE) (a : IL) (ih_e : QE cf W e) (ih_a : QL cf W a) : QL cf W (.cons e a) := by
 intro X XP k sc N mp m S T es h
 cases es with
 | nil => cases h
 | cons x xs =>
  simp only [IL.chk, Bool.and_eq_true] at h
  obtain ⟨⟨h1, h2⟩, h3⟩ := h
  exact sl_cons (ih_e _ _ _ _ _ _ _ S T x h2).1 (ih_a _ _ _ _ _ _ _ S T xs h3) (star_of h1)
theorem cA_nil {cf : CF} {W : Wd} : QA cf W .nil := by
 intro X XP k sc N mp m S T es h
 cases es with
 | nil => exact sa_nil
 | cons _ _ => cases h
theorem cA_cons {cf : CF} {W : Wd} (e : IE) (a : IA) (ih_e : QE cf W e) (ih_a : QA cf W a) : QA cf W (.cons e a) := by
 intro X XP k sc N mp m S T es h
 cases es with
 | nil => cases h
 | cons x xs =>
  simp only [IA.chk, Bool.and_eq_true] at h
  obtain ⟨⟨h1, h2⟩, h3⟩ := h
  exact sa_cons (ih_e _ _ _ _ _ _ _ S T x h2).1 (ih_a _ _ _ _ _ _ _ S T xs h3) (star_of h1)
theorem cA_io {cf : CF} {W : Wd} (s i : Nat) (a : IA) (ih_a : QA cf W a) : QA cf W (.io s i a) := by
 intro X XP k sc N mp m S T es h
 cases es with
 | nil => cases h
 | cons e xs =>
  simp only [IA.chk, Bool.and_eq_true] at h
  obtain ⟨⟨x, p⟩, eu, h1⟩ := okO_inv h.1
  cases unName_inv eu
  have n := nm_of S h1
  exact sa_io n.hN n.hv n.hm n.hd n.hcd (ih_a _ _ _ _ _ _ _ S T xs h.2) rfl
theorem cA_tmp {cf : CF} {W : Wd} (n : IN) (ih_n : QN cf W n) : QA cf W (.tmp n) := by
 intro X XP k sc N mp m S T es h
 match es, h with
 | [], h => nomatch h
 | [x], h =>
  simp only [IA.chk, Bool.and_eq_true] at h
  exact sa_tmp (ih_n _ _ _ _ _ _ _ S T x h.2).1 (star_of h.1)
 | _ :: _ :: _, h => nomatch h
theorem cP_non {cf : CF} {W : Wd} : QP cf W .non := by
 intro X XP k sc N mp m S T e h
 cases e with
 | none => exact so_none
 | some _ => cases h
theorem cP_one {cf : CF} {W : Wd} (a : IE) (ih_a : QE cf W a) : QP cf W (.one a) := by
 intro X XP k sc N mp m S T e h
 cases e with
 | none => cases h
 | some x => exact so_some (ih_a _ _ _ _ _ _ _ S T x h).1
theorem cC_yes {cf : CF} {W : Wd} : QC cf W .yes := by
 intro X XP k sc N mp m S T es h
 cases es with
 | nil => exact sf_nil
 | cons _ _ => cases h
theorem cC_one {cf : CF} {W : Wd} (a : IE) (ih_a : QE cf W a) : QC cf W (.one a) := by
 intro X XP k sc N mp m S T es h
 match es, h with
 | [], h => nomatch h
 | [x], h => exact sf_one (ih_a _ _ _ _ _ _ _ S T x h).2
 | _ :: _ :: _, h => nomatch h
theorem cE_sadd {cf : CF} {W : Wd} (a b : IE) (ih_a : QE cf W a) (ih_b : QE cf W b) : QE cf W (.sadd a b) := by
 intro X XP k sc N mp m S T e g0
 simp only [IE.chk] at g0
 obtain ⟨⟨x, op, y, p⟩, eu, h⟩ := okO_inv g0
 cases unBin_inv eu
 simp only [Bool.and_eq_true, decide_eq_true_eq] at h
 obtain ⟨⟨h1, h2⟩, h3⟩ := h
 subst h1
 exact both (se_bin sadd_ok (ih_a _ _ _ _ _ _ _ S T x h2).1 (ih_b _ _ _ _ _ _ _ S T y h3).1) rfl
theorem cE_sin {cf : CF} {W : Wd} (a b : IE) (ih_a : QE cf W a) (ih_b : QE cf W b) : QE cf W (.sin a b) := by
 intro X XP k sc N mp m S T e g0
 simp only [IE.chk] at g0
 obtain ⟨⟨x, ops, ys, p⟩, eu, g1⟩ := okO_inv g0
 obtain ⟨op', eo, h⟩ := okO_inv g1
 obtain ⟨y, ey, h⟩ := okO_inv h
 cases unCmp_inv eu
 cases one1_inv eo
 cases one1_inv ey
 simp only [Bool.and_eq_true, decide_eq_true_eq] at h
 obtain ⟨⟨⟨h1, h2⟩, h3⟩, h4⟩ := h
 subst h1
 have ha := (ih_a _ XP _ _ _ _ _ S T x h3).1
 have hb := (ih_b _ XP _ _ _ _ _ S T y h4).1
 exact ⟨se_cmp sin_ok ha hb (marks_of .In h2), st_cmp sin_ok ha hb (marks_of .In h2)⟩
theorem cE_slen {cf : CF} {W : Wd} (a : IE) (ih_a : QE cf W a) : QE cf W (.slen a) := by
 intro X XP k sc N mp m S T e h
 simp only [IE.chk] at h
 split at h
 ·rename_i f p x q eu
  cases un1_inv eu
  simp only [Bool.and_eq_true] at h
  obtain ⟨⟨h1, h2⟩, h3⟩ := h
  exact both (se_b1 cs_slen (bi_of S T h1 boot_lenW (by decide) (by decide)) (ih_a _ _ _ _ _ _ _ S T x h3).1 (star_of h2)) rfl
 ·cases h
theorem cE_str {cf : CF} {W : Wd} (a : IE) (ih_a : QE cf W a) : QE cf W (.str a) := by
 intro X XP k sc N mp m S T e h
 simp only [IE.chk] at h
 split at h
 ·rename_i f p x q eu
  cases un1_inv eu
  simp only [Bool.and_eq_true] at h
  obtain ⟨⟨h1, h2⟩, h3⟩ := h
  exact both (se_t1 cs_str (bi_of S T h1 boot_strW (by decide) (by decide)) (ih_a _ _ _ _ _ _ _ S T x h3).1 (star_of h2)) rfl
 ·cases h
theorem cE_join {cf : CF} {W : Wd} (z : Str) (a : IE) (ih_a : QE cf W a) : QE cf W (.join z a) := by
 intro X XP k sc N mp m S T e g0
 simp only [IE.chk] at g0
 obtain ⟨⟨z', j, p1, nm, p2, x, q⟩, eu, h⟩ := okO_inv g0
 cases unJn_inv eu
 simp only [Bool.and_eq_true, decide_eq_true_eq] at h
 obtain ⟨⟨⟨⟨h1, h2⟩, h3⟩, h4⟩, h5⟩ := h
 subst h1
 exact both (se_join h2 (ih_a _ _ _ _ _ _ _ S T x h5).1 (star_of h3) h4) rfl
theorem cE_six {cf : CF} {W : Wd} (a b : IE) (ih_a : QE cf W a) (ih_b : QE cf W b) : QE cf W (.six a b) := by
 intro X XP k sc N mp m S T e g0
 simp only [IE.chk] at g0
 obtain ⟨⟨x, y, p⟩, eu, h⟩ := okO_inv g0
 cases unSub_inv eu
 simp only [Bool.and_eq_true] at h
 obtain ⟨⟨h1, h2⟩, h3⟩ := h
 exact both (se_six (ih_a _ _ _ _ _ _ _ S T x h2).1 (ih_b _ _ _ _ _ _ _ S T y h3).1 (plainIx_of h1)) rfl
theorem cE_fstr {cf : CF} {W : Wd} (a : IJ) (ih_a : QJ cf W a) : QE cf W (.fstr a) := by
 intro X XP k sc N mp m S T e g0
 simp only [IE.chk] at g0
 obtain ⟨⟨vs, p⟩, eu, h⟩ := okO_inv g0
 cases unJs_inv eu
 simp only [Bool.and_eq_true, decide_eq_true_eq] at h
 obtain ⟨⟨h1, h2⟩, h3⟩ := h
 match vs, h1, h2, h3 with
 | v1 :: v2 :: r, h1, h2, h3 => exact both (se_fstr (ih_a _ XP _ _ _ _ _ S T _ h3) h2) rfl
theorem cJ_nil {cf : CF} {W : Wd} : QJ cf W .nil := by
 intro X XP k sc N mp m S T e h
 cases e with
 | nil => exact sj_nil
 | cons _ _ => simp [IJ.chk] at h
theorem cJ_con {cf : CF} {W : Wd} (z : Str) (r : IJ) (ih_r : QJ cf W r) : QJ cf W (.con z r) := by
 intro X XP k sc N mp m S T e h
 cases e with
 | nil => simp [IJ.chk] at h
 | cons x xs =>
  simp only [IJ.chk, Bool.and_eq_true, decide_eq_true_eq] at h
  obtain ⟨⟨g0, h2⟩, h3⟩ := h
  obtain ⟨⟨c, j, p⟩, eu, h⟩ := okO_inv g0
  obtain ⟨y, ey, h⟩ := okO_inv h
  cases unCon_inv eu
  cases cStr_inv ey
  cases of_decide_eq_true h
  exact sj_con h2 (ih_r _ XP _ _ _ _ _ S T xs h3)
theorem cJ_val {cf : CF} {W : Wd} (a : IE) (r : IJ) (ih_a : QE cf W a) (ih_r : QJ cf W r) : QJ cf W (.val a r) := by
 intro X XP k sc N mp m S T e h
 cases e with
 | nil => simp [IJ.chk] at h
 | cons x xs =>
  simp only [IJ.chk, Bool.and_eq_true] at h
  obtain ⟨g0, h3⟩ := h
  obtain ⟨⟨v, p⟩, eu, h⟩ := okO_inv g0
  cases unFv_inv eu
  exact sj_val (ih_a _ XP _ _ _ _ _ S T v h).1 (ih_r _ XP _ _ _ _ _ S T xs h3)
theorem cE_ends {cf : CF} {W : Wd} (a b : IE) (ih_a : QE cf W a) (ih_b : QE cf W b) : QE cf W (.ends a b) := by
 intro X XP k sc N mp m S T e g0
 simp only [IE.chk] at g0
 obtain ⟨⟨o, nm, p2, x, q⟩, eu, h⟩ := okO_inv g0
 cases unMg_inv eu
 simp only [Bool.and_eq_true, decide_eq_true_eq] at h
 obtain ⟨⟨⟨⟨⟨h1, h2⟩, h3⟩, h4⟩, h5⟩, h6⟩ := h
 exact both (se_ends h2 (ih_a _ _ _ _ _ _ _ S T o h5).1 (ih_b _ _ _ _ _ _ _ S T x h6).1 (base_of h1) (star_of h3) h4) rfl
theorem cE_sint {cf : CF} {W : Wd} (a : IE) (ih_a : QE cf W a) : QE cf W (.sint a) := by
 intro X XP k sc N mp m S T e h
 simp only [IE.chk] at h
 split at h
 ·rename_i f p x q eu
  cases un1_inv eu
  simp only [Bool.and_eq_true] at h
  obtain ⟨⟨h1, h2⟩, h3⟩ := h
  exact both (se_t1 cs_sint (bi_of S T h1 boot_intW (by decide) (by decide)) (ih_a _ _ _ _ _ _ _ S T x h3).1 (star_of h2)) rfl
 ·cases h
theorem cE_cutS {cf : CF} {W : Wd} (a : IE) (lo hi : IP) (ih_a : QE cf W a) (ih_lo : QP cf W lo) (ih_hi : QP cf W hi) : QE cf W (.cutS a lo hi) := by
 intro X XP k sc N mp m S T e h
 simp only [IE.chk] at h
 split at h
 ·rename_i x l u p2 q eu
  cases unCut_inv eu
  simp only [Bool.and_eq_true] at h
  obtain ⟨⟨h1, h2⟩, h3⟩ := h
  exact both (se_cutS (ih_a _ _ _ _ _ _ _ S T x h1).1 (ih_lo _ _ _ _ _ _ _ S T l h2) (ih_hi _ _ _ _ _ _ _ S T u h3)) rfl
 ·cases h
theorem cN_split {cf : CF} {W : Wd} (a b : IE) (ih_a : QE cf W a) (ih_b : QE cf W b) : QN cf W (.split a b) := by
 intro X XP k sc N mp m S T e g0
 simp only [IN.chk] at g0
 obtain ⟨⟨o, nm, p2, x, q⟩, eu, h⟩ := okO_inv g0
 cases unMg_inv eu
 simp only [Bool.and_eq_true, decide_eq_true_eq] at h
 obtain ⟨⟨⟨⟨⟨h1, h2⟩, h3⟩, h4⟩, h5⟩, h6⟩ := h
 exact ⟨sn_split h2 (ih_a _ _ _ _ _ _ _ S T o h5).1 (ih_b _ _ _ _ _ _ _ S T x h6).1 (base_of h1) (star_of h3) h4, noComp (fun _ _ _ _ q => nomatch q)⟩
theorem cI_chars {cf : CF} {W : Wd} (a : IE) (ih_a : QE cf W a) : QI cf W (.chars a) := by
 intro X XP k sc N mp m S T tg e h
 exact si_chars (ih_a _ _ _ _ _ _ _ S T e h).1
theorem cO_pair {cf : CF} {W : Wd} (a : IE) (o : IO) (ih_a : QE cf W a) (ih_o : QO cf W o) : QO cf W (.pair a o) := by
 intro X XP k sc N mp m S T e g0
 simp only [IO.chk] at g0
 obtain ⟨⟨es, kk, p⟩, eu, g1⟩ := okO_inv g0
 obtain ⟨⟨x, y⟩, ez, h⟩ := okO_inv g1
 cases unTup_inv eu
 cases two2_inv ez
 simp only [Bool.and_eq_true] at h
 obtain ⟨⟨⟨h1, h2⟩, h3⟩, h4⟩ := h
 exact so_pair (ih_a _ XP _ _ _ _ _ S T x h3).1 (ih_o _ XP _ _ _ _ _ S T y h4) (star_of h1) (star_of h2)
theorem snd_E (cf : CF) (W : Wd) (a : IE) : QE cf W a := IE.rec (motive_1 := QE cf W) (motive_2 := QL cf W) (motive_3 := QA cf W) (motive_4 := QN cf W) (motive_5 := QP cf W) (motive_6 := QI cf W) (motive_7 := QC cf W) (motive_8 := QO cf W) (motive_9 := QJ cf W) cE_var cE_frz cE_cint cE_cstr cE_cbool cE_cnone cE_gint cE_gstr cE_tup cE_new cE_bin cE_cmp cE_chain cE_not cE_neg cE_and cE_or cE_ite cE_ix cE_len cE_int cE_all cE_tuple cE_isi cE_min cE_max cE_call cE_callw cE_sadd cE_sin cE_slen cE_str cE_join cE_six cE_fstr cE_ends cE_sint cE_cutS cL_nil cL_cons cA_nil cA_cons cA_io cA_tmp cN_lst cN_cat cN_list cN_comp cN_split cP_non cP_one cI_list cI_tup cI_range cI_chars cC_yes cC_one cO_dat cO_own cO_call cO_move cO_pair cJ_nil cJ_con cJ_val a
theorem snd_A (cf : CF) (W : Wd) (a : IA) : QA cf W a := IA.rec (motive_1 := QE cf W) (motive_2 := QL cf W) (motive_3 := QA cf W) (motive_4 := QN cf W) (motive_5 := QP cf W) (motive_6 := QI cf W) (motive_7 := QC cf W) (motive_8 := QO cf W) (motive_9 := QJ cf W) cE_var cE_frz cE_cint cE_cstr cE_cbool cE_cnone cE_gint cE_gstr cE_tup cE_new cE_bin cE_cmp cE_chain cE_not cE_neg cE_and cE_or cE_ite cE_ix cE_len cE_int cE_all cE_tuple cE_isi cE_min cE_max cE_call cE_callw cE_sadd cE_sin cE_slen cE_str cE_join cE_six cE_fstr cE_ends cE_sint cE_cutS cL_nil cL_cons cA_nil cA_cons cA_io cA_tmp cN_lst cN_cat cN_list cN_comp cN_split cP_non cP_one cI_list cI_tup cI_range cI_chars cC_yes cC_one cO_dat cO_own cO_call cO_move cO_pair cJ_nil cJ_con cJ_val a
theorem snd_N (cf : CF) (W : Wd) (a : IN) : QN cf W a := IN.rec (motive_1 := QE cf W) (motive_2 := QL cf W) (motive_3 := QA cf W) (motive_4 := QN cf W) (motive_5 := QP cf W) (motive_6 := QI cf W) (motive_7 := QC cf W) (motive_8 := QO cf W) (motive_9 := QJ cf W) cE_var cE_frz cE_cint cE_cstr cE_cbool cE_cnone cE_gint cE_gstr cE_tup cE_new cE_bin cE_cmp cE_chain cE_not cE_neg cE_and cE_or cE_ite cE_ix cE_len cE_int cE_all cE_tuple cE_isi cE_min cE_max cE_call cE_callw cE_sadd cE_sin cE_slen cE_str cE_join cE_six cE_fstr cE_ends cE_sint cE_cutS cL_nil cL_cons cA_nil cA_cons cA_io cA_tmp cN_lst cN_cat cN_list cN_comp cN_split cP_non cP_one cI_list cI_tup cI_range cI_chars cC_yes cC_one cO_dat cO_own cO_call cO_move cO_pair cJ_nil cJ_con cJ_val a
theorem snd_I (cf : CF) (W : Wd) (a : II) : QI cf W a := II.rec (motive_1 := QE cf W) (motive_2 := QL cf W) (motive_3 := QA cf W) (motive_4 := QN cf W) (motive_5 := QP cf W) (motive_6 := QI cf W) (motive_7 := QC cf W) (motive_8 := QO cf W) (motive_9 := QJ cf W) cE_var cE_frz cE_cint cE_cstr cE_cbool cE_cnone cE_gint cE_gstr cE_tup cE_new cE_bin cE_cmp cE_chain cE_not cE_neg cE_and cE_or cE_ite cE_ix cE_len cE_int cE_all cE_tuple cE_isi cE_min cE_max cE_call cE_callw cE_sadd cE_sin cE_slen cE_str cE_join cE_six cE_fstr cE_ends cE_sint cE_cutS cL_nil cL_cons cA_nil cA_cons cA_io cA_tmp cN_lst cN_cat cN_list cN_comp cN_split cP_non cP_one cI_list cI_tup cI_range cI_chars cC_yes cC_one cO_dat cO_own cO_call cO_move cO_pair cJ_nil cJ_con cJ_val a
theorem snd_O (cf : CF) (W : Wd) (a : IO) : QO cf W a := IO.rec (motive_1 := QE cf W) (motive_2 := QL cf W) (motive_3 := QA cf W) (motive_4 := QN cf W) (motive_5 := QP cf W) (motive_6 := QI cf W) (motive_7 := QC cf W) (motive_8 := QO cf W) (motive_9 := QJ cf W) cE_var cE_frz cE_cint cE_cstr cE_cbool cE_cnone cE_gint cE_gstr cE_tup cE_new cE_bin cE_cmp cE_chain cE_not cE_neg cE_and cE_or cE_ite cE_ix cE_len cE_int cE_all cE_tuple cE_isi cE_min cE_max cE_call cE_callw cE_sadd cE_sin cE_slen cE_str cE_join cE_six cE_fstr cE_ends cE_sint cE_cutS cL_nil cL_cons cA_nil cA_cons cA_io cA_tmp cN_lst cN_cat cN_list cN_comp cN_split cP_non cP_one cI_list cI_tup cI_range cI_chars cC_yes cC_one cO_dat cO_own cO_call cO_move cO_pair cJ_nil cJ_con cJ_val a
end
end L3
set_option maxHeartbeats 4000000
namespace L3
open PySem PySem.Spec PyProof.Rows L2
mutual
inductive IS where
 | pass
 | bad
 | asg (s i : Nat) (o : IO)
 | asgT (t : IT) (e : IE)
 | ite (c : IE) (a b : IB)
 | loop (t : IT) (src : II) (b : IB)
 | ret (o : IO)
 | app (s i : Nat) (e : IE)
 | set (s i : Nat) (ie ve : IE)
 | appT (s i : Nat) (k : IE) (w : IW)
 | raise (x : Str)
 | star (s i t j : Nat) (e : IE)
inductive IB where
 | nil
 | cons (s : IS) (b : IB)
 | disp (s i : Nat) (x : Str) (kf : List (Str × Str)) (n : Nat) (e : IE) (a : IA)
end
mutual
noncomputable def IS.ex (cf : CF) (io : List Nat) : IS → SM
 | .pass => sNext
 | .bad => sBad
 | .asg _ i o => sAsg io i (o.ev cf)
 | .asgT t e => sAsgT t (e.ev cf).1
 | .ite c a b => sIf (c.ev cf).2 (a.ex cf io) (b.ex cf io)
 | .loop t src b => sFor t (src.ev cf) (b.ex cf io)
 | .ret o => sRet (o.ev cf)
 | .app _ i e => sApp i (e.ev cf).1
 | .set _ i ie ve => sSet i (ie.ev cf).1 (ve.ev cf).1
 | .appT _ i k w => sAppT i (k.ev cf).1 w
 | .raise x => sRaise x
 | .star _ i _ j e => sStar io i j (e.ev cf).1
noncomputable def IB.ex (cf : CF) (io : List Nat) : IB → SM
 | .nil => sNext
 | .cons s .nil => s.ex cf io
 | .cons s b => sSeq (s.ex cf io) (b.ex cf io)
 | .disp _ i _ kf _ e a => sDisp io kf cf i (e.ev cf).1 (a.ev cf)
end
noncomputable def asgComp : IO → Option IN
 | .own n => some n
 | .dat (.new n) => some n
 | _ => none
noncomputable def asgOk (o : IO) : Expr → Bool
 | .ListComp .. => (asgComp o).isSome
 | .SetComp .. => false
 | .DictComp .. => false
 | _ => true
noncomputable def usPass : Stmt → Option Pos
 | .Pass p => some p
 | _ => none
noncomputable def usExpr : Stmt → Option (Expr × Pos)
 | .Expr x p => some (x, p)
 | _ => none
noncomputable def usIf : Stmt → Option (Expr × List Stmt × List Stmt × Pos)
 | .If x xs ys p => some (x, xs, ys, p)
 | _ => none
noncomputable def usFor : Stmt → Option (Expr × Expr × List Stmt × List Stmt × Pos)
 | .For tg it b e p => some (tg, it, b, e, p)
 | _ => none
noncomputable def usRet : Stmt → Option (Option Expr × Pos)
 | .Return x p => some (x, p)
 | _ => none
noncomputable def usAsg : Stmt → Option (List Expr × Expr × Pos)
 | .Assign ts e p => some (ts, e, p)
 | _ => none
theorem usPass_inv {e : Stmt} {p : Pos} (h : usPass e = some p) : e = .Pass p := by cases e <;> cases h <;> rfl
theorem usExpr_inv {e : Stmt} {x : Expr} {p : Pos} (h : usExpr e = some (x, p)) : e = .Expr x p := by cases e <;> cases h <;> rfl
theorem usIf_inv {e : Stmt} {x : Expr} {xs ys : List Stmt} {p : Pos} (h : usIf e = some (x, xs, ys, p)) : e = .If x xs ys p := by cases e <;> cases h <;> rfl
theorem usFor_inv {e : Stmt} {x y : Expr} {xs ys : List Stmt} {p : Pos} (h : usFor e = some (x, y, xs, ys, p)) : e = .For x y xs ys p := by cases e <;> cases h <;> rfl
theorem usRet_inv {e : Stmt} {x : Option Expr} {p : Pos} (h : usRet e = some (x, p)) : e = .Return x p := by cases e <;> cases h <;> rfl
theorem usAsg_inv {e : Stmt} {ts : List Expr} {x : Expr} {p : Pos} (h : usAsg e = some (ts, x, p)) : e = .Assign ts x p := by cases e <;> cases h <;> rfl
noncomputable def unApp (s : Stmt) : Option (Str × Pos × Str × Pos × List Expr × Pos × Pos) := (usExpr s).bind fun (e, q2) => (unMe e).map fun (x, p, f, p2, xs, q) => (x, p, f, p2, xs, q, q2)
theorem unApp_inv {st : Stmt} {x f : Str} {p p2 q q2 : Pos} {xs : List Expr} (h : unApp st = some (x, p, f, p2, xs, q, q2)) : st = .Expr (.Call (.Attribute (.Name x p) f p2) xs [] q) q2 := by
 unfold unApp at h
 cases e1 : usExpr st with
 | none => rw [e1] at h; cases h
 | some z =>
  obtain ⟨e, q3⟩ := z
  cases e2 : unMe e with
  | none => simp [e1, e2] at h
  | some z =>
   obtain ⟨a1, a2, a3, a4, a5, a6⟩ := z
   simp [e1, e2] at h
   obtain ⟨rfl, rfl, rfl, rfl, rfl, rfl, rfl⟩ := h
   rw [usExpr_inv e1, unMe_inv e2]
noncomputable def unAs1 (s : Stmt) : Option (Expr × Expr × Pos) := (usAsg s).bind fun (ts, e, q) => (one1 ts).map fun t => (t, e, q)
theorem unAs1_inv {st : Stmt} {t e : Expr} {q : Pos} (h : unAs1 st = some (t, e, q)) : st = .Assign [t] e q := by
 unfold unAs1 at h
 cases e1 : usAsg st with
 | none => rw [e1] at h; cases h
 | some z =>
  obtain ⟨ts, e', q'⟩ := z
  cases e2 : one1 ts with
  | none => simp [e1, e2] at h
  | some t' =>
   simp [e1, e2] at h
   obtain ⟨rfl, rfl, rfl⟩ := h
   rw [usAsg_inv e1, one1_inv e2]
noncomputable def unApS (s : Stmt) : Option (Str × Pos × Expr × Pos × Str × Pos × List Expr × Pos × Pos) := (usExpr s).bind fun (e, q2) => (unCal e).bind fun (f, xs, ks, q) => match ks with
 | [] => (unAtt f).bind fun (z, m, p2) => (unSub z).bind fun (y, b, p3) => (unName y).map fun (x, p) => (x, p, b, p3, m, p2, xs, q, q2)
 | _ :: _ => none
theorem unApS_inv {st : Stmt} {x f : Str} {b : Expr} {p p2 p3 q q2 : Pos} {xs : List Expr} (h : unApS st = some (x, p, b, p3, f, p2, xs, q, q2)) : st = .Expr (.Call (.Attribute (.Subscript (.Name x p) b p3) f p2) xs [] q) q2 := by
 unfold unApS at h
 cases e1 : usExpr st with
 | none => rw [e1] at h; cases h
 | some z =>
  obtain ⟨e, q3⟩ := z
  cases e2 : unCal e with
  | none => simp [e1, e2] at h
  | some z =>
   obtain ⟨g, ys, ks, q'⟩ := z
   cases ks with
   | cons _ _ => simp [e1, e2] at h
   | nil =>
    cases e3 : unAtt g with
    | none => simp [e1, e2, e3] at h
    | some z =>
     obtain ⟨w, m, p4⟩ := z
     cases e4 : unSub w with
     | none => simp [e1, e2, e3, e4] at h
     | some z =>
      obtain ⟨y, b', p5⟩ := z
      cases e5 : unName y with
      | none => simp [e1, e2, e3, e4, e5] at h
      | some z =>
       obtain ⟨x', p6⟩ := z
       simp [e1, e2, e3, e4, e5] at h
       obtain ⟨rfl, rfl, rfl, rfl, rfl, rfl, rfl, rfl, rfl⟩ := h
       rw [usExpr_inv e1, unCal_inv e2, unAtt_inv e3, unSub_inv e4, unName_inv e5]
noncomputable def usRaise : Stmt → Option (Option Expr × Option Expr × Pos)
 | .Raise x y p => some (x, y, p)
 | _ => none
theorem usRaise_inv {e : Stmt} {x y : Option Expr} {p : Pos} (h : usRaise e = some (x, y, p)) : e = .Raise x y p := by cases e <;> cases h <;> rfl
noncomputable def locB (sc : Scope) (x : Str) : Bool := decide (sc.names.lookup x = some .local) || decide (sc.names.lookup x = some .cell)
noncomputable def excB (W : Wd) (sc : Scope) (x : Str) : Bool := gloB sc x && W.ex.contains x && !(x == ("__debug__" : Str))
noncomputable def unStr : Expr → Option (Expr × Pos)
 | .Starred x p => some (x, p)
 | _ => none
theorem unStr_inv {e x : Expr} {p : Pos} (h : unStr e = some (x, p)) : e = .Starred x p := by cases e <;> cases h <;> rfl
noncomputable def chkW (sc : Scope) (N : List Str) (mp : List Nat) : IW → Expr → Bool
 | .v s i, e => okO (unName e) fun x => nmB sc N mp s i x.1
 | .c n, e => okO (unCon e) fun c => okO (cInt c.1) fun j => decide (n = j)
noncomputable def notComp : Expr → Bool
 | .ListComp .. => false
 | .SetComp .. => false
 | .DictComp .. => false
 | _ => true
noncomputable def notTupComp : Expr → Bool
 | .Tuple .. => false
 | .ListComp .. => false
 | .SetComp .. => false
 | .DictComp .. => false
 | _ => true
mutual
noncomputable def IS.chk (W : Wd) (sc : Scope) (N : List Str) (mp : List Nat) (m np : Nat) : IS → Stmt → Bool
 | .pass, st => okO (usPass st) fun _ => true
 | .bad, _ => true
 | .asg s i o, st => okO (unAs1 st) fun z => okO (unName z.1) fun x => decide (N[s]? = some x.1) && decide (mp[s]? = some i) && (decide (sc.names.lookup x.1 = some .local) || decide (sc.names.lookup x.1 = some .cell)) && asgOk o z.2.1 && o.chk W sc N mp m z.2.1
 | .asgT t e, st => okO (unAs1 st) fun z => isTup z.1 && notTupComp z.2.1 && chkT sc N mp np t z.1 && e.chk W sc N mp m z.2.1
 | .ite c a b, st => okO (usIf st) fun z => c.chk W sc N mp m z.1 && a.chk W sc N mp m np z.2.1 && b.chk W sc N mp m np z.2.2.1
 | .loop t src b, st => okO (usFor st) fun z => z.2.2.2.1.isEmpty && notSet z.2.1 && chkT sc N mp np t z.1 && src.chk W sc N mp m z.2.1 z.1 && b.chk W sc N mp m np z.2.2.1
 | .ret o, st => okO (usRet st) fun z => okO z.1 fun x => o.chk W sc N mp m x
 | .app s i e, st => okO (unApp st) fun (x, _, f, p2, xs, q, _) => okO (one1 xs) fun a => nmB sc N mp s i x && decide (f = "append") && notStar a && (p2.endLine == q.line) && e.chk W sc N mp m a
 | .set s i ie ve, st => okO (unAs1 st) fun z => okO (unSub z.1) fun y => okO (unName y.1) fun x => nmB sc N mp s i x.1 && notSlice y.2.1 && notComp z.2.1 && ie.chk W sc N mp m y.2.1 && ve.chk W sc N mp m z.2.1
 | .appT s i k w, st => okO (unApS st) fun (x, _, b, _, f, p2, xs, q, _) => okO (one1 xs) fun a => nmB sc N mp s i x && decide (f = "append") && notStar a && (p2.endLine == q.line) && notSlice b && k.chk W sc N mp m b && chkW sc N mp w a
 | .raise x, st => okO (usRaise st) fun z => z.2.1.isNone && okO z.1 fun e => okO (un1 e) fun (f, _, a, _) => decide (f = x) && excB W sc x && okO (unCon a) fun c => okO (cStr c.1) fun _ => true
 | .star s i t j e, st => okO (unAs1 st) fun z => okO (unTup z.1) fun w => okO (two2 w.1) fun ab => okO (unName ab.1) fun x => okO (unStr ab.2) fun c => okO (unName c.1) fun y => decide (N[s]? = some x.1) && decide (mp[s]? = some i) && locB sc x.1 && decide (N[t]? = some y.1) && decide (mp[t]? = some j) && locB sc y.1 && notTupComp z.2.1 && e.chk W sc N mp m z.2.1
noncomputable def IB.chk (W : Wd) (sc : Scope) (N : List Str) (mp : List Nat) (m np : Nat) : IB → List Stmt → Bool
 | .nil, [] => true
 | .cons s b, x :: xs => s.chk W sc N mp m np x && b.chk W sc N mp m np xs
 | .disp s i x kf n e a, xs => okO (two2 xs) fun z => okO (unAs1 z.1) fun (t, v, _) => okO (unName t) fun r => okO (unSub v) fun (d, w, _) => okO (unName d) fun y => okO (usRet z.2) fun (o, _) => okO o fun c => okO (unN c) fun (g, _, as, _) =>
  decide (N[s]? = some r.1) && decide (mp[s]? = some i) && locB sc r.1 && !(r.1 == ("__debug__" : Str)) && !(r.1 == ("__classdict__" : Str)) && decide (x = y.1) && gloB sc x && W.gd.contains (x, kf) && !(x == ("__debug__" : Str)) && notSlice w && decide (g = r.1) && kf.all (fun p => W.fl.contains (p.2, n)) && !as.isEmpty && as.all notStar && e.chk W sc N mp m w && a.chk W sc N mp m as
 | _, _ => false
end
theorem swaps_none {e : Expr} {t : Option Expr} {l : Nat} {env : Env} (h : notTupComp e = true) : swapsWith e t l env = pure false := by
 cases e <;> first | rfl | (simp [notTupComp] at h)
theorem swaps_sole {t e : Expr} {l : Nat} {env : Env} (h : notTupComp e = true) : swapsWithSole [t] e l env = pure false := swaps_none (t := some t) h
theorem stores_none {t e : Expr} {env : Env} (h : notTupComp e = true) : swappedStores [t] e env = pure none := by
 cases e <;> first | (cases t <;> rfl) | (simp [notTupComp] at h)
theorem swaps_sub {x y e : Expr} {p : Pos} {l : Nat} {env : Env} (h : notComp e = true) : swapsWithSole [.Subscript x y p] e l env = pure false := by
 show swapsWith e (some (.Subscript x y p)) l env = pure false
 cases e <;> first | rfl | (simp [notComp] at h)
theorem stores_sub {x y e : Expr} {p : Pos} {env : Env} : swappedStores [.Subscript x y p] e env = pure none := by
 cases e <;> rfl
theorem swaps_asg {o : IO} {e : Expr} {x : Str} {p : Pos} {l : Nat} {env : Env} (h : asgOk o e = true) (hn : ∀ a b c d, e ≠ .ListComp a b c d) : swapsWith e (some (.Name x p)) l env = pure false := by
 cases e with
 | ListComp a b c d => exact absurd rfl (hn a b c d)
 | SetComp => simp [asgOk] at h
 | DictComp => simp [asgOk] at h
 | _ => rfl
theorem swaps_comp {elt : Expr} {gens : List Comprehension} {scope : Scope} {q : Pos} {x : Str} {p : Pos} {l : Nat} {env : Env} : ∃ b : Bool, swapsWith (.ListComp elt gens scope q) (some (.Name x p)) l env = pure b := ⟨_, rfl⟩
theorem assign_sub {o b : Expr} {p : Pos} {env : Env} (h : notSlice b = true) (v : Value) : assign (.Subscript o b p) env v = (do
  let ov ← holding [v] (eval o env)
  let iv ← holding [v, ov] (eval b env)
  standAt p
  holding [v, ov, iv] (setItem ov iv v)
  release [v, ov, iv] []) := by
 cases b <;> first | rfl | (simp [notSlice] at h)
structure XB (X : Cx) (XP : XPT) (mp io : List Nat) (np : Nat) : Prop where
 po : PassesOwn (model X.prog X.w) X.A X.env X.xe
 nd : X.N.Nodup
 mn : mp.Nodup
 io : ∀ i ∈ io, i < np
 rz : RzOk X XP
 sk : X.stack = X.env :: X.outer
 fr : X.env.frame = some X.env.locals
noncomputable abbrev QS (cf : CF) (W : Wd) (a : IS) : Prop := ∀ (X : Cx) (XP : XPT) (k : Nat) (sc : Scope) (N : List Str) (mp : List Nat) (m np : Nat) (io : List Nat), XSc X sc N → XW X cf W k → XB X XP mp io np → ∀ (e : Stmt), a.chk W sc N mp m np e = true → SS X XP mp io e (a.ex cf io)
noncomputable abbrev QB (cf : CF) (W : Wd) (a : IB) : Prop := ∀ (X : Cx) (XP : XPT) (k : Nat) (sc : Scope) (N : List Str) (mp : List Nat) (m np : Nat) (io : List Nat), XSc X sc N → XW X cf W k → XB X XP mp io np → ∀ (e : List Stmt), a.chk W sc N mp m np e = true → SB X XP mp io e (a.ex cf io)
section
variable {cf : CF} {W : Wd}
theorem cS_pass : QS cf W .pass := by
 intro X XP k sc N mp m np io S T B e g0
 simp only [IS.chk] at g0
 obtain ⟨p, eu, _⟩ := okO_inv g0
 cases usPass_inv eu
 exact ss_pass
theorem cS_bad : QS cf W .bad := fun X XP k sc N mp m np io S T B e h => ss_bad
theorem cS_asg (s i : Nat) (o : IO) : QS cf W (.asg s i o) := by
 intro X XP k sc N mp m np io S T B st g0
 simp only [IS.chk] at g0
 obtain ⟨⟨tx, e, q⟩, eu, g1⟩ := okO_inv g0
 obtain ⟨⟨x, p⟩, ex, h⟩ := okO_inv g1
 ·cases unAs1_inv eu
  cases unName_inv ex
  simp only [Bool.and_eq_true, Bool.or_eq_true, decide_eq_true_eq] at h
  obtain ⟨⟨⟨⟨h1, h2⟩, h3⟩, h4⟩, h5⟩ := h
  have hi : X.N[s]? = some x := by rw [S.hN]; exact h1
  have hx : Loc X.env.scope x := by
   rcases h3 with h3 | h3
   ·exact .inl (S.loc x h3)
   ·exact .inr (S.cel x h3).1
  have hf : X.fn x = true ∨ X.env.scope.names.lookup x = some .local := by
   rcases h3 with h3 | h3
   ·exact .inr (S.loc x h3)
   ·exact .inl (S.cel x h3).2
  have plain : swapsWith e (some (.Name x p)) q.line X.env = pure false → SS X XP mp io (.Assign [.Name x p] e q) (sAsg io i (o.ev cf)) := fun hsw =>
   ss_asg B.nd hi hx hf B.mn h2 (snd_O cf W o _ XP _ _ _ _ _ S T e h5) hsw
  by_cases hl : ∃ a b c d, e = .ListComp a b c d
  ·obtain ⟨elt, gens, scope, pc, rfl⟩ := hl
   obtain ⟨bb, hb⟩ := swaps_comp (elt := elt) (gens := gens) (scope := scope) (q := pc) (x := x) (p := p) (l := q.line) (env := X.env)
   cases bb with
   | false => exact plain hb
   | true =>
    have go : ∀ (n : IN), n.chk W sc N mp m (.ListComp elt gens scope pc) = true → ∀ (fo : EM OV), (∀ t, SNt XP mp t (n.ev cf) → SOt XP mp t fo) → SS X XP mp io (.Assign [.Name x p] (.ListComp elt gens scope pc) q) (sAsg io i fo) := fun n hn fo hfo => by
     obtain ⟨tg, iter, ifs, N', kk, ix, rfl, C, hfold, hs⟩ := (snd_N cf W n _ XP _ _ _ _ _ S T _ hn).2 elt gens scope pc rfl
     exact ss_asgT (ps_setU B.nd hi hx T.calm C hb hfold hf) B.mn h2 (List.getElem?_eq_some_iff.mp hi).1 (hfo _ hs)
    cases o with
    | own n => exact go n h5 _ fun t ht => ht.so
    | dat a =>
     cases a with
     | new n => exact go n (by simp only [IO.chk, IE.chk, Bool.and_eq_true] at h5; exact h5.2) _ fun t ht => ht.sd
     | _ => simp [asgOk, asgComp] at h4
    | call _ _ _ => simp [asgOk, asgComp] at h4
    | move _ _ => simp [asgOk, asgComp] at h4
    | pair _ _ => simp [asgOk, asgComp] at h4
  ·exact plain (swaps_asg h4 fun a b c d z => hl ⟨a, b, c, d, z⟩)
theorem cS_asgT (t : IT) (e : IE) : QS cf W (.asgT t e) := by
 intro X XP k sc N mp m np io S T B st g0
 simp only [IS.chk] at g0
 obtain ⟨⟨tx, x, q⟩, eu, h⟩ := okO_inv g0
 simp only [Bool.and_eq_true] at h
 obtain ⟨⟨⟨h0, h1⟩, h2⟩, h3⟩ := h
 cases unAs1_inv eu
 cases tx with
 | Tuple ts n p =>
  have hg := sound_T (kp := (· ∈ io)) S (by rw [← S.hN]; exact B.nd) B.mn T.calm (fun i hi hm => absurd (B.io i hm) (by omega)) t _ h2
  exact ss_asgTg (snd_E cf W e _ XP _ _ _ _ _ S T x h3).1 hg (swaps_sole h1) (stores_none h1) (ps_asg pe_self pg_self (swaps_sole h1) (stores_none h1))
 | _ => cases h0
theorem cS_ite (c : IE) (a b : IB) (ih_a : QB cf W a) (ih_b : QB cf W b) : QS cf W (.ite c a b) := by
 intro X XP k sc N mp m np io S T B e g0
 simp only [IS.chk] at g0
 obtain ⟨⟨x, xs, ys, p⟩, eu, h⟩ := okO_inv g0
 cases usIf_inv eu
 simp only [Bool.and_eq_true] at h
 obtain ⟨⟨h1, h2⟩, h3⟩ := h
 exact ss_if (snd_E cf W c _ XP _ _ _ _ _ S T x h1).2 (ih_a _ XP _ _ _ _ _ _ _ S T B xs h2) (ih_b _ XP _ _ _ _ _ _ _ S T B ys h3)
theorem cS_loop (t : IT) (src : II) (b : IB) (ih_b : QB cf W b) : QS cf W (.loop t src b) := by
 intro X XP k sc N mp m np io S T B e g0
 simp only [IS.chk] at g0
 obtain ⟨⟨tg, iter, body, els, p⟩, eu, h⟩ := okO_inv g0
 cases usFor_inv eu
 simp only [Bool.and_eq_true] at h
 obtain ⟨⟨⟨⟨h0, h1⟩, h2⟩, h3⟩, h4⟩ := h
 cases els with
 | cons _ _ => cases h0
 | nil =>
  have hg := sound_T (kp := (· ∈ io)) S (by rw [← S.hN]; exact B.nd) B.mn T.calm (fun i hi hm => absurd (B.io i hm) (by omega)) t _ h2
  exact ss_for B.po T.calm (snd_I cf W src _ XP _ _ _ _ _ S T tg iter h3) hg (ih_b _ XP _ _ _ _ _ _ _ S T B body h4) (folded_of h1)
theorem cS_ret (o : IO) : QS cf W (.ret o) := by
 intro X XP k sc N mp m np io S T B e g0
 simp only [IS.chk] at g0
 obtain ⟨⟨x, p⟩, eu, g1⟩ := okO_inv g0
 obtain ⟨y, ey, h⟩ := okO_inv g1
 cases usRet_inv eu
 cases ey
 exact ss_ret (snd_O cf W o _ XP _ _ _ _ _ S T y h)
theorem cS_app (s i : Nat) (e : IE) : QS cf W (.app s i e) := by
 intro X XP k sc N mp m np io S T B st g0
 simp only [IS.chk] at g0
 obtain ⟨⟨x, p, f, p2, xs, q, q2⟩, eu, g1⟩ := okO_inv g0
 obtain ⟨a, ea, h⟩ := okO_inv g1
 cases unApp_inv eu
 cases one1_inv ea
 simp only [Bool.and_eq_true, decide_eq_true_eq] at h
 obtain ⟨⟨⟨⟨h1, h2⟩, h3⟩, h4⟩, h5⟩ := h
 subst h2
 exact ss_app (nm_of S h1) (snd_E cf W e _ XP _ _ _ _ _ S T a h5).1 (star_of h3) h4
theorem cS_set (s i : Nat) (ie ve : IE) : QS cf W (.set s i ie ve) := by
 intro X XP k sc N mp m np io S T B st g0
 simp only [IS.chk] at g0
 obtain ⟨⟨tx, a, q⟩, eu, g1⟩ := okO_inv g0
 obtain ⟨⟨tn, b, p2⟩, et, g2⟩ := okO_inv g1
 obtain ⟨⟨x, p⟩, ex, h⟩ := okO_inv g2
 cases unAs1_inv eu
 cases unSub_inv et
 cases unName_inv ex
 simp only [Bool.and_eq_true] at h
 obtain ⟨⟨⟨⟨h1, h2⟩, h3⟩, h4⟩, h5⟩ := h
 exact ss_set (nm_of S h1) (snd_E cf W ie _ XP _ _ _ _ _ S T b h4).1 (snd_E cf W ve _ XP _ _ _ _ _ S T a h5).1 (swaps_sub h3) stores_sub (fun he hg => ps_asg he hg (swaps_sub h3) stores_sub) (fun ho hi hs => pg_sub ho hi hs (assign_sub h2))
theorem wok_of {X : Cx} {sc : Scope} {N : List Str} {mp : List Nat} (S : XSc X sc N) : ∀ (w : IW) (e : Expr), chkW sc N mp w e = true → WOk X mp e w
 | .v s i, e, h => by
  simp only [chkW] at h
  obtain ⟨⟨x, p⟩, eu, h⟩ := okO_inv h
  cases unName_inv eu
  exact wok_v (nm_of S h)
 | .c n, e, h => by
  simp only [chkW] at h
  obtain ⟨⟨c, j, p⟩, eu, h⟩ := okO_inv h
  obtain ⟨z, ez, h⟩ := okO_inv h
  cases unCon_inv eu
  cases cInt_inv ez
  cases of_decide_eq_true h
  exact wok_c
theorem cS_appT (s i : Nat) (e : IE) (w : IW) : QS cf W (.appT s i e w) := by
 intro X XP k sc N mp m np io S T B st g0
 simp only [IS.chk] at g0
 obtain ⟨⟨x, p, b, p3, f, p2, xs, q, q2⟩, eu, g1⟩ := okO_inv g0
 obtain ⟨a, ea, h⟩ := okO_inv g1
 cases unApS_inv eu
 cases one1_inv ea
 simp only [Bool.and_eq_true, decide_eq_true_eq] at h
 obtain ⟨⟨⟨⟨⟨⟨h1, h2⟩, h3⟩, h4⟩, h5⟩, h6⟩, h7⟩ := h
 subst h2
 exact ss_appT (nm_of S h1) (snd_E cf W e _ XP _ _ _ _ _ S T b h6).1 (plainIx_of h5) (wok_of S w a h7) (star_of h3) h4
theorem loc_of {X : Cx} {sc : Scope} {N : List Str} {x : Str} (S : XSc X sc N) (h : locB sc x = true) : Loc X.env.scope x ∧ (X.fn x = true ∨ X.env.scope.names.lookup x = some .local) := by
 unfold locB at h
 simp only [Bool.or_eq_true, decide_eq_true_eq] at h
 rcases h with h | h
 ·exact ⟨.inl (S.loc x h), .inr (S.loc x h)⟩
 ·exact ⟨.inr (S.cel x h).1, .inl (S.cel x h).2⟩
theorem exc_of {X : Cx} {sc : Scope} {N : List Str} {x : Str} {k : Nat} (S : XSc X sc N) (T : XW X cf W k) (h : excB W sc x = true) : ∃ C, ExcK X x C ∧ W.ex.contains x = true := by
 unfold excB at h
 simp only [Bool.and_eq_true] at h
 obtain ⟨⟨h1, h2⟩, h3⟩ := h
 obtain ⟨C, e1, e2⟩ := T.ex x h2
 exact ⟨C, ⟨S.glo x h1, e1, e2, strne h3⟩, h2⟩
theorem cS_raise (x : Str) : QS cf W (.raise x) := by
 intro X XP k sc N mp m np io S T B st g0
 simp only [IS.chk] at g0
 obtain ⟨⟨ee, cz, p⟩, eu, g1⟩ := okO_inv g0
 simp only [Bool.and_eq_true] at g1
 obtain ⟨g1, g2⟩ := g1
 obtain ⟨e, ee1, g3⟩ := okO_inv g2
 obtain ⟨⟨f, p1, a, p2⟩, ea, g4⟩ := okO_inv g3
 simp only [Bool.and_eq_true, decide_eq_true_eq] at g4
 obtain ⟨⟨h1, h2⟩, g5⟩ := g4
 obtain ⟨⟨c, j, p3⟩, ec, g6⟩ := okO_inv g5
 obtain ⟨z, ez, _⟩ := okO_inv g6
 cases usRaise_inv eu
 cases ee1
 cases un1_inv ea
 cases unCon_inv ec
 cases cStr_inv ez
 subst h1
 cases cz with
 | some _ => cases g1
 | none =>
  obtain ⟨C, k, _⟩ := exc_of S T h2
  exact ss_raise k T.calm B.rz
theorem cS_star (s i t j : Nat) (e : IE) : QS cf W (.star s i t j e) := by
 intro X XP k sc N mp m np io S T B st g0
 simp only [IS.chk] at g0
 obtain ⟨⟨tg, v, p⟩, eu, g1⟩ := okO_inv g0
 obtain ⟨⟨es, kk, p2⟩, et, g2⟩ := okO_inv g1
 obtain ⟨⟨a, b⟩, eab, g3⟩ := okO_inv g2
 obtain ⟨⟨x, px⟩, ex, g4⟩ := okO_inv g3
 obtain ⟨⟨c, pc⟩, ec, g5⟩ := okO_inv g4
 obtain ⟨⟨y, py⟩, ey, h⟩ := okO_inv g5
 simp only [Bool.and_eq_true, decide_eq_true_eq] at h
 obtain ⟨⟨⟨⟨⟨⟨⟨h1, h2⟩, h3⟩, h4⟩, h5⟩, h6⟩, h7⟩, h8⟩ := h
 cases unAs1_inv eu
 cases unTup_inv et
 cases two2_inv eab
 cases unName_inv ex
 cases unStr_inv ec
 cases unName_inv ey
 obtain ⟨l1, l2⟩ := loc_of S h3
 obtain ⟨l3, l4⟩ := loc_of S h6
 exact ss_star T.calm B.nd B.mn (by rw [S.hN]; exact h1) l1 l2 h2 (by rw [S.hN]; exact h4) l3 l4 h5 (snd_E cf W e _ XP _ _ _ _ _ S T v h8).1 (swaps_sole h7) (stores_none h7)
theorem cB_nil : QB cf W .nil := by
 intro X XP k sc N mp m np io S T B e h
 cases e with
 | nil => exact sb_nil
 | cons _ _ => simp [IB.chk] at h
theorem sb_one {X : Cx} {XP : XPT} {mp io : List Nat} {st : Stmt} {f : SM} (h : SS X XP mp io st f) : SB X XP mp io [st] f := fun M0 F Γ ν σ H D rs hs hl hp => (pss_one ps_self).wp (h M0 F Γ ν σ H D rs hs hl hp)
theorem cB_cons (s : IS) (b : IB) (ih_s : QS cf W s) (ih_b : QB cf W b) : QB cf W (.cons s b) := by
 intro X XP k sc N mp m np io S T B e h
 cases e with
 | nil => simp [IB.chk] at h
 | cons x xs =>
  simp only [IB.chk, Bool.and_eq_true] at h
  have h1 := ih_s _ XP _ _ _ _ _ _ _ S T B x h.1
  have h2 := ih_b _ XP _ _ _ _ _ _ _ S T B xs h.2
  cases b with
  | nil =>
   cases xs with
   | nil => exact sb_one h1
   | cons _ _ => simp [IB.chk] at h
  | cons s' b' => exact sb_cons h1 h2
  | disp _ _ _ _ _ _ _ => exact sb_cons h1 h2
theorem lookup_mem {kf : List (Str × Str)} {k f : Str} (h : kf.lookup k = some f) : (k, f) ∈ kf := by
 induction kf with
 | nil => cases h
 | cons p r ih =>
  obtain ⟨a, b⟩ := p
  rw [List.lookup_cons] at h
  cases q : (k == a) with
  | true =>
   rw [q] at h
   cases h
   have := eq_of_beq q
   subst this
   exact List.mem_cons_self
  | false => rw [q] at h; exact List.mem_cons_of_mem _ (ih h)
theorem cB_disp (s i : Nat) (x : Str) (kf : List (Str × Str)) (n : Nat) (e : IE) (a : IA) : QB cf W (.disp s i x kf n e a) := by
 intro X XP k sc N mp m np io S T B xs g0
 simp only [IB.chk] at g0
 obtain ⟨⟨st1, st2⟩, e1, g1⟩ := okO_inv g0
 obtain ⟨⟨t, v, q2⟩, e2, g2⟩ := okO_inv g1
 obtain ⟨⟨r, pr⟩, e3, g3⟩ := okO_inv g2
 obtain ⟨⟨d, w, q1⟩, e4, g4⟩ := okO_inv g3
 obtain ⟨⟨y, py⟩, e5, g5⟩ := okO_inv g4
 obtain ⟨⟨o, q4⟩, e6, g6⟩ := okO_inv g5
 obtain ⟨c, e7, g7⟩ := okO_inv g6
 obtain ⟨⟨g, pg, as, q3⟩, e8, h⟩ := okO_inv g7
 simp only [Bool.and_eq_true, decide_eq_true_eq] at h
 obtain ⟨⟨⟨⟨⟨⟨⟨⟨⟨⟨⟨⟨⟨⟨⟨h1, h2⟩, h3⟩, h4⟩, h5⟩, h6⟩, h7⟩, h8⟩, h9⟩, h10⟩, h11⟩, h12⟩, h13⟩, h14⟩, h15⟩, h16⟩ := h
 cases two2_inv e1
 cases unAs1_inv e2
 cases unName_inv e3
 cases unSub_inv e4
 cases unName_inv e5
 cases usRet_inv e6
 cases e7
 cases unN_inv e8
 subst h6 h11
 cases as with
 | nil => cases h13
 | cons a1 as =>
  rw [List.all_cons, Bool.and_eq_true] at h14
  obtain ⟨l1, l2⟩ := loc_of S h3
  have hv : Vis X.env.scope g := by
   rcases l1 with z | z
   ·exact .inl z
   ·exact .inr (.inl z)
  have hN : X.N[s]? = some g := by rw [S.hN]; exact h1
  refine sb_disp (T.gd x kf h8) (S.glo _ h7) (strne h9) (fun key f hf => T.fn f n (List.all_eq_true.mp h12 _ (lookup_mem hf))) T.rm (snd_E cf W e _ XP _ _ _ _ _ S T w h15).1
   (sub_got (T.gd x kf h8) (S.glo _ h7) (strne h9) ?_ B.nd hN l1 rfl l2) hN hv (strne h4) (strne h5) B.mn h2 (snd_A cf W a _ XP _ _ _ _ _ S T (a1 :: as) h16) (star_of h14.1) (backTo_any (star_all h14.2))
  intro ov iv
  cases w <;> first | rfl | (simp [notSlice] at h10)
theorem snd_B (cf : CF) (W : Wd) (a : IB) : QB cf W a :=
 IB.rec (motive_1 := QS cf W) (motive_2 := QB cf W) cS_pass cS_bad cS_asg cS_asgT cS_ite cS_loop cS_ret cS_app cS_set cS_appT cS_raise cS_star cB_nil cB_cons cB_disp a
end
end L3
set_option maxHeartbeats 4000000
namespace L3
open PySem PySem.Spec PyProof.Rows L2
structure DefI where
 name : Str
 st : Stmt
 ps : List Str
 N : List Str
 mask : List Bool
 io : List Nat
 body : IB
noncomputable def outs : List Bool → Gv → List (Option OV)
 | [], _ => []
 | _ :: bs, [] => none :: outs bs []
 | b :: bs, x :: Γ => (if b then x else none) :: outs bs Γ
theorem outs_len : ∀ (bs : List Bool) (Γ : Gv), (outs bs Γ).length = bs.length
 | [], _ => rfl
 | _ :: bs, [] => by rw [outs, List.length_cons, outs_len, List.length_cons]
 | b :: bs, x :: Γ => by rw [outs, List.length_cons, outs_len, List.length_cons]
theorem outs_get : ∀ {bs : List Bool} {Γ : Gv} {j : Nat} {o : OV}, (outs bs Γ)[j]? = some (some o) → bs[j]? = some true ∧ Γ[j]? = some (some o)
 | [], _, _, _, h => by simp [outs] at h
 | b :: bs, [], 0, _, h => by simp [outs] at h
 | b :: bs, [], j + 1, o, h => by
  have := outs_get (bs := bs) (Γ := []) (j := j) (o := o) (by simpa [outs] using h)
  simp at this
 | b :: bs, x :: Γ, 0, o, h => by
  simp only [outs, List.getElem?_cons_zero, Option.some.injEq] at h
  split at h
  ·rename_i hb; subst h; exact ⟨by simp [hb], rfl⟩
  ·cases h
 | b :: bs, x :: Γ, j + 1, o, h => by
  have := outs_get (bs := bs) (Γ := Γ) (j := j) (o := o) (by simpa [outs] using h)
  simpa using this
noncomputable def fin (mask : List Bool) : R (FL × Gv) → RF
 | .ok (.ret o, Γ) => .ok o (outs mask Γ)
 | .ok (.next, Γ) => .ok (.d .none) (outs mask Γ)
 | .exc x _ => .exc x []
 | _ => .bad
noncomputable def DefI.run (d : DefI) (cf : CF) (args : List OV) : RF := if args.length = d.mask.length then fin d.mask (d.body.ex cf d.io (args.map some ++ List.replicate (d.N.length - d.mask.length) none)) else .bad
theorem DefI.run_len {d : DefI} {cf : CF} {args : List OV} {r : OV} {o : List (Option OV)} (h : d.run cf args = .ok r o) : args.length = d.mask.length := by
 unfold DefI.run at h
 split at h
 ·assumption
 ·cases h
theorem DefI.run_lenX {d : DefI} {cf : CF} {args : List OV} (h : d.run cf args ≠ .bad) : args.length = d.mask.length := by
 unfold DefI.run at h
 split at h
 ·assumption
 ·exact absurd rfl h
noncomputable def callN (defs : List DefI) : Nat → CF
 | 0, _, _ => .bad
 | n + 1, x, args => match defs.find? fun d => decide (d.name = x) with
  | some d => d.run (callN defs n) args
  | none => .bad
section
variable {M0 : Addr → Prop} {F : Fp} {Γ : Gv} {ν : Nu} {H : Hp}
theorem RS.outs {o : OV} {v : V} {mask : List Bool} {us : List V} (r : RS M0 F (Γ ++ [some o]) (ν ++ [some v]) H) (hu : us.length = mask.length) (hν : ∀ j : Nat, mask[j]? = some true → ν[j]? = (us[j]?).map some) :
  ∃ F', RS M0 F' (outs mask Γ ++ [some o]) (us.map some ++ [some v]) H ∧ Stp F H F' H := by
 have hνl : ν.length = Γ.length := by have := r.len; simpa using this
 have hjl : ∀ j : Nat, mask[j]? = some true → j < Γ.length := fun j hj => by
  have h1 : j < us.length := by rw [hu]; exact (List.getElem?_eq_some_iff.mp hj).1
  have h2 := hν j hj
  rw [List.getElem?_eq_getElem h1] at h2
  have := (List.getElem?_eq_some_iff.mp h2).1
  omega
 let n := mask.length
 let F' : Fp := fun j => if j < n then (if mask[j]? = some true then F j else []) else if j = n then F Γ.length else []
 have g1 : ∀ j, j < n → mask[j]? = some true → F' j = F j := fun j h1 h2 => by show (if j < n then _ else _) = _; rw [if_pos h1, if_pos h2]
 have g2 : ∀ j, j < n → mask[j]? ≠ some true → F' j = [] := fun j h1 h2 => by show (if j < n then _ else _) = _; rw [if_pos h1, if_neg h2]
 have g3 : F' n = F Γ.length := by show (if n < n then _ else _) = _; rw [if_neg (Nat.lt_irrefl _), if_pos rfl]
 have g4 : ∀ j, n < j → F' j = [] := fun j h => by show (if j < n then _ else _) = _; rw [if_neg (by omega), if_neg (by omega)]
 have cls : ∀ j a, a ∈ F' j → (j < n ∧ mask[j]? = some true ∧ a ∈ F j) ∨ (j = n ∧ a ∈ F Γ.length) := fun j a h => by
  by_cases h1 : j < n
  ·by_cases h2 : mask[j]? = some true
   ·rw [g1 j h1 h2] at h; exact .inl ⟨h1, h2, h⟩
   ·rw [g2 j h1 h2] at h; cases h
  ·by_cases h2 : j = n
   ·subst h2; rw [g3] at h; exact .inr ⟨rfl, h⟩
   ·rw [g4 j (by omega)] at h; cases h
 have st : Stp F H F' H := stp_sub fun j a h => by
  rcases cls j a h with ⟨_, _, h⟩ | ⟨_, h⟩
  ·exact ⟨_, h⟩
  ·exact ⟨_, h⟩
 have hol : (L3.outs mask Γ).length = n := outs_len _ _
 refine ⟨F', ⟨r.al0, fun j a h => ?_, fun j => ?_, fun j k a h1 h2 => ?_, fun j p e => ?_, fun j h => ?_, by simp [hol, hu, n]⟩, st⟩
 ·rcases cls j a h with ⟨_, _, h⟩ | ⟨_, h⟩
  ·exact r.dis0 _ a h
  ·exact r.dis0 _ a h
 ·by_cases h1 : j < n
  ·by_cases h2 : mask[j]? = some true
   ·rw [g1 j h1 h2]; exact r.nd _
   ·rw [g2 j h1 h2]; exact .nil
  ·by_cases h2 : j = n
   ·subst h2; rw [g3]; exact r.nd _
   ·rw [g4 j (by omega)]; exact .nil
 ·rcases cls j a h1 with ⟨l1, m1, z1⟩ | ⟨rfl, z1⟩
  ·rcases cls k a h2 with ⟨l2, m2, z2⟩ | ⟨rfl, z2⟩
   ·exact r.dis _ _ a z1 z2
   ·have := r.dis _ _ a z1 z2; have := hjl _ m1; omega
  ·rcases cls k a h2 with ⟨l2, m2, z2⟩ | ⟨rfl, z2⟩
   ·have := r.dis _ _ a z1 z2; have := hjl _ m2; omega
   ·rfl
 ·by_cases hj : j < n
  ·rw [List.getElem?_append_left (by omega)] at e
   obtain ⟨hm, hg⟩ := outs_get e
   have hjj := hjl j hm
   obtain ⟨w, ew, q⟩ := r.at' j p (by rw [List.getElem?_append_left (by omega)]; exact hg)
   rw [List.getElem?_append_left (by omega), hν j hm] at ew
   refine ⟨w, ?_, ?_⟩
   ·rw [List.getElem?_append_left (by simp [hu]; exact hj), List.getElem?_map]; exact ew
   ·rw [g1 j hj hm]; exact q.go (fun _ _ x => rep_stp st r.al0 x) st.tups fun _ _ => rfl
  ·have hjn : j = n := by
    have := (List.getElem?_eq_some_iff.mp e).1
    simp [hol] at this; omega
   subst hjn
   rw [List.getElem?_append_right (by omega), hol] at e
   have : o = p := by simpa using e
   subst this
   obtain ⟨w, ew, q⟩ := r.at' Γ.length o (by rw [List.getElem?_append_right (Nat.le_refl _)]; simp)
   rw [List.getElem?_append_right (by omega), hνl] at ew
   have : v = w := by simpa using ew
   subst this
   refine ⟨v, ?_, ?_⟩
   ·rw [List.getElem?_append_right (by simp [hu, n]), List.length_map, hu]; simp [n]
   ·rw [g3]; exact q.go (fun _ _ x => rep_stp st r.al0 x) st.tups fun _ _ => rfl
 ·by_cases hj : j < n
  ·by_cases hm : mask[j]? = some true
   ·rw [g1 j hj hm]
    have hjj := hjl j hm
    refine r.emp j fun p ep => ?_
    rw [List.getElem?_append_left (by omega)] at ep
    refine h p ?_
    rw [List.getElem?_append_left (by omega)]
    exact outs_put hm ep
   ·exact g2 j hj hm
  ·by_cases hjn : j = n
   ·subst hjn
    exact absurd (by rw [List.getElem?_append_right (by omega), hol]; simp [n]) (h o)
   ·exact g4 j (by omega)
where
 outs_put : ∀ {bs : List Bool} {Γ : Gv} {j : Nat} {o : OV}, bs[j]? = some true → Γ[j]? = some (some o) → (L3.outs bs Γ)[j]? = some (some o)
  | [], _, _, _, h, _ => by simp at h
  | b :: bs, [], _, _, _, h => by simp at h
  | b :: bs, x :: Γ, 0, o, h, e => by
   simp at h e
   subst h e
   simp [L3.outs]
  | b :: bs, x :: Γ, j + 1, o, h, e => by
   have := outs_put (bs := bs) (Γ := Γ) (j := j) (o := o) (by simpa using h) (by simpa using e)
   simpa [L3.outs] using this
end
noncomputable def scopeB (N ps : List Str) (sc : Scope) : Bool := decide (sc.kind = .function) && !sc.isCoroutine && !sc.isGenerator && decide N.Nodup && decide (N.take ps.length = ps) && ps.all (fun x => decide (sc.names.lookup x = some .local) || decide (sc.names.lookup x = some .cell)) && sc.names.all (fun y => decide (y.2 ≠ .free))
theorem scope_of {N ps : List Str} {sc : Scope} (h : scopeB N ps sc = true) : FnScope N ps sc := by
 unfold scopeB at h
 simp only [Bool.and_eq_true, decide_eq_true_eq, List.all_eq_true, Bool.or_eq_true, Bool.not_eq_true'] at h
 obtain ⟨⟨⟨⟨⟨⟨h1, h2⟩, h3⟩, h4⟩, h5⟩, h6⟩, h7⟩ := h
 exact ⟨h1, h2, h3, h4, h5, h6, h7⟩
noncomputable def DefI.ok (W : Wd) (d : DefI) : Bool := scopeB d.N d.ps (defScope d.st) && decide (d.ps.length = d.mask.length) && d.io.all (fun i => decide (d.mask[i]? = some true)) && (List.range d.mask.length).all (fun j => decide (d.mask[j]? ≠ some true) || d.io.contains j)
 && d.body.chk W (defScope d.st) d.N (List.range d.N.length) d.N.length d.mask.length (defBody d.st)
structure WK (P : Program) (w : World) (K : PySem.W.Frag) (mg : Str → Option Value) (base : Heap) (cf : CF) (W : Wd) (k : Nat) : Prop where
 bi : ∀ x, W.bi.contains x = true → mg x = none
 gi : ∀ x i, W.gi.contains (x, i) = true → ∃ t, mg x = some (.int i t)
 gs : ∀ x i, W.gs.contains (x, i) = true → ∃ t, mg x = some (.str i t)
 fn : ∀ x n, W.fl.contains (x, n) = true → Kn P w K mg base CX0 x k (spI n (cf x)) ∧ ∀ args r outs, cf x args = .ok r outs → args.length = n
 fx : ∀ x n, W.fx.contains (x, n) = true → Kn P w K mg base (CX1 P w) x k (spX mg n (cf x)) ∧ ∀ args, cf x args ≠ .bad → args.length = n
 ex : ∀ x, W.ex.contains x = true → ∃ C, mg x = some (.ref C) ∧ PySem.W.excIn K C bmV "ValueError.__new__" = true
 mr : ∀ x C y C2, W.ex.contains x = true → mg x = some (.ref C) → W.ex.contains y = true → mg y = some (.ref C2) → (mroIn K C).contains (.ref C2) = decide (x = y)
 gd : ∀ x kf, W.gd.contains (x, kf) = true → GD w K mg x kf
section
variable {P : Program} {w : World} {K : PySem.W.Frag} {mg : Str → Option Value} {base : Heap} {cf : CF} {W : Wd} {k : Nat}
theorem xsc_fn {N : List Str} {x : Str} {sc : Scope} {f : Addr} {cdv : Value} {A : Around} {outer : List Env} {s : Shared} {H : Hp} {E : XK} : XSc (cxOf CX0 P w K mg base N x sc f cdv A outer s H E).nox sc N where
 hN := rfl
 vis x h := by
  unfold visB at h
  simp only [Bool.or_eq_true, decide_eq_true_eq] at h
  rcases h with (h | h) | h
  ·exact .inl h
  ·exact .inr (.inl h)
  ·exact .inr (.inr h)
 loc x h := h
 cel x h := ⟨h, rfl⟩
 fre x h := .inr h
 glo x h := by
  unfold gloB at h
  simp only [decide_eq_true_eq] at h
  exact h
theorem xsc_fnX {N : List Str} {x : Str} {sc : Scope} {f : Addr} {cdv : Value} {A : Around} {outer : List Env} {s : Shared} {H : Hp} {E : XK} : XSc (cxOf (CX1 P w) P w K mg base N x sc f cdv A outer s H E) sc N where
 hN := rfl
 vis x h := by
  unfold visB at h
  simp only [Bool.or_eq_true, decide_eq_true_eq] at h
  rcases h with (h | h) | h
  ·exact .inl h
  ·exact .inr (.inl h)
  ·exact .inr (.inr h)
 loc x h := h
 cel x h := ⟨h, rfl⟩
 fre x h := .inr h
 glo x h := by
  unfold gloB at h
  simp only [decide_eq_true_eq] at h
  exact h
theorem sees_id {n : Nat} {ν : Nu} : Sees (List.range n) ν ν := fun s i v e1 e2 => by
 have hs : s < n := by
  have := (List.getElem?_eq_some_iff.mp e1).1
  simpa using this
 rw [List.getElem?_range hs] at e1
 cases e1
 exact e2
theorem kn_def {d : DefI} (D : Df K mg d.name d.st d.ps) (hok : d.ok W = true) (T : WK P w K mg base cf W k) (hk : 1 ≤ k) : Kn P w K mg base CX0 d.name (k + 1) (spI d.mask.length (d.run cf)) := by
 unfold DefI.ok at hok
 simp only [Bool.and_eq_true, decide_eq_true_eq, List.all_eq_true, Bool.or_eq_true] at hok
 obtain ⟨⟨⟨⟨h1, h2⟩, h3⟩, h4⟩, h5⟩ := hok
 have S := scope_of h1
 have hNl : d.mask.length ≤ d.N.length := by
  have := congrArg List.length S.pre
  rw [List.length_take] at this; omega
 refine D.kn S (fun vs H Q E h => by rw [h.1, h2]) fun f cdv A outer s H vs Q E hr hsp => ?_
 obtain ⟨hv, M0, F, args, rs, hm⟩ := hsp
 have hal : args.length = d.mask.length := by have := rs.len; simpa [hv] using this.symm
 have rs1 := rs.ext (d.N.length - d.mask.length)
 have hst : L2.start d.N vs = vs.map some ++ List.replicate (d.N.length - d.mask.length) none := by unfold L2.start; rw [hv]
 rw [hst]
 have hsl : (vs.map some ++ List.replicate (d.N.length - d.mask.length) none : L2.St).length = d.N.length := by simp [hv]; omega
 refine snd_B cf W d.body (cxOf CX0 P w K mg base d.N d.name (defScope d.st) f cdv A outer s H E).nox XP0 k (defScope d.st) d.N (List.range d.N.length) d.N.length d.mask.length d.io xsc_fn
  ⟨T.bi, T.gi, T.gs, T.fn, hr, hk, rfl, T.fx, T.ex, T.mr, T.gd⟩ ⟨PassesOwn.never, S.nd, List.nodup_range, fun i hi => ?_, (fun _ _ _ _ _ _ h => h.elim), rfl, rfl⟩ (defBody d.st) h5 M0 F _ _ _ H _ rs1 sees_id hsl ?_
 ·exact (List.getElem?_eq_some_iff.mp (h3 i hi)).1
 ·have back : ∀ {F' : Fp} {Γ' : Gv} {ν' : Nu} {o : OV} {v : V} {H' : Hp}, RS M0 F' (Γ' ++ [some o]) (ν' ++ [some v]) H' → (∀ i ∈ d.io, ν'[i]? = (vs.map some ++ List.replicate (d.N.length - d.mask.length) none : Nu)[i]?) → Stp F H F' H' →
    (∀ F' v H', RS M0 F' (outs d.mask Γ' ++ [some o]) (vs.map some ++ [some v]) H' → Stp F H F' H' → Q v H') → Q v H' := fun {F' Γ' ν' o v H'} r' hn s' hq => by
   obtain ⟨F2, r2, s2⟩ := r'.outs hv fun j hj => by
    have hjl : j < d.mask.length := (List.getElem?_eq_some_iff.mp hj).1
    have hjm : j ∈ d.io := by
     rcases h4 j (List.mem_range.mpr hjl) with z | z
     ·exact absurd hj z
     ·simpa using z
    rw [hn j hjm, List.getElem?_append_left (by simp [hv]; exact hjl), List.getElem?_map]
   exact hq F2 v H' r2 (s'.trans s2)
  unfold DefI.run at hm
  rw [if_pos hal] at hm
  generalize d.body.ex cf d.io (args.map some ++ List.replicate (d.N.length - d.mask.length) none) = rr at hm
  cases rr with
  | bad => exact hm.elim
  | exc x y => exact hm.elim
  | ok z =>
   obtain ⟨fl, Γ'⟩ := z
   cases fl with
   | brk => exact hm.elim
   | cnt => exact hm.elim
   | next =>
    intro F' ν' σ' H' r' s' hs' hl' hn
    exact back (r'.newD .none) hn s' hm
   | ret o =>
    intro F' ν' v H' r' s' hn
    exact back r' hn s' hm
theorem kn_defX {d : DefI} (D : Df K mg d.name d.st d.ps) (hok : d.ok W = true) (T : WK P w K mg base cf W k) (hk : 1 ≤ k) : Kn P w K mg base (CX1 P w) d.name (k + 1) (spX mg d.mask.length (d.run cf)) := by
 unfold DefI.ok at hok
 simp only [Bool.and_eq_true, decide_eq_true_eq, List.all_eq_true, Bool.or_eq_true] at hok
 obtain ⟨⟨⟨⟨h1, h2⟩, h3⟩, h4⟩, h5⟩ := hok
 have S := scope_of h1
 have hNl : d.mask.length ≤ d.N.length := by
  have := congrArg List.length S.pre
  rw [List.length_take] at this; omega
 refine D.knX S (fun vs H Q E h => by rw [h.1, h2]) fun f cdv A outer s H vs Q E hr hsp => ?_
 obtain ⟨hv, M0, F, args, rs, hm⟩ := hsp
 have hal : args.length = d.mask.length := by have := rs.len; simpa [hv] using this.symm
 have rs1 := rs.ext (d.N.length - d.mask.length)
 have hst : L2.start d.N vs = vs.map some ++ List.replicate (d.N.length - d.mask.length) none := by unfold L2.start; rw [hv]
 rw [hst]
 have hsl : (vs.map some ++ List.replicate (d.N.length - d.mask.length) none : L2.St).length = d.N.length := by simp [hv]; omega
 refine snd_B cf W d.body (cxOf (CX1 P w) P w K mg base d.N d.name (defScope d.st) f cdv A outer s H E) (fun x _ _ _ _ H' => ∀ C, mg x.cls = some (.ref C) → E (.ref C) none H') k (defScope d.st) d.N (List.range d.N.length) d.N.length d.mask.length d.io xsc_fnX
  ⟨T.bi, T.gi, T.gs, T.fn, hr, hk, rfl, T.fx, T.ex, T.mr, T.gd⟩ ⟨PassesOwn.leaving, S.nd, List.nodup_range, fun i hi => ?_, (fun x Γ F ν σ H' h C hC pins s1 I h' ea args hm => made_leaves I rfl rfl rfl hm (h C hC)), rfl, rfl⟩ (defBody d.st) h5 M0 F _ _ _ H _ rs1 sees_id hsl ?_
 ·exact (List.getElem?_eq_some_iff.mp (h3 i hi)).1
 ·have back : ∀ {F' : Fp} {Γ' : Gv} {ν' : Nu} {o : OV} {v : V} {H' : Hp}, RS M0 F' (Γ' ++ [some o]) (ν' ++ [some v]) H' → (∀ i ∈ d.io, ν'[i]? = (vs.map some ++ List.replicate (d.N.length - d.mask.length) none : Nu)[i]?) → Stp F H F' H' →
    (∀ F' v H', RS M0 F' (outs d.mask Γ' ++ [some o]) (vs.map some ++ [some v]) H' → Stp F H F' H' → Q v H') → Q v H' := fun {F' Γ' ν' o v H'} r' hn s' hq => by
   obtain ⟨F2, r2, s2⟩ := r'.outs hv fun j hj => by
    have hjl : j < d.mask.length := (List.getElem?_eq_some_iff.mp hj).1
    have hjm : j ∈ d.io := by
     rcases h4 j (List.mem_range.mpr hjl) with z | z
     ·exact absurd hj z
     ·simpa using z
    rw [hn j hjm, List.getElem?_append_left (by simp [hv]; exact hjl), List.getElem?_map]
   exact hq F2 v H' r2 (s'.trans s2)
  unfold DefI.run at hm
  rw [if_pos hal] at hm
  generalize d.body.ex cf d.io (args.map some ++ List.replicate (d.N.length - d.mask.length) none) = rr at hm
  cases rr with
  | bad => exact hm.elim
  | exc x y => exact fun F' ν' σ' H' r' s' _ _ _ C hC => hm C hC F' H' s'
  | ok z =>
   obtain ⟨fl, Γ'⟩ := z
   cases fl with
   | brk => exact hm.elim
   | cnt => exact hm.elim
   | next =>
    intro F' ν' σ' H' r' s' hs' hl' hn
    exact back (r'.newD .none) hn s' hm
   | ret o =>
    intro F' ν' v H' r' s' hn
    exact back r' hn s' hm
theorem kn_bad {d : DefI} (D : Df K mg d.name d.st d.ps) (S : FnScope d.N d.ps (defScope d.st)) (h2 : d.ps.length = d.mask.length) : Kn P w K mg base CX0 d.name 1 (spI d.mask.length fun _ => .bad) :=
 D.kn (k := 0) S (fun vs H Q E h => by rw [h.1, h2]) fun f cdv A outer s H vs Q E hr hsp => by
  obtain ⟨hv, M0, F, args, rs, hm⟩ := hsp
  exact hm.elim
theorem kn_badX {d : DefI} (D : Df K mg d.name d.st d.ps) (S : FnScope d.N d.ps (defScope d.st)) (h2 : d.ps.length = d.mask.length) : Kn P w K mg base (CX1 P w) d.name 1 (spX mg d.mask.length fun _ => .bad) :=
 D.knX (k := 0) S (fun vs H Q E h => by rw [h.1, h2]) fun f cdv A outer s H vs Q E hr hsp => by
  obtain ⟨hv, M0, F, args, rs, hm⟩ := hsp
  exact hm.elim
theorem wk_all {defs : List DefI} (hd : ∀ d ∈ defs, Df K mg d.name d.st d.ps ∧ d.ok W = true) (hfl : ∀ x n, W.fl.contains (x, n) = true → ∃ d, defs.find? (fun d => decide (d.name = x)) = some d ∧ d.mask.length = n) (hbi : ∀ x, W.bi.contains x = true → mg x = none)
  (hgi : ∀ x i, W.gi.contains (x, i) = true → ∃ t, mg x = some (.int i t)) (hgs : ∀ x i, W.gs.contains (x, i) = true → ∃ t, mg x = some (.str i t)) (hfx : ∀ x n, W.fx.contains (x, n) = true → ∃ d, defs.find? (fun d => decide (d.name = x)) = some d ∧ d.mask.length = n)
  (hex : ∀ x, W.ex.contains x = true → ∃ C, mg x = some (.ref C) ∧ PySem.W.excIn K C bmV "ValueError.__new__" = true) (hmr : ∀ x C y C2, W.ex.contains x = true → mg x = some (.ref C) → W.ex.contains y = true → mg y = some (.ref C2) → (mroIn K C).contains (.ref C2) = decide (x = y)) (hgd : ∀ x kf, W.gd.contains (x, kf) = true → GD w K mg x kf) : ∀ n, WK P w K mg base (callN defs n) W (n + 1)
 | 0 => ⟨hbi, hgi, hgs, fun x n h => by
   obtain ⟨d, e, hl⟩ := hfl x n h
   have hmem := List.mem_of_find?_eq_some e
   have hnm : d.name = x := by simpa using List.find?_some e
   subst hnm hl
   obtain ⟨D, ok⟩ := hd d hmem
   unfold DefI.ok at ok
   simp only [Bool.and_eq_true, decide_eq_true_eq] at ok
   exact ⟨kn_bad D (scope_of ok.1.1.1.1) ok.1.1.1.2, fun args r outs e => by cases e⟩, fun x n h => by
   obtain ⟨d, e, hl⟩ := hfx x n h
   have hmem := List.mem_of_find?_eq_some e
   have hnm : d.name = x := by simpa using List.find?_some e
   subst hnm hl
   obtain ⟨D, ok⟩ := hd d hmem
   unfold DefI.ok at ok
   simp only [Bool.and_eq_true, decide_eq_true_eq] at ok
   exact ⟨kn_badX D (scope_of ok.1.1.1.1) ok.1.1.1.2, fun args e => absurd rfl e⟩, hex, hmr, hgd⟩
 | n + 1 => ⟨hbi, hgi, hgs, fun x m h => by
   obtain ⟨d, e, hl⟩ := hfl x m h
   have hmem := List.mem_of_find?_eq_some e
   have hnm : d.name = x := by simpa using List.find?_some e
   obtain ⟨D, ok⟩ := hd d hmem
   have ih := wk_all hd hfl hbi hgi hgs hfx hex hmr hgd n
   have ec : callN defs (n + 1) x = d.run (callN defs n) := by
    funext args
    rw [callN, e]
   subst hnm hl
   rw [ec]
   exact ⟨kn_def D ok ih (Nat.le_add_left 1 n), fun args r outs e => DefI.run_len e⟩, fun x m h => by
   obtain ⟨d, e, hl⟩ := hfx x m h
   have hmem := List.mem_of_find?_eq_some e
   have hnm : d.name = x := by simpa using List.find?_some e
   obtain ⟨D, ok⟩ := hd d hmem
   have ih := wk_all hd hfl hbi hgi hgs hfx hex hmr hgd n
   have ec : callN defs (n + 1) x = d.run (callN defs n) := by
    funext args
    rw [callN, e]
   subst hnm hl
   rw [ec]
   exact ⟨kn_defX D ok ih (Nat.le_add_left 1 n), fun args e => DefI.run_lenX e⟩, hex, hmr, hgd⟩
noncomputable def boxV (cells : List Int) (i l t s : Int) : OV := .l [.d (.list (cells.map .int)), .d (.int i), .d (.int l), .d (.int t), .d (.int s)]
theorem law_ok {st : Stmt} {fa : Addr} {fd : FuncData} {N : List Str} {x : Str} {kb : Nat} {body : IB} {rest : List Stmt} {pos' p3 p2 p pos : Pos} (Fn : Fun K "law" "law" st fa fd) (hS : scopeB N ["_law_script"] (defScope st) = true) (hkb : Kn P w K mg base CX0 "_law_box" kb (spBox K)) (hkb2 : kb ≤ k) (T : WK P w K mg base cf W k) (hk : 1 ≤ k)
  (hb : defBody st = .Assign [.Name x pos'] (.Call (.Name "_law_box" p3) [.Name "_law_script" p2] [] p) pos :: rest) (hN0 : N[0]? = some ("_law_script" : Str)) (hN1 : N[1]? = some x) (hv0 : (defScope st).names.lookup ("_law_script" : Str) = some .local) (hx : Loc (defScope st) x) (hg : (defScope st).names.lookup ("_law_box" : Str) = some .globalImplicit)
  (hchk : body.chk W (defScope st) N (List.range N.length) N.length 0 rest = true)
  (hrun : ∀ (cells : List Int) (i l t s : Int), 0 ≤ i → ∃ Γ', body.ex cf [] (none :: some (boxV cells i l t s) :: List.replicate (N.length - 2) none) = .ok (.ret (.d (.bool true)), Γ')) : FnOk P w K mg base CX0 (k + 1) fa fd ["_law_script"] (spLaw K) := by
 have S := scope_of hS
 refine Fn.law S fun cdv A outer s H Q E a ns hr hSq hlen kk => ?_
 have hl2 : 2 ≤ N.length := by have := (List.getElem?_eq_some_iff.mp hN1).1; omega
 rw [hb]
 refine wb_box (X := (cxOf CX0 P w K mg base N "law" (defScope st) fa cdv A outer s H E).nox) (N := N) S.nd hkb (hr.mono hkb2) hSq hlen (fun b σ1 H1 s1 nb hB rs1 l1 => ?_) rfl hN0 hN1 (.inl hv0) hx (.inl rfl) hg rfl rfl
 obtain ⟨c, cells, i, l, t, sd, B⟩ := hB
 have hσ : σ1[1]? = some (some (.ref b)) := rs1.av 1 (.ref b) (by
  rw [List.getElem?_set_self]
  simp
  exact hl2)
 have hF : ∀ j a, a ∈ fset (fun _ => []) 1 [b] j → j = 1 ∧ a = b := fun j a h => by
  by_cases hj : j = 1
  ·subst hj; rw [fset_same] at h; exact ⟨rfl, by simpa using h⟩
  ·rw [fset_ne hj] at h; cases h
 have hM : ∀ a, MM Nothing (fset (fun _ => []) 1 [b]) a → a = b := fun a h => by
  rcases h with h | ⟨j, h⟩
  ·exact h.elim
  ·exact (hF j a h).2
 have rs : RS Nothing (fset (fun _ => []) 1 [b]) (none :: some (boxV cells i l t sd) :: List.replicate (N.length - 2) none) (none :: some (.ref b) :: List.replicate (N.length - 2) none) H1 := by
  refine ⟨fun a h => h.elim, fun j a h z => z, fun j => ?_, fun j k a h1 h2 => by rw [(hF j a h1).1, (hF k a h2).1], fun j o e => ?_, fun j h => ?_, by simp⟩
  ·by_cases hj : j = 1
   ·subst hj; rw [fset_same]; exact List.nodup_cons.mpr ⟨(fun z => nomatch z), .nil⟩
   ·rw [fset_ne hj]; exact .nil
  ·match j, e with
   | 0, e => simp at e
   | 1, e =>
    have e' : boxV cells i l t sd = o := by simpa using e
    subst e'
    refine ⟨.ref b, rfl, ?_⟩
    rw [fset_same]
    refine .l B.hb (.cons (A := []) (.d (B.hc.less fun a ha _ => hM a ha)) (.cons (A := []) (.d (.int _)) (.cons (A := []) (.d (.int _)) (.cons (A := []) (.d (.int _)) (.cons (A := []) (.d (.int _)) .nil)))))
   | j + 2, e =>
    rw [List.getElem?_cons_succ, List.getElem?_cons_succ, List.getElem?_replicate] at e
    split at e <;> cases e
  ·by_cases hj : j = 1
   ·subst hj; exact absurd rfl (h (boxV cells i l t sd))
   ·rw [fset_ne hj]
 have sees : Sees (List.range N.length) (none :: some (.ref b) :: List.replicate (N.length - 2) none) σ1 := fun s' j v e1 e2 => by
  have hs : s' < N.length := by
   have := (List.getElem?_eq_some_iff.mp e1).1
   simpa using this
  rw [List.getElem?_range hs] at e1
  cases e1
  match s', e2 with
  | 0, e2 => simp at e2
  | 1, e2 =>
   have : V.ref b = v := by simpa using e2
   subst this; exact hσ
  | j + 2, e2 =>
   rw [List.getElem?_cons_succ, List.getElem?_cons_succ, List.getElem?_replicate] at e2
   split at e2 <;> cases e2
 obtain ⟨Γ', er⟩ := hrun cells i l t sd B.hi
 refine snd_B cf W body (cxOf CX0 P w K mg base N "law" (defScope st) fa cdv A outer s H E).nox XP0 k (defScope st) N (List.range N.length) N.length 0 [] xsc_fn ⟨T.bi, T.gi, T.gs, T.fn, hr, hk, rfl, T.fx, T.ex, T.mr, T.gd⟩ ⟨PassesOwn.never, S.nd, List.nodup_range, (fun i hi => nomatch hi), (fun _ _ _ _ _ _ h => h.elim), rfl, rfl⟩ rest hchk Nothing _ _ _ σ1 H1 _ rs sees l1 ?_
 rw [er]
 intro F' ν' v H' r' s' hn
 obtain ⟨w', ew, q⟩ := r'.at' Γ'.length (.d (.bool true)) (by rw [List.getElem?_append_right (Nat.le_refl _)]; simp)
 have hlen := r'.len
 have hνl : ν'.length = Γ'.length := by simpa using hlen
 rw [List.getElem?_append_right (by omega), hνl] at ew
 have : v = w' := by simpa using ew
 subst this
 generalize F' Γ'.length = Az at q
 cases q with
 | d q => cases q; exact kk H'
end
end L3
namespace Wx
open PySem L2 L3
noncomputable def b_law_whole : IB := (.cons (.ret (.dat (.and (.isi "int" (.var 0 0)) (.not (.isi "bool" (.var 0 0)))))) .nil)
noncomputable def b_law_mixed : IB := (.cons (.asg 2 2 (.dat (.bin .Mod (.bin .Add (.bin .Add (.bin .Mult (.var 0 0) (.cint 48271)) (.bin .Mult (.var 1 1) (.cint 69621))) (.cint 12345)) (.cint 2147483647)))) (.cons (.asg 3 3 (.dat (.bin .Mod (.bin .Add (.bin .Add (.bin .Mult (.var 2 2) (.bin .Add (.bin .Mod (.var 2 2) (.cint 65521)) (.cint 7))) (.bin .Mult (.var 1 1) (.cint 40692))) (.bin .Mod (.var 0 0) (.cint 104729))) (.cint 998244353)))) (.cons (.ret (.dat (.bin .FloorDiv (.var 3 3) (.cint 7)))) .nil)))
noncomputable def b_law_take : IB := (.cons (.set 0 0 (.cint 3) (.bin .Add (.ix (.var 0 0) (.cint 3)) (.cint 1))) (.cons (.ite (.cmp .Gt (.ix (.var 0 0) (.cint 2)) (.cint 0)) (.cons (.asg 2 2 (.dat (.ix (.var 0 0) (.cint 2)))) (.cons (.set 0 0 (.cint 2) (.bin .FloorDiv (.var 2 2) (.var 1 1))) (.cons (.ret (.dat (.bin .Mod (.var 2 2) (.var 1 1)))) .nil))) .nil) (.cons (.ite (.cmp .GtE (.ix (.var 0 0) (.cint 1)) (.len (.ix (.var 0 0) (.cint 0)))) (.cons (.ret (.dat (.bin .Mod (.call (.call "_law_mixed" 2 (.cons (.ix (.var 0 0) (.cint 4)) (.cons (.ix (.var 0 0) (.cint 3)) .nil)))) (.var 1 1)))) .nil) .nil) (.cons (.asg 3 3 (.dat (.ix (.ix (.var 0 0) (.cint 0)) (.ix (.var 0 0) (.cint 1))))) (.cons (.set 0 0 (.cint 1) (.bin .Add (.ix (.var 0 0) (.cint 1)) (.cint 1))) (.cons (.ite (.cmp .Lt (.var 3 3) (.bin .Pow (.cint 10) (.cint 18))) (.cons (.ret (.dat (.bin .Mod (.call (.call "_law_mixed" 2 (.cons (.var 3 3) (.cons (.ix (.var 0 0) (.cint 3)) .nil)))) (.var 1 1)))) .nil) .nil) (.cons (.set 0 0 (.cint 2) (.bin .FloorDiv (.var 3 3) (.var 1 1))) (.cons (.ret (.dat (.bin .Mod (.var 3 3) (.var 1 1)))) .nil))))))))
noncomputable def b_law_lacks_1 : IE := (.tup (.cons (.call (.call "_law_take" 2 (.io 1 0 (.cons (.bin .Add (.var 2 2) (.cint 1)) .nil)))) (.cons (.call (.call "_law_take" 2 (.io 1 0 (.cons (.bin .Add (.var 2 2) (.cint 1)) .nil)))) .nil)))
noncomputable def b_law_lacks_2 : IB := (.cons (.ite (.cmp .Eq (.var 3 3) (.cint 0)) (.cons (.app 7 7 (.cmp .Eq (.call (.call "_law_take" 2 (.io 0 0 (.cons (.cint 2) .nil)))) (.cint 1))) .nil) (.cons (.ite (.cmp .Eq (.var 3 3) (.cint 1)) (.cons (.app 7 7 (.chain .LtE .Lt (.min (.var 8 8) (.var 9 9)) (.var 6 6) (.max (.var 8 8) (.var 9 9)))) .nil) (.cons (.ite (.cmp .Eq (.var 3 3) (.cint 2)) (.cons (.app 7 7 (.cmp .Lt (.var 6 6) (.var 8 8))) .nil) (.cons (.app 7 7 (.cmp .NotEq (.cmp .Lt (.var 6 6) (.var 8 8)) (.cmp .Eq (.var 6 6) (.var 9 9)))) .nil)) .nil)) .nil)) .nil)
noncomputable def b_law_lacks_3 : IB := (.cons (.asg 7 7 (.own (.lst .nil))) (.cons (.loop (.tp (.cons (.nm 8 8) (.cons (.nm 9 9) .nil))) (.list (.var 4 4)) b_law_lacks_2) (.cons (.app 5 5 (.frz 7 7)) .nil)))
noncomputable def b_law_lacks : IB := (.cons (.asg 3 3 (.dat (.call (.call "_law_take" 2 (.io 0 0 (.cons (.cint 4) .nil)))))) (.cons (.asg 4 4 (.dat (.new (.comp 10 1 [0, 2] ["_law_dye", "_law_box_here", "_law_size"] (.nm 0 10) (.range (.var 1 1)) .yes b_law_lacks_1)))) (.cons (.asg 5 5 (.own (.lst .nil))) (.cons (.loop (.nm 6 6) (.range (.var 2 2)) b_law_lacks_3) (.cons (.ret (.move 5 5)) .nil)))))
noncomputable def b_law_cell_1 : IB := (.cons (.asg 7 7 (.dat (.call (.call "_law_take" 2 (.io 0 0 (.cons (.cint 9) .nil)))))) (.cons (.app 4 4 (.var 7 7)) (.cons (.app 5 5 (.bin .Add (.var 7 7) (.int (.var 6 6)))) (.cons (.ite (.and (.cmp .Gt (.var 2 2) (.cint 0)) (.cmp .Eq (.call (.call "_law_take" 2 (.io 0 0 (.cons (.var 2 2) .nil)))) (.cint 0))) (.cons (.set 4 4 (.neg (.cint 1)) (.call (.call "_law_take" 2 (.io 0 0 (.cons (.cint 10) .nil))))) (.cons (.set 5 5 (.neg (.cint 1)) (.call (.call "_law_take" 2 (.io 0 0 (.cons (.cint 10) .nil))))) .nil)) .nil) .nil))))
noncomputable def b_law_cell : IB := (.cons (.asg 4 4 (.own (.lst .nil))) (.cons (.asg 5 5 (.own (.lst .nil))) (.cons (.loop (.nm 6 6) (.list (.var 1 1)) b_law_cell_1) (.cons (.ret (.dat (.tup (.cons (.tuple (.var 4 4)) (.cons (.and (.cmp .Gt (.var 3 3) (.cint 0)) (.cmp .Lt (.call (.call "_law_take" 2 (.io 0 0 (.cons (.cint 5) .nil)))) (.var 3 3))) (.cons (.tuple (.var 5 5)) .nil)))))) .nil))))
noncomputable def b_law_bolt_1 : IE := (.call (.call "_law_cell" 4 (.io 1 0 (.cons (.var 0 6) (.cons (.var 2 3) (.cons (.var 3 4) .nil))))))
noncomputable def b_law_bolt : IB := (.cons (.asg 4 4 (.dat (.call (.call "_law_take" 2 (.io 0 0 (.cons (.cint 4) .nil)))))) (.cons (.asg 5 5 (.dat (.call (.call "_law_lacks" 3 (.io 0 0 (.cons (.var 1 1) (.cons (.var 2 2) .nil))))))) (.cons (.ret (.own (.comp 6 1 [0, 3, 4] ["_law_row", "_law_box_here", "_law_loose", "_law_wet"] (.nm 0 6) (.list (.var 5 5)) .yes b_law_bolt_1))) .nil)))
noncomputable def b_law_sizes : IB := (.cons (.ite (.cmp .Eq (.call (.call "_law_take" 2 (.io 0 0 (.cons (.cint 8) .nil)))) (.cint 0)) (.cons (.ret (.dat (.tup (.cons (.call (.call "_law_take" 2 (.io 0 0 (.cons (.cint 13) .nil)))) (.cons (.call (.call "_law_take" 2 (.io 0 0 (.cons (.cint 41) .nil)))) .nil))))) .nil) .nil) (.cons (.ret (.dat (.tup (.cons (.call (.call "_law_take" 2 (.io 0 0 (.cons (.cint 7) .nil)))) (.cons (.call (.call "_law_take" 2 (.io 0 0 (.cons (.cint 9) .nil)))) .nil))))) .nil))
noncomputable def b_law_draw : IB := (.cons (.asgT (.tp (.cons (.nm 2 2) (.cons (.nm 3 3) .nil))) (.call (.call "_law_sizes" 1 (.io 0 0 .nil)))) (.cons (.ret (.dat (.tup (.cons (.var 2 2) (.cons (.call (.call "_law_bolt" 4 (.io 0 0 (.cons (.var 2 2) (.cons (.var 3 3) (.cons (.var 1 1) .nil)))))) .nil))))) .nil))
noncomputable def b_law_shades_1 : IE := (.call (.call "_law_whole" 1 (.cons (.var 0 2) .nil)))
noncomputable def b_law_shades : IB := (.cons (.ret (.dat (.and (.isi "tuple" (.var 0 0)) (.and (.cmp .Eq (.len (.var 0 0)) (.var 1 1)) (.all (.new (.comp 2 1 [] ["_law_one"] (.nm 0 2) (.tup (.var 0 0)) .yes b_law_shades_1))))))) .nil)
noncomputable def b_law_cells_kind_1 : IB := (.cons (.ite (.or (.not (.isi "tuple" (.var 2 2))) (.or (.cmp .NotEq (.len (.var 2 2)) (.cint 3)) (.not (.isi "bool" (.ix (.var 2 2) (.cint 1)))))) (.cons (.ret (.dat (.cbool false))) .nil) .nil) (.cons (.ite (.or (.not (.call (.call "_law_shades" 2 (.cons (.ix (.var 2 2) (.cint 0)) (.cons (.var 1 1) .nil))))) (.not (.call (.call "_law_shades" 2 (.cons (.ix (.var 2 2) (.cint 2)) (.cons (.var 1 1) .nil)))))) (.cons (.ret (.dat (.cbool false))) .nil) .nil) .nil))
noncomputable def b_law_cells_kind : IB := (.cons (.ite (.not (.isi "list" (.var 0 0))) (.cons (.ret (.dat (.cbool false))) .nil) .nil) (.cons (.loop (.nm 2 2) (.list (.var 0 0)) b_law_cells_kind_1) (.cons (.ret (.dat (.cbool true))) .nil)))
noncomputable def b_law_alike : IB := (.cons (.ret (.dat (.and (.call (.call "_law_cells_kind" 2 (.cons (.var 0 0) (.cons (.var 2 2) .nil)))) (.cmp .Eq (.var 0 0) (.var 1 1))))) .nil)
end Wx
namespace Wx
open PySem L2 L3
noncomputable def p_shades_shown_1 : IE := (.str (.var 0 1))
noncomputable def p_shades_shown : IB := (.cons (.ite (.not (.var 0 0)) (.cons (.ret (.dat (.gstr "NO_SHADES" "-"))) .nil) .nil) (.cons (.ret (.dat (.join "" (.new (.comp 1 1 [] ["shade"] (.nm 0 1) (.tup (.var 0 0)) .yes p_shades_shown_1))))) .nil))
noncomputable def b_law_figures_1 : IE := (.str (.var 0 1))
noncomputable def b_law_figures : IB := (.cons (.ite (.cmp .Eq (.len (.var 0 0)) (.cint 0)) (.cons (.ret (.dat (.cstr "-"))) .nil) .nil) (.cons (.ret (.dat (.join "" (.new (.comp 1 1 [] ["_law_shade"] (.nm 0 1) (.tup (.var 0 0)) .yes b_law_figures_1))))) .nil))
end Wx
set_option maxHeartbeats 4000000
namespace Wx
open PySem L2 L3
noncomputable def runI (n : Nat) (mask : List Bool) (io : List Nat) (body : IB) (cf : CF) (args : List OV) : RF := if args.length = mask.length then fin mask (body.ex cf io (args.map some ++ List.replicate (n - mask.length) none)) else .bad
end Wx
local macro_rules
  | `(tactic| simp! [$xs,*]) => `(tactic| simp [$xs,*, Wx.runI, L3.fin, L3.outs, L3.IB.ex, L3.IS.ex, L3.IE.ev, L3.IL.ev, L3.IA.ev, L3.IN.ev, L3.IP.ev, L3.II.ev, L3.IC.ev, L3.IO.ev, L3.sSeq, L3.sNext, L3.sAsg, L3.sIf, L3.sRet, L3.sRetN, L3.sSet, L3.sApp, L3.sFor, L3.sAsgT, L3.sExpr, L3.fVar, L3.fFrz, L3.fC, L3.fBin, L3.fCmp, L3.fB, L3.fTru, L3.fNotT, L3.fAndT, L3.fOrT, L3.fAndV, L3.fOrV, L3.fIf, L3.fIx, L3.f1, L3.f2, L3.fChain, L3.fTup, L3.fLst, L3.fCons, L3.fNil, L3.fNew, L3.fOwn, L3.fOD, L3.fD, L3.fMove, L3.fCall, L3.fCallW, L3.aNil, L3.aCons, L3.aIo, L3.toArg, L3.toArgs, L3.ios, L3.putBack, L3.derf, L3.derS, L3.derSs, L3.derL, L3.leaves, L3.derfs, L3.itemF, L3.binD, L3.cmpD, L3.truD, L3.R.bind, L3.isOwn, L3.fSeqL, L3.fSeqT, L3.fRange, L3.fEnum, L3.fYes, L3.fComp, L3.fListC, L3.fTupC, L3.gLen, L3.lenD, L3.gInt, L3.gAll, L3.gAny, L3.gMin, L3.gMax, L3.gNeg, L3.fIsi, L3.isiB, L2.tyD, L3.tgF, L3.tgFs, L2.noL])
namespace Wx
open PySem L2 L3
theorem mixed_ok (cf : CF) (a b : Int) : ∃ r, runI 4 [false, false] [] b_law_mixed cf [.d (.int a), .d (.int b)] = .ok (.d (.int r)) [none, none] := by
 simp! [b_law_mixed, OV.view, OV.views, seqF, ixN, atI]
 rw [if_pos]
 ·simp [outs]
 ·omega
noncomputable def MixedOk (cf : CF) : Prop := ∀ a b : Int, ∃ r, cf "_law_mixed" [.d (.int a), .d (.int b)] = .ok (.d (.int r)) [none, none]
noncomputable def IsBox (b : OV) : Prop := ∃ cells i l t s, 0 ≤ i ∧ b = boxV cells i l t s
noncomputable def TakeIs (b : OV) (n : Int) (x : RF) : Prop := ∃ (r : Int) (b' : OV), 0 ≤ r ∧ r < n ∧ IsBox b' ∧ x = .ok (.d (.int r)) [some b', none]
theorem take_ok (cf : CF) (hm : MixedOk cf) {b : OV} (hb : IsBox b) {n : Int} (h1 : 1 ≤ n) (h2 : n < 1073741824) : TakeIs b n (runI 4 [true, false] [0] b_law_take cf [b, .d (.int n)]) := by
 obtain ⟨cells, i, l, t, s, hi, rfl⟩ := hb
 have h0 : 0 < n := by omega
 have hp : ((10 : Int) ^ 18) = 1000000000000000000 := by decide
 by_cases hl : 0 < l
 ·refine ⟨l % n, boxV cells i (l / n) (t + 1) s, Int.emod_nonneg _ (by omega), Int.emod_lt_of_pos _ h0, ⟨_, _, _, _, _, hi, rfl⟩, ?_⟩
  simp! [b_law_take, boxV, hl, h0, h2, OV.view, OV.views, seqF, ixN, atI]
 ·by_cases hc : (cells.length : Int) ≤ i
  ·obtain ⟨r, er⟩ := hm s (t + 1)
   refine ⟨r % n, boxV cells i l (t + 1) s, Int.emod_nonneg _ (by omega), Int.emod_lt_of_pos _ h0, ⟨_, _, _, _, _, hi, rfl⟩, ?_⟩
   simp! [b_law_take, boxV, hl, hc, h0, h2, er, OV.view, OV.views, seqF, ixN, atI]
  ·have hix : i.toNat < cells.length := by omega
   have hlt : i < (cells.length : Int) := by omega
   have hg : cells[i.toNat]? = some cells[i.toNat] := List.getElem?_eq_getElem hix
   by_cases hs : cells[i.toNat] < 1000000000000000000
   ·obtain ⟨r, er⟩ := hm cells[i.toNat] (t + 1)
    refine ⟨r % n, boxV cells (i + 1) l (t + 1) s, Int.emod_nonneg _ (by omega), Int.emod_lt_of_pos _ h0, ⟨_, _, _, _, _, by omega, rfl⟩, ?_⟩
    simp! [b_law_take, boxV, hl, hc, h0, h2, hi, hlt, hg, hs, hp, er, OV.view, OV.views, seqF, ixN, atI]
   ·refine ⟨cells[i.toNat] % n, boxV cells (i + 1) (cells[i.toNat] / n) (t + 1) s, Int.emod_nonneg _ (by omega), Int.emod_lt_of_pos _ h0, ⟨_, _, _, _, _, by omega, rfl⟩, ?_⟩
    simp! [b_law_take, boxV, hl, hc, h0, h2, hi, hlt, hg, hs, hp, OV.view, OV.views, seqF, ixN, atI]
theorem loop_inv {t : IT} {body : SM} (I : List PyData → Gv → Prop) {ds : List PyData} {Γ : Gv} (h0 : I [] Γ)
  (hs : ∀ pre d post, ds = pre ++ d :: post → ∀ Γ, I pre Γ → ∃ Γ1 Γ2, tgF t d Γ = some Γ1 ∧ body Γ1 = .ok (.next, Γ2) ∧ I (pre ++ [d]) Γ2) : ∃ Γ', loopF t body ds Γ = .ok (.next, Γ') ∧ I ds Γ' := by
 suffices H : ∀ post pre Γ, ds = pre ++ post → I pre Γ → ∃ Γ', loopF t body post Γ = .ok (.next, Γ') ∧ I ds Γ' from H ds [] Γ rfl h0
 intro post
 induction post with
 | nil => intro pre Γ e h; rw [List.append_nil] at e; subst e; exact ⟨Γ, rfl, h⟩
 | cons d post ih =>
  intro pre Γ e h
  obtain ⟨Γ1, Γ2, e1, e2, h2⟩ := hs pre d post e Γ h
  obtain ⟨Γ', e3, h3⟩ := ih (pre ++ [d]) Γ2 (by rw [e]; simp) h2
  exact ⟨Γ', by rw [loopF, e1]; simp only [e2]; exact e3, h3⟩
theorem comp_inv {k : Nat} {t : IT} {cond : EM Bool} {elt : EM FV} (I : List PyData → List PyData → Gv → Prop) {ds : List PyData} {Γ : Gv} (h0 : I [] [] Γ)
  (hs : ∀ pre d post, ds = pre ++ d :: post → ∀ ys Γ, I pre ys Γ → ∃ Γ2 c Γ3, tgF t d (Γ ++ List.replicate k none) = some Γ2 ∧ cond Γ2 = .ok (c, Γ3) ∧ (c = true → ∃ u Γ4 y, elt Γ3 = .ok (u, Γ4) ∧ derS Γ4 u = some y ∧ I (pre ++ [d]) (ys ++ [y]) (Γ4.take Γ.length)) ∧ (c = false → I (pre ++ [d]) ys (Γ3.take Γ.length))) :
  ∃ ys Γ', loopC k t cond elt ds [] Γ = .ok (ys, Γ') ∧ I ds ys Γ' := by
 suffices H : ∀ post pre ys Γ, ds = pre ++ post → I pre ys Γ → ∃ ys' Γ', loopC k t cond elt post ys Γ = .ok (ys', Γ') ∧ I ds ys' Γ' from H ds [] [] Γ rfl h0
 intro post
 induction post with
 | nil => intro pre ys Γ e h; rw [List.append_nil] at e; subst e; exact ⟨ys, Γ, rfl, h⟩
 | cons d post ih =>
  intro pre ys Γ e h
  obtain ⟨Γ2, c, Γ3, e1, e2, ht, hf⟩ := hs pre d post e ys Γ h
  cases c with
  | true =>
   obtain ⟨u, Γ4, y, e3, e4, h5⟩ := ht rfl
   obtain ⟨ys', Γ', e6, h6⟩ := ih (pre ++ [d]) _ _ (by rw [e]; simp) h5
   exact ⟨ys', Γ', by rw [loopC, e1]; simp only [e2, e3, e4]; exact e6, h6⟩
  | false =>
   obtain ⟨ys', Γ', e6, h6⟩ := ih (pre ++ [d]) _ _ (by rw [e]; simp) (hf rfl)
   exact ⟨ys', Γ', by rw [loopC, e1]; simp only [e2]; exact e6, h6⟩
theorem comp_pure {k : Nat} {t : IT} {cond : EM Bool} {elt : EM FV} (p : PyData → Bool) (f : PyData → PyData) {ds : List PyData} {Γ : Gv}
  (hs : ∀ d ∈ ds, ∃ Γ2 Γ3, tgF t d (Γ ++ List.replicate k none) = some Γ2 ∧ cond Γ2 = .ok (p d, Γ3) ∧ Γ3.take Γ.length = Γ ∧ (p d = true → ∃ u Γ4, elt Γ3 = .ok (u, Γ4) ∧ derS Γ4 u = some (f d) ∧ Γ4.take Γ.length = Γ)) :
  loopC k t cond elt ds [] Γ = .ok ((ds.filter p).map f, Γ) := by
 obtain ⟨ys, Γ', e, hy, rfl⟩ := comp_inv (k := k) (t := t) (cond := cond) (elt := elt) (fun pre ys Γ' => ys = (pre.filter p).map f ∧ Γ' = Γ) (ds := ds) (Γ := Γ) ⟨rfl, rfl⟩ (by
  rintro pre d post e ys Γ' ⟨rfl, rfl⟩
  obtain ⟨Γ2, Γ3, e1, e2, e3, h⟩ := hs d (by rw [e]; simp)
  refine ⟨Γ2, p d, Γ3, e1, e2, fun hp => ?_, fun hp => ⟨by simp [List.filter_append, hp], e3⟩⟩
  obtain ⟨u, Γ4, e4, e5, e6⟩ := h hp
  exact ⟨u, Γ4, _, e4, e5, by simp [List.filter_append, hp], e6⟩)
 rw [e, hy]
noncomputable def TakeOk (cf : CF) : Prop := ∀ b, IsBox b → ∀ n : Int, 1 ≤ n → n < 1073741824 → TakeIs b n (cf "_law_take" [b, .d (.int n)])
theorem sizes_ok (cf : CF) (ht : TakeOk cf) {b : OV} (hb : IsBox b) : ∃ (p n : Int) (b' : OV), 0 ≤ p ∧ p ≤ 12 ∧ 0 ≤ n ∧ n ≤ 40 ∧ IsBox b' ∧ runI 1 [true] [0] b_law_sizes cf [b] = .ok (.d (.tuple [.int p, .int n])) [some b'] := by
 obtain ⟨r1, b1, h1, h1', hb1, e1⟩ := ht b hb 8 (by decide) (by decide)
 by_cases hr : r1 = 0
 ·obtain ⟨r2, b2, h2, h2', hb2, e2⟩ := ht b1 hb1 13 (by decide) (by decide)
  obtain ⟨r3, b3, h3, h3', hb3, e3⟩ := ht b2 hb2 41 (by decide) (by decide)
  refine ⟨r2, r3, b3, h2, by omega, h3, by omega, hb3, ?_⟩
  simp! [b_law_sizes, e1, e2, e3, hr, lay, PyData.eqv, OV.view, OV.views, seqF, ixN, atI]
 ·obtain ⟨r2, b2, h2, h2', hb2, e2⟩ := ht b1 hb1 7 (by decide) (by decide)
  obtain ⟨r3, b3, h3, h3', hb3, e3⟩ := ht b2 hb2 9 (by decide) (by decide)
  refine ⟨r2, r3, b3, h2, by omega, h3, by omega, hb3, ?_⟩
  simp! [b_law_sizes, e1, e2, e3, hr, lay, PyData.eqv, OV.view, OV.views, seqF, ixN, atI]
end Wx
set_option maxHeartbeats 4000000
namespace Wx
open PySem L2 L3
theorem split_len {ds pre post : List PyData} {d : PyData} (e : ds = pre ++ d :: post) : pre.length < ds.length := by rw [e]; simp
theorem range_at {n : Nat} {pre post : List PyData} {d : PyData} (e : rangeD n = pre ++ d :: post) : d = .int pre.length ∧ pre.length < n := by
 have h : (rangeD n)[pre.length]? = some d := by rw [e]; simp
 exact ⟨(rangeD_get h).2, (rangeD_get h).1⟩
theorem lacks_ends (cf : CF) (ht : TakeOk cf) {b : OV} (hb : IsBox b) {pots way : Int} {size n : Nat} (hs : size ≤ 1000) {o4 o5 o6 o7 o8 o9 : Option OV} :
  ∃ (ps : List (Int × Int)) (b' : OV), ps.length = n ∧ IsBox b' ∧ loopC 1 (.nm 0 10) fYes (b_law_lacks_1.ev cf).1 (rangeD n) [] [some b, some (.d (.int pots)), some (.d (.int size)), some (.d (.int way)), o4, o5, o6, o7, o8, o9] = .ok (ps.map fun p => .tuple [.int p.1, .int p.2], [some b', some (.d (.int pots)), some (.d (.int size)), some (.d (.int way)), o4, o5, o6, o7, o8, o9]) := by
 obtain ⟨ys, Γ', e, ⟨ps, b', hp, hb', rfl, rfl⟩⟩ := comp_inv (k := 1) (t := .nm 0 10) (cond := fYes) (elt := (b_law_lacks_1.ev cf).1) (ds := rangeD n) (Γ := [some b, some (.d (.int pots)), some (.d (.int size)), some (.d (.int way)), o4, o5, o6, o7, o8, o9])
  (fun pre ys Γ => ∃ (ps : List (Int × Int)) (b' : OV), ps.length = pre.length ∧ IsBox b' ∧ ys = ps.map (fun p => PyData.tuple [.int p.1, .int p.2]) ∧ Γ = [some b', some (.d (.int pots)), some (.d (.int size)), some (.d (.int way)), o4, o5, o6, o7, o8, o9]) ⟨[], b, rfl, hb, rfl, rfl⟩ (by
   rintro pre d post e ys Γ ⟨ps, b1, hp, hb1, rfl, rfl⟩
   obtain ⟨r2, b2, h2, h2', hb2, e2⟩ := ht b1 hb1 (size + 1) (by omega) (by omega)
   obtain ⟨r3, b3, h3, h3', hb3, e3⟩ := ht b2 hb2 (size + 1) (by omega) (by omega)
   refine ⟨_, true, _, by simp [tgF]; rfl, rfl, fun _ => ?_, fun z => nomatch z⟩
   refine ⟨.dat (.tuple [.int r2, .int r3]), [some b3, some (.d (.int pots)), some (.d (.int size)), some (.d (.int way)), o4, o5, o6, o7, o8, o9, some (.d d)], _, ?_, rfl, ps ++ [(r2, r3)], b3, by simp [hp], hb3, by simp, by simp⟩
   simp! [b_law_lacks_1, e2, e3, OV.view, OV.views, seqF, ixN, atI])
 rw [rangeD_length] at hp
 exact ⟨ps, b', hp, hb', e⟩
theorem lacks_row (cf : CF) (ht : TakeOk cf) {b : OV} (hb : IsBox b) {pots way : Int} {size : Nat} {at_ : Nat} (ps : List (Int × Int)) (hps : ps.length ≤ 1000) {o4 o5 o8 o9 : Option OV} :
  ∃ (bs : List Bool) (b' : OV) (o8' o9' : Option OV), bs.length = ps.length ∧ IsBox b' ∧ loopF (.tp (.cons (.nm 8 8) (.cons (.nm 9 9) .nil))) (b_law_lacks_2.ex cf [0]) (ps.map fun p => PyData.tuple [.int p.1, .int p.2]) [some b, some (.d (.int pots)), some (.d (.int size)), some (.d (.int way)), o4, o5, some (.d (.int at_)), some (.l []), o8, o9]
   = .ok (.next, [some b', some (.d (.int pots)), some (.d (.int size)), some (.d (.int way)), o4, o5, some (.d (.int at_)), some (.l (bs.map fun x => .d (.bool x))), o8', o9']) := by
 obtain ⟨Γ', e, ⟨bs, b', o8', o9', hl, hb', rfl⟩⟩ := loop_inv (t := .tp (.cons (.nm 8 8) (.cons (.nm 9 9) .nil))) (body := b_law_lacks_2.ex cf [0]) (ds := ps.map fun p => PyData.tuple [.int p.1, .int p.2]) (Γ := [some b, some (.d (.int pots)), some (.d (.int size)), some (.d (.int way)), o4, o5, some (.d (.int at_)), some (.l []), o8, o9])
  (fun pre Γ => ∃ (bs : List Bool) (b' : OV) (o8' o9' : Option OV), bs.length = pre.length ∧ IsBox b' ∧ Γ = [some b', some (.d (.int pots)), some (.d (.int size)), some (.d (.int way)), o4, o5, some (.d (.int at_)), some (.l (bs.map fun x => .d (.bool x))), o8', o9']) ⟨[], b, o8, o9, rfl, hb, rfl⟩ (by
   rintro pre d post e Γ ⟨bs, b1, o8', o9', hl, hb1, rfl⟩
   have hlt := split_len e
   rw [List.length_map] at hlt
   obtain ⟨p, -, rfl⟩ : ∃ p ∈ ps, PyData.tuple [.int p.1, .int p.2] = d := by
    have : d ∈ ps.map fun p => PyData.tuple [.int p.1, .int p.2] := by rw [e]; simp
    exact List.mem_map.mp this
   have hsz : bs.length < 1000000 := by omega
   have key : ∃ (x : Bool) (b2 : OV), IsBox b2 ∧ b_law_lacks_2.ex cf [0] [some b1, some (.d (.int pots)), some (.d (.int size)), some (.d (.int way)), o4, o5, some (.d (.int at_)), some (.l (bs.map fun x => .d (.bool x))), some (.d (.int p.1)), some (.d (.int p.2))]
     = .ok (.next, [some b2, some (.d (.int pots)), some (.d (.int size)), some (.d (.int way)), o4, o5, some (.d (.int at_)), some (.l ((bs ++ [x]).map fun x => .d (.bool x))), some (.d (.int p.1)), some (.d (.int p.2))]) := by
    by_cases h0 : way = 0
    ·obtain ⟨r2, b2, h2, h2', hb2, e2⟩ := ht b1 hb1 2 (by decide) (by decide)
     refine ⟨r2 == 1, b2, hb2, ?_⟩
     simp! [b_law_lacks_2, h0, e2, hsz, lay, PyData.eqv, OV.view, OV.views, seqF, ixN, atI]
    ·by_cases h1 : way = 1
     ·refine ⟨decide ((if p.2 < p.1 then p.2 else p.1) ≤ (at_ : Int)) && decide ((at_ : Int) < (if p.2 > p.1 then p.2 else p.1)), b1, hb1, ?_⟩
      by_cases h3 : (if p.2 < p.1 then p.2 else p.1) ≤ (at_ : Int)
      ·simp! [b_law_lacks_2, h0, h1, h3, hsz, lay, PyData.eqv, OV.view, OV.views, seqF, ixN, atI]
      ·simp! [b_law_lacks_2, h0, h1, h3, hsz, lay, PyData.eqv, OV.view, OV.views, seqF, ixN, atI]
     ·by_cases h2 : way = 2
      ·refine ⟨decide ((at_ : Int) < p.1), b1, hb1, ?_⟩
       simp! [b_law_lacks_2, h0, h1, h2, hsz, lay, PyData.eqv, OV.view, OV.views, seqF, ixN, atI]
      ·refine ⟨!(decide ((at_ : Int) < p.1) == ((at_ : Int) == p.2)), b1, hb1, ?_⟩
       simp! [b_law_lacks_2, h0, h1, h2, hsz, lay, PyData.eqv, OV.view, OV.views, seqF, ixN, atI]
   obtain ⟨x, b2, hb2, ek⟩ := key
   exact ⟨_, _, by simp [tgF, tgFs], ek, bs ++ [x], b2, _, _, by simp [hl], hb2, rfl⟩)
 refine ⟨bs, b', o8', o9', by rw [hl, List.length_map], hb', e⟩
noncomputable def boolsD (bs : List Bool) : PyData := .list (bs.map .bool)
theorem views_bools (bs : List Bool) : OV.views (bs.map fun x => .d (.bool x)) = bs.map .bool := by
 rw [OV.views_map, List.map_map]; rfl
noncomputable def LacksIs (pots size : Nat) (x : RF) : Prop := ∃ (rows : List (List Bool)) (b' : OV), rows.length = size ∧ (∀ r ∈ rows, r.length = pots) ∧ IsBox b' ∧ x = .ok (.l (rows.map fun r => .d (boolsD r))) [some b', none, none]
theorem lacks_ok (cf : CF) (ht : TakeOk cf) {b : OV} (hb : IsBox b) {pots size : Nat} (hp : pots ≤ 1000) (hs : size ≤ 1000) : LacksIs pots size (runI 10 [true, false, false] [0] b_law_lacks cf [b, .d (.int pots), .d (.int size)]) := by
 obtain ⟨way, b1, h1, h1', hb1, e1⟩ := ht b hb 4 (by decide) (by decide)
 obtain ⟨ps, b2, hpl, hb2, e2⟩ := lacks_ends cf ht hb1 (pots := pots) (way := way) (size := size) (n := pots) hs (o4 := none) (o5 := none) (o6 := none) (o7 := none) (o8 := none) (o9 := none)
 obtain ⟨Γ', e3, ⟨rows, b3, o6, o7, o8, o9, hl, hr, hb3, rfl⟩⟩ := loop_inv (t := .nm 6 6) (body := b_law_lacks_3.ex cf [0]) (ds := rangeD size) (Γ := [some b2, some (.d (.int pots)), some (.d (.int size)), some (.d (.int way)), some (.d (.list (ps.map fun p => .tuple [.int p.1, .int p.2]))), some (.l []), none, none, none, none])
  (fun pre Γ => ∃ (rows : List (List Bool)) (b' : OV) (o6 o7 o8 o9 : Option OV), rows.length = pre.length ∧ (∀ r ∈ rows, r.length = pots) ∧ IsBox b' ∧ Γ = [some b', some (.d (.int pots)), some (.d (.int size)), some (.d (.int way)), some (.d (.list (ps.map fun p => .tuple [.int p.1, .int p.2]))), some (.l (rows.map fun r => .d (boolsD r))), o6, o7, o8, o9]) ⟨[], b2, _, _, _, _, rfl, (fun _ h => nomatch h), hb2, rfl⟩ (by
   rintro pre d post e Γ ⟨rows, b3, o6, o7, o8, o9, hl, hr, hb3, rfl⟩
   obtain ⟨rfl, hlt⟩ := range_at e
   obtain ⟨bs, b4, o8', o9', hbl, hb4, e4⟩ := lacks_row cf ht hb3 (pots := pots) (way := way) (size := size) (at_ := pre.length) ps (by omega) (o4 := some (.d (.list (ps.map fun p => .tuple [.int p.1, .int p.2])))) (o5 := some (.l (rows.map fun r => .d (boolsD r)))) (o8 := o8) (o9 := o9)
   refine ⟨_, [some b4, some (.d (.int pots)), some (.d (.int size)), some (.d (.int way)), some (.d (.list (ps.map fun p => .tuple [.int p.1, .int p.2]))), some (.l ((rows ++ [bs]).map fun r => .d (boolsD r))), some (.d (.int pre.length)), some (.d (boolsD bs)), o8', o9'], by simp [tgF]; rfl, ?_, rows ++ [bs], b4, _, _, _, _, by simp [hl], ?_, hb4, rfl⟩
   ·have hz : rows.length < 1000000 := by omega
    simp! [b_law_lacks_3, OV.view, OV.views, seqF, ixN, atI]
    rw [e4]
    simp! [hz, views_bools, boolsD, OV.view, OV.views, seqF, ixN, atI]
   ·intro r h
    rcases List.mem_append.mp h with h | h
    ·exact hr r h
    ·have : r = bs := by simpa using h
     subst this; rw [hbl, hpl])
 rw [rangeD_length] at hl
 refine ⟨rows, b3, hl, hr, hb3, ?_⟩
 have hp1 : -1000000 ≤ (pots : Int) ∧ (pots : Int) ≤ 1000000 := by omega
 have hs1 : -1000000 ≤ (size : Int) ∧ (size : Int) ≤ 1000000 := by omega
 have hp2 : pots ≤ 1000000 := by omega
 simp! [b_law_lacks, e1, e2, e3, hp1, hs1, hp2, rangeD_length, OV.view, OV.views, seqF, ixN, atI]
theorem get_snoc {α : Type} (f : Int → α) (xs : List Int) (a : α) : (xs.map f ++ [a])[xs.length]? = some a := by
 rw [List.getElem?_append_right (by simp)]; simp
theorem set_snoc {α : Type} (f : Int → α) (xs : List Int) (a b : α) : (xs.map f ++ [a]).set xs.length b = xs.map f ++ [b] := by
 rw [List.set_append_right _ _ (by simp)]; simp
noncomputable def intsD (xs : List Int) : PyData := .tuple (xs.map .int)
noncomputable def cellD (st : List Int) (w : Bool) (wi : List Int) : PyData := .tuple [intsD st, .bool w, intsD wi]
noncomputable def In9 (xs : List Int) : Prop := ∀ x ∈ xs, 0 ≤ x ∧ x ≤ 9
structure CellOk (pots : Nat) (st wi : List Int) : Prop where
 sl : st.length = pots
 wl : wi.length = pots
 sn : In9 st
 wn : In9 wi
theorem In9.snoc {xs : List Int} {x : Int} (h : In9 xs) (h1 : 0 ≤ x) (h2 : x ≤ 9) : In9 (xs ++ [x]) := by
 intro y hy
 rcases List.mem_append.mp hy with hy | hy
 ·exact h y hy
 ·have : y = x := by simpa using hy
  subst this; exact ⟨h1, h2⟩
theorem leaves_ints (xs : List Int) : leaves (xs.map fun x => .d (.int x)) = some (xs.map .int) := by
 induction xs with
 | nil => rfl
 | cons x xs ih => simp [leaves, ih]
noncomputable def CellIs (pots : Nat) (x : RF) : Prop := ∃ (st wi : List Int) (w : Bool) (b' : OV), CellOk pots st wi ∧ IsBox b' ∧ x = .ok (.d (cellD st w wi)) [some b', none, none, none]
theorem cell_loop (cf : CF) (ht : TakeOk cf) {b : OV} (hb : IsBox b) (bs : List Bool) (hl : bs.length ≤ 1000) {loose wet : Int} (h0 : 0 ≤ loose) (h1 : loose ≤ 1000) :
  ∃ (st wi : List Int) (b' : OV) (o6 o7 : Option OV), CellOk bs.length st wi ∧ IsBox b' ∧ loopF (.nm 6 6) (b_law_cell_1.ex cf [0]) (bs.map .bool) [some b, some (.d (boolsD bs)), some (.d (.int loose)), some (.d (.int wet)), some (.l []), some (.l []), none, none]
   = .ok (.next, [some b', some (.d (boolsD bs)), some (.d (.int loose)), some (.d (.int wet)), some (.l (st.map fun x => .d (.int x))), some (.l (wi.map fun x => .d (.int x))), o6, o7]) := by
 obtain ⟨Γ', e, ⟨st, wi, b', o6, o7, hc, hb', rfl⟩⟩ := loop_inv (t := .nm 6 6) (body := b_law_cell_1.ex cf [0]) (ds := bs.map .bool) (Γ := [some b, some (.d (boolsD bs)), some (.d (.int loose)), some (.d (.int wet)), some (.l []), some (.l []), none, none])
  (fun pre Γ => ∃ (st wi : List Int) (b' : OV) (o6 o7 : Option OV), CellOk pre.length st wi ∧ IsBox b' ∧ Γ = [some b', some (.d (boolsD bs)), some (.d (.int loose)), some (.d (.int wet)), some (.l (st.map fun x => .d (.int x))), some (.l (wi.map fun x => .d (.int x))), o6, o7]) ⟨[], [], b, _, _, ⟨rfl, rfl, (fun _ h => nomatch h), (fun _ h => nomatch h)⟩, hb, rfl⟩ (by
   rintro pre d post e Γ ⟨st, wi, b1, o6, o7, hc, hb1, rfl⟩
   have hlt := split_len e
   rw [List.length_map] at hlt
   obtain ⟨x, -, rfl⟩ : ∃ x ∈ bs, PyData.bool x = d := by
    have : d ∈ bs.map PyData.bool := by rw [e]; simp
    exact List.mem_map.mp this
   have hz1 : st.length < 1000000 := by have := hc.sl; omega
   have hz2 : wi.length < 1000000 := by have := hc.wl; omega
   have hn1 : ¬ ((st.length : Int) + 1 ≤ 0) := by omega
   have key : ∃ (s1 w1 : Int) (b2 : OV) (o7' : Option OV), 0 ≤ s1 ∧ s1 ≤ 9 ∧ 0 ≤ w1 ∧ w1 ≤ 9 ∧ IsBox b2 ∧ b_law_cell_1.ex cf [0] [some b1, some (.d (boolsD bs)), some (.d (.int loose)), some (.d (.int wet)), some (.l (st.map fun x => .d (.int x))), some (.l (wi.map fun x => .d (.int x))), some (.d (.bool x)), o7]
     = .ok (.next, [some b2, some (.d (boolsD bs)), some (.d (.int loose)), some (.d (.int wet)), some (.l ((st ++ [s1]).map fun x => .d (.int x))), some (.l ((wi ++ [w1]).map fun x => .d (.int x))), some (.d (.bool x)), o7']) := by
    obtain ⟨r2, b2, h2, h2', hb2, e2⟩ := ht b1 hb1 9 (by decide) (by decide)
    have hw : 0 ≤ r2 + (if x then 1 else 0) ∧ r2 + (if x then 1 else 0) ≤ 9 := by split <;> omega
    by_cases hlo : 0 < loose
    ·obtain ⟨r3, b3, h3, h3', hb3, e3⟩ := ht b2 hb2 loose (by omega) (by omega)
     by_cases hr : r3 = 0
     ·obtain ⟨r4, b4, h4, h4', hb4, e4⟩ := ht b3 hb3 10 (by decide) (by decide)
      obtain ⟨r5, b5, h5, h5', hb5, e5⟩ := ht b4 hb4 10 (by decide) (by decide)
      refine ⟨r4, r5, b5, some (.d (.int r2)), h4, by omega, h5, by omega, hb5, ?_⟩
      have a1 : (1 : Int) ≤ st.length + 1 := by omega
      have a2 : (1 : Int) ≤ wi.length + 1 := by omega
      have t1 : (-1 + ((st.length : Int) + 1)).toNat = st.length := by omega
      have t2 : (-1 + ((wi.length : Int) + 1)).toNat = wi.length := by omega
      simp! [b_law_cell_1, e2, e3, e4, e5, hr, hlo, hz1, hz2, a1, a2, t1, t2, get_snoc, set_snoc, lay, PyData.eqv, OV.view, OV.views, seqF, ixN, atI]
     ·refine ⟨r2, r2 + (if x then 1 else 0), b3, some (.d (.int r2)), h2, by omega, hw.1, hw.2, hb3, ?_⟩
      simp! [b_law_cell_1, e2, e3, hr, hlo, hz1, hz2, lay, PyData.eqv, OV.view, OV.views, seqF, ixN, atI]
    ·refine ⟨r2, r2 + (if x then 1 else 0), b2, some (.d (.int r2)), h2, by omega, hw.1, hw.2, hb2, ?_⟩
     simp! [b_law_cell_1, e2, hlo, hz1, hz2, lay, PyData.eqv, OV.view, OV.views, seqF, ixN, atI]
   obtain ⟨s1, w1, b2, o7', q1, q2, q3, q4, hb2, ek⟩ := key
   exact ⟨_, _, by simp [tgF], ek, st ++ [s1], wi ++ [w1], b2, _, _, ⟨by simp [hc.sl], by simp [hc.wl], hc.sn.snoc q1 q2, hc.wn.snoc q3 q4⟩, hb2, rfl⟩)
 rw [List.length_map] at hc
 exact ⟨st, wi, b', o6, o7, hc, hb', e⟩
theorem cell_ok (cf : CF) (ht : TakeOk cf) {b : OV} (hb : IsBox b) (bs : List Bool) (hl : bs.length ≤ 1000) {loose wet : Int} (h0 : 0 ≤ loose) (h1 : loose ≤ 1000) : CellIs bs.length (runI 8 [true, false, false, false] [0] b_law_cell cf [b, .d (boolsD bs), .d (.int loose), .d (.int wet)]) := by
 obtain ⟨st, wi, b1, o6, o7, hc, hb1, e1⟩ := cell_loop cf ht hb bs hl (wet := wet) h0 h1
 have hz1 : st.length ≤ 1000000 := by have := hc.sl; omega
 have hz2 : wi.length ≤ 1000000 := by have := hc.wl; omega
 by_cases hw : 0 < wet
 ·obtain ⟨r2, b2, h2, h2', hb2, e2⟩ := ht b1 hb1 5 (by decide) (by decide)
  refine ⟨st, wi, decide (r2 < wet), b2, hc, hb2, ?_⟩
  simp! [b_law_cell, boolsD, OV.view, OV.views, seqF, ixN, atI]
  simp only [boolsD] at e1
  simp! [e1, e2, hw, hz1, hz2, leaves_ints, cellD, intsD, OV.view, OV.views, seqF, ixN, atI]
 ·refine ⟨st, wi, false, b1, hc, hb1, ?_⟩
  simp! [b_law_cell, boolsD, OV.view, OV.views, seqF, ixN, atI]
  simp only [boolsD] at e1
  simp! [e1, hw, hz1, hz2, leaves_ints, cellD, intsD, OV.view, OV.views, seqF, ixN, atI]
noncomputable def CellOkF (cf : CF) : Prop := ∀ b, IsBox b → ∀ (bs : List Bool) (loose wet : Int), bs.length ≤ 1000 → 0 ≤ loose → loose ≤ 1000 → CellIs bs.length (cf "_law_cell" [b, .d (boolsD bs), .d (.int loose), .d (.int wet)])
noncomputable def LacksOk (cf : CF) : Prop := ∀ b, IsBox b → ∀ (pots size : Nat), pots ≤ 1000 → size ≤ 1000 → LacksIs pots size (cf "_law_lacks" [b, .d (.int pots), .d (.int size)])
structure Cl where
 st : List Int
 w : Bool
 wi : List Int
noncomputable def Cl.D (c : Cl) : PyData := cellD c.st c.w c.wi
noncomputable def BoltIs (pots size : Nat) (x : RF) : Prop := ∃ (cs : List Cl) (b' : OV), cs.length = size ∧ (∀ c ∈ cs, CellOk pots c.st c.wi) ∧ IsBox b' ∧ x = .ok (.l (cs.map fun c => .d c.D)) [some b', none, none, none]
theorem bolt_ok (cf : CF) (ht : TakeOk cf) (hlk : LacksOk cf) (hce : CellOkF cf) {b : OV} (hb : IsBox b) {pots size : Nat} (hp : pots ≤ 1000) (hs : size ≤ 1000) {loose : Int} (h0 : 0 ≤ loose) (h1 : loose ≤ 1000) :
  BoltIs pots size (runI 6 [true, false, false, false] [0] b_law_bolt cf [b, .d (.int pots), .d (.int size), .d (.int loose)]) := by
 obtain ⟨wet, b1, g1, g1', hb1, e1⟩ := ht b hb 4 (by decide) (by decide)
 obtain ⟨rows, b2, hl, hr, hb2, e2⟩ := hlk b1 hb1 pots size hp hs
 obtain ⟨ys, Γ', e3, ⟨cs, b3, hcl, hck, hb3, rfl, rfl⟩⟩ := comp_inv (k := 1) (t := .nm 0 6) (cond := fYes) (elt := (b_law_bolt_1.ev cf).1) (ds := rows.map boolsD) (Γ := [some b2, some (.d (.int pots)), some (.d (.int size)), some (.d (.int loose)), some (.d (.int wet)), some (.d (.list (rows.map boolsD)))])
  (fun pre ys Γ => ∃ (cs : List Cl) (b' : OV), cs.length = pre.length ∧ (∀ c ∈ cs, CellOk pots c.st c.wi) ∧ IsBox b' ∧ ys = cs.map Cl.D ∧ Γ = [some b', some (.d (.int pots)), some (.d (.int size)), some (.d (.int loose)), some (.d (.int wet)), some (.d (.list (rows.map boolsD)))]) ⟨[], b2, rfl, (fun _ h => nomatch h), hb2, rfl, rfl⟩ (by
   rintro pre d post e ys Γ ⟨cs, b3, hcl, hck, hb3, rfl, rfl⟩
   obtain ⟨r, hrm, rfl⟩ : ∃ r ∈ rows, boolsD r = d := by
    have : d ∈ rows.map boolsD := by rw [e]; simp
    exact List.mem_map.mp this
   have hrl := hr r hrm
   obtain ⟨st, wi, w, b4, hc, hb4, e4⟩ := hce b3 hb3 r loose wet (by omega) h0 h1
   rw [hrl] at hc
   refine ⟨_, true, _, by simp [tgF]; rfl, rfl, fun _ => ?_, fun z => nomatch z⟩
   refine ⟨.dat (cellD st w wi), [some b4, some (.d (.int pots)), some (.d (.int size)), some (.d (.int loose)), some (.d (.int wet)), some (.d (.list (rows.map boolsD))), some (.d (boolsD r))], cellD st w wi, ?_, rfl, cs ++ [⟨st, w, wi⟩], b4, by simp [hcl], ?_, hb4, by simp [Cl.D], by simp⟩
   ·simp! [b_law_bolt_1, e4, OV.view, OV.views, seqF, ixN, atI]
   ·intro c h
    rcases List.mem_append.mp h with h | h
    ·exact hck c h
    ·have : c = ⟨st, w, wi⟩ := by simpa using h
     subst this; exact hc)
 rw [List.length_map] at hcl
 refine ⟨cs, b3, by omega, hck, hb3, ?_⟩
 have hz : rows.length ≤ 1000000 := by omega
 have hv : OV.views (rows.map fun r => .d (boolsD r)) = rows.map boolsD := by rw [OV.views_map, List.map_map]; rfl
 simp! [b_law_bolt, e1, e2, hv, hz, OV.view, OV.views, seqF, ixN, atI]
 rw [e3]
 simp [outs]
end Wx
set_option maxHeartbeats 4000000
namespace Wx
open PySem L2 L3
theorem lay_int (n : Nat) (i : Int) : lay n (.int i) = true := by cases n <;> rfl
theorem lay_bool (n : Nat) (i : Bool) : lay n (.bool i) = true := by cases n <;> rfl
theorem lay_list {n : Nat} {xs : List PyData} (h : ∀ x ∈ xs, lay n x = true) : lay (n + 1) (.list xs) = true := by rw [lay]; exact List.all_eq_true.mpr h
theorem lay_tup {n : Nat} {xs : List PyData} (h : ∀ x ∈ xs, lay n x = true) : lay (n + 1) (.tuple xs) = true := by rw [lay]; exact List.all_eq_true.mpr h
theorem lay_cell (n : Nat) (c : Cl) : lay (n + 2) c.D = true := lay_tup fun x h => by
 have : x = intsD c.st ∨ x = .bool c.w ∨ x = intsD c.wi := by simpa using h
 rcases this with rfl | rfl | rfl
 ·exact lay_tup fun x h => by obtain ⟨i, _, rfl⟩ := List.mem_map.mp h; exact lay_int _ _
 ·exact lay_bool _ _
 ·exact lay_tup fun x h => by obtain ⟨i, _, rfl⟩ := List.mem_map.mp h; exact lay_int _ _
theorem lay_bolt (n : Nat) (cs : List Cl) : lay (n + 3) (.list (cs.map Cl.D)) = true := lay_list fun x h => by
 obtain ⟨c, _, rfl⟩ := List.mem_map.mp h
 exact lay_cell _ _
theorem eqv_lay {n : Nat} {d : PyData} (h : lay n d = true) : PyData.eqv d d = true := PySem.SeqAt.eqv_refl d (lay_ok n d h).1
theorem eqv_int (i j : Int) : PyData.eqv (.int i) (.int j) = (i == j) := rfl
noncomputable def lk (cs : List Cl) (d i : Nat) : Bool := match cs[i]? with
 | some c => decide (c.st.getD d 0 < c.wi.getD d 0)
 | none => false
noncomputable def lackL (cs : List Cl) (d : Nat) : List Nat := (List.range cs.length).filter (lk cs d)
noncomputable def boltD (cs : List Cl) : PyData := .list (cs.map Cl.D)
noncomputable def Bolt (pots : Nat) (cs : List Cl) : Prop := cs.length ≤ 1000 ∧ ∀ c ∈ cs, CellOk pots c.st c.wi
theorem filter_tt {α : Type} (l : List α) : l.filter (fun _ => true) = l := List.filter_eq_self.mpr fun _ _ => rfl
theorem whole_ok (cf : CF) (i : Int) : runI 1 [false] [] b_law_whole cf [.d (.int i)] = .ok (.d (.bool true)) [none] := by
 simp! [b_law_whole, OV.view, OV.views, seqF, ixN, atI]
noncomputable def WholeOk (cf : CF) : Prop := ∀ i : Int, cf "_law_whole" [.d (.int i)] = .ok (.d (.bool true)) [none]
noncomputable def SizesOk (cf : CF) : Prop := ∀ b, IsBox b → ∃ (p n : Int) (b' : OV), 0 ≤ p ∧ p ≤ 12 ∧ 0 ≤ n ∧ n ≤ 40 ∧ IsBox b' ∧ cf "_law_sizes" [b] = .ok (.d (.tuple [.int p, .int n])) [some b']
noncomputable def BoltOkF (cf : CF) : Prop := ∀ b, IsBox b → ∀ (pots size : Nat) (loose : Int), pots ≤ 1000 → size ≤ 1000 → 0 ≤ loose → loose ≤ 1000 → BoltIs pots size (cf "_law_bolt" [b, .d (.int pots), .d (.int size), .d (.int loose)])
theorem views_cells (cs : List Cl) : OV.view (.l (cs.map fun c => .d c.D)) = boltD cs := by
 rw [OV.view, OV.views_map, List.map_map]; rfl
end Wx
set_option maxHeartbeats 4000000
namespace Wx
open PySem L2 L3
noncomputable def lowB (a b : Nat) (xs ys : List Nat) : Bool := if xs = ys then decide (b < a) else xs.all fun x => ys.contains x
noncomputable def wetB (cs : List Cl) (i : Nat) : Bool := match cs[i]? with
 | some c => c.w
 | none => false
end Wx
set_option maxHeartbeats 4000000
namespace Wx
open PySem L2 L3
noncomputable def tS (i : Int) : Str := Str.ofString (toString i)
theorem log_ok {i : Int} (h : i.natAbs < 1000000000) : i.natAbs.log2 < 1920 := by
 by_cases h0 : i.natAbs = 0
 ·rw [h0]; decide
 ·rw [Nat.log2_lt h0]
  exact Nat.lt_trans h (by decide)
theorem tS_len {i : Int} (h : i.natAbs < 1000000000) : (tS i).length ≤ 1921 := PyProof.Rows.int_text_len_1921 (log_ok h)
theorem strOk_app (x y : Str) : PyData.strOk (x ++ y) = (PyData.strOk x && PyData.strOk y) := by
 show (Str.append x y).cps.all _ = _
 simp [Str.append, PyData.strOk]
theorem strOk_of (s : String) : PyData.strOk (Str.ofString s) = true := by
 rw [Str.ofString_eq_toList]
 unfold PyData.strOk
 rw [Array.all_eq_true]
 intro i hi
 have key : ∀ c : Char, c.toNat < 0x110000 := fun c => by
  have := c.valid
  rcases this with h | h
  ·have h1 : c.toNat < 0xd800 := h
   omega
  ·exact h.2
 simp only [decide_eq_true_eq]
 have : ∀ x ∈ (s.toList.map Char.toNat), x < 0x110000 := fun x hx => by
  obtain ⟨c, _, rfl⟩ := List.mem_map.mp hx
  exact key c
 have hi' : i < (s.toList.map Char.toNat).length := by simpa using hi
 have := this _ (List.getElem_mem hi')
 simpa using this
theorem join_eq (sep : Str) (ys : List Str) : Txt.join sep ys = Str.join sep ys := StrLaws.glued_eq_join sep ys
theorem strOk_join {sep : Str} (h : PyData.strOk sep = true) : ∀ {ys : List Str}, (∀ y ∈ ys, PyData.strOk y = true) → PyData.strOk (Str.join sep ys) = true
 | [], _ => by show PyData.strOk Str.empty = true; decide +kernel
 | [x], hy => hy x (by simp)
 | x :: y :: r, hy => by
  have e : Str.join sep (x :: y :: r) = x ++ sep ++ Str.join sep (y :: r) := rfl
  rw [e, strOk_app, strOk_app, hy x (by simp), h, strOk_join h (fun z hz => hy z (List.mem_cons_of_mem _ hz))]; rfl
inductive Deed where
 | hang (n : Str) (k : Int)
 | fold (n : Str)
 | twin (n m : Str)
 | wish (n : Str) (k : Int) (sh : List Int)
 | wax (n : Str) (cs : List Int)
 | dip (ns : List Str) (k : Int)
 | boil (ns : List Str)
 | brew (k : Int)
noncomputable def strsD (ns : List Str) : PyData := .tuple (ns.map .str)
noncomputable def Deed.D : Deed → PyData
 | .hang n k => .tuple [.str "hang", .str n, .int k]
 | .fold n => .tuple [.str "fold", .str n]
 | .twin n m => .tuple [.str "twin", .str n, .str m]
 | .wish n k sh => .tuple [.str "wish", .str n, .int k, intsD sh]
 | .wax n cs => .tuple [.str "wax", .str n, intsD cs]
 | .dip ns k => .tuple [.str "dip", strsD ns, .int k]
 | .boil ns => .tuple [.str "boil", strsD ns]
 | .brew k => .tuple [.str "brew", .int k]
noncomputable def Nm (x : Str) : Prop := 1 ≤ x.length ∧ x.length ≤ 8 ∧ ∀ c ∈ x.cps.toList, 97 ≤ c ∧ c ≤ 122
noncomputable def Nb (i : Int) : Prop := 0 ≤ i ∧ i < 1000000
noncomputable def Deed.Ok : Deed → Prop
 | .hang n k => Nm n ∧ Nb k
 | .fold n => Nm n
 | .twin n m => Nm n ∧ Nm m
 | .wish n k sh => Nm n ∧ Nb k ∧ sh.length ≤ 12 ∧ ∀ x ∈ sh, 0 ≤ x ∧ x ≤ 9
 | .wax n cs => Nm n ∧ cs.length ≤ 8 ∧ ∀ x ∈ cs, Nb x
 | .dip ns k => ns.length ≤ 4 ∧ (∀ n ∈ ns, Nm n) ∧ Nb k
 | .boil ns => ns.length ≤ 4 ∧ ∀ n ∈ ns, Nm n
 | .brew k => Nb k
theorem Nm.ok {x : Str} (h : Nm x) : PyData.strOk x = true := by
 unfold PyData.strOk
 rw [Array.all_eq_true]
 intro i hi
 have := (h.2.2 x.cps[i] (by simp)).2
 simp only [decide_eq_true_eq]; omega
theorem Nb.abs {i : Int} (h : Nb i) : i.natAbs < 1000000000 := by have := h.1; have := h.2; omega
noncomputable def shS (sh : List Int) : Str := if sh.isEmpty then "-" else Str.join "" (sh.map tS)
noncomputable def Deed.words : Deed → List Str
 | .hang n k => ["hang", n, tS k]
 | .fold n => ["fold", n]
 | .twin n m => ["twin", n, m]
 | .wish n k sh => ["wish", n, tS k, shS sh]
 | .wax n cs => "wax" :: n :: cs.map tS
 | .dip ns k => "dip" :: tS k :: ns
 | .boil ns => "boil" :: ns
 | .brew k => ["brew", tS k]
noncomputable def Deed.row (d : Deed) : Str := Str.join " " d.words
theorem view_d0 (x : PyData) : (OV.d x).view = x := rfl
theorem of_inj {x y : String} (h : Str.ofString x = Str.ofString y) : x = y := by
 rw [Str.ofString_eq_toList, Str.ofString_eq_toList] at h
 have h1 : x.toList.map Char.toNat = y.toList.map Char.toNat := by
  have := congrArg (fun z : Str => z.cps.toList) h
  simpa using this
 have key : ∀ a b : List Char, a.map Char.toNat = b.map Char.toNat → a = b := by
  intro a
  induction a with
  | nil => intro b e; cases b with
   | nil => rfl
   | cons _ _ => cases e
  | cons c r ih =>
   intro b e
   cases b with
   | nil => cases e
   | cons d s =>
    rw [List.map_cons, List.map_cons, List.cons.injEq] at e
    rw [ih s e.2, show c = d from Char.ext (UInt32.toNat_inj.mp e.1)]
 exact String.toList_inj.mp (key _ _ h1)
theorem wq (x y : String) : PyData.eqv (.str (Str.ofString x)) (.str (Str.ofString y)) = decide (x = y) := by
 show decide (Str.ofString x = Str.ofString y) = _
 by_cases h : x = y
 ·subst h; simp
 ·rw [decide_eq_false h, decide_eq_false (fun e => h (of_inj e))]
theorem lay_of (s : String) (n : Nat) : lay n (.str (Str.ofString s)) = true := by
 have := strOk_of s
 cases n <;> exact this
end Wx
set_option maxHeartbeats 4000000
namespace Wx
open PySem L2 L3
theorem sum_le {ys : List Str} {m : Nat} (h : ∀ y ∈ ys, y.length ≤ m) : (ys.map (·.length)).sum ≤ m * ys.length := by
 induction ys with
 | nil => simp
 | cons y r ih =>
  have h1 := h y (by simp)
  have h2 := ih fun z hz => h z (List.mem_cons_of_mem _ hz)
  simp only [List.map_cons, List.sum_cons, List.length_cons]
  rw [Nat.mul_succ]; omega
theorem join_ok {sep : Str} {ys : List Str} (hs : sep.length ≤ 16) (h : ∀ y ∈ ys, y.length ≤ 2000) (hl : ys.length ≤ 400) : gJoin sep (.list (ys.map .str)) = some (.str (Str.join sep ys)) := by
 have h1 := strsOf_map ys
 have h2 := sum_le h
 have h3 : 2000 * ys.length ≤ 2000 * 400 := Nat.mul_le_mul_left _ hl
 unfold gJoin
 simp only [h1]
 rw [if_pos ⟨by omega, hs⟩, join_eq]
noncomputable def tD : PyData → PyData
 | .int i => .str (tS i)
 | .str x => .str x
 | _ => .none
theorem tD_ints (xs : List Int) : (xs.map PyData.int).map tD = (xs.map tS).map .str := by rw [List.map_map, List.map_map]; rfl
theorem gStr_int {i : Int} (h : i.natAbs < 1000000000) : gStr (.int i) = some (.str (tS i)) := by
 unfold gStr
 simp only [log_ok h, if_true]
 rfl
theorem shades_in (cf : CF) {body : IE} {k : Nat} (hb : body = .str (.var 0 k)) {xs : List PyData} {Γ : Gv} (hk : Γ.length = k) (hx : ∀ x ∈ xs, (∃ i : Int, x = .int i ∧ i.natAbs < 1000000000) ∨ ∃ z, x = .str z) :
  loopC 1 (.nm 0 k) fYes (body.ev cf).1 xs [] Γ = .ok (xs.map tD, Γ) := by
 have e := comp_pure (k := 1) (t := .nm 0 k) (cond := fYes) (elt := (body.ev cf).1) (ds := xs) (Γ := Γ) (fun _ => true) tD (by
  intro x hxm
  have hg : gStr x = some (tD x) := by
   rcases hx x hxm with ⟨i, rfl, hi⟩ | ⟨z, rfl⟩
   ·exact gStr_int hi
   ·rfl
  have hset : (Γ ++ List.replicate 1 none).set k (some (.d x)) = Γ ++ [some (.d x)] := by rw [← hk]; exact set_last Γ (OV.d x)
  have hget : (Γ ++ [some (OV.d x)])[k]? = some (some (.d x)) := by rw [← hk, List.getElem?_append_right (Nat.le_refl _)]; simp
  have hlt : k < (Γ ++ List.replicate 1 (none : Option OV)).length := by simp; omega
  refine ⟨Γ ++ [some (.d x)], _, ?_, rfl, by simp, fun _ => ⟨.dat (tD x), Γ ++ [some (.d x)], ?_, rfl, by simp⟩⟩
  ·unfold tgF
   first
    | (rw [if_pos hlt, hset])
    | (rw [hset])
    | (simp only [hset])
  ·subst hb
   simp! [hget, hg])
 rw [filter_tt] at e
 exact e
theorem shs_small {sh : List Int} (h : ∀ x ∈ sh, 0 ≤ x ∧ x ≤ 9) : ∀ y ∈ sh.map tS, y.length ≤ 2000 := fun y hy => by
 obtain ⟨i, hi, rfl⟩ := List.mem_map.mp hy
 have := h i hi
 have := tS_len (i := i) (by omega)
 omega
theorem sshown_ok (cf : CF) {sh : List Int} (hl : sh.length ≤ 12) (h : ∀ x ∈ sh, 0 ≤ x ∧ x ≤ 9) : runI 1 [false] [] p_shades_shown cf [.d (intsD sh)] = .ok (.d (.str (shS sh))) [none] := by
 have e := shades_in cf (body := p_shades_shown_1) (k := 1) rfl (xs := sh.map .int) (Γ := [some (.d (intsD sh))]) rfl (fun x hx => by
  obtain ⟨i, hi, rfl⟩ := List.mem_map.mp hx
  have := h i hi
  exact .inl ⟨i, rfl, by omega⟩)
 rw [tD_ints] at e
 have hj := join_ok (sep := "") (by decide) (shs_small h) (by simp; omega)
 have hz : (sh.map PyData.int).length ≤ 1000000 := by simp; omega
 unfold p_shades_shown shS
 generalize p_shades_shown_1 = B at *
 simp only [intsD] at *
 cases sh with
 | nil => simp! [L3.fin]
 | cons a r =>
  have hne : ((a :: r).map PyData.int).isEmpty = false := rfl
  have hze : ((a :: r).isEmpty) = false := rfl
  generalize ((a :: r).map tS).map PyData.str = TT at *
  generalize (a :: r).map PyData.int = NN at *
  simp! [hne, hze, hz, e, hj]
noncomputable def SShownOk (cf : CF) : Prop := ∀ sh : List Int, sh.length ≤ 12 → (∀ x ∈ sh, 0 ≤ x ∧ x ≤ 9) → cf "shades_shown" [.d (intsD sh)] = .ok (.d (.str (shS sh))) [none]
theorem figures_ok (cf : CF) {sh : List Int} (hl : sh.length ≤ 12) (h : ∀ x ∈ sh, 0 ≤ x ∧ x ≤ 9) : runI 1 [false] [] b_law_figures cf [.d (intsD sh)] = .ok (.d (.str (shS sh))) [none] := by
 have e := shades_in cf (body := b_law_figures_1) (k := 1) rfl (xs := sh.map .int) (Γ := [some (.d (intsD sh))]) rfl (fun x hx => by
  obtain ⟨i, hi, rfl⟩ := List.mem_map.mp hx
  have := h i hi
  exact .inl ⟨i, rfl, by omega⟩)
 rw [tD_ints] at e
 have hj := join_ok (sep := "") (by decide) (shs_small h) (by simp; omega)
 have hz : (sh.map PyData.int).length ≤ 1000000 := by simp; omega
 unfold b_law_figures shS
 generalize b_law_figures_1 = B at *
 simp only [intsD] at *
 cases sh with
 | nil => simp! [eqv_int, lay_int]
 | cons a r =>
  have hne : ((((a :: r).map PyData.int).length : Int) == 0) = false := by rw [beq_eq_false_iff_ne]; simp; omega
  have hne2 : ((a :: r).map PyData.int).length ≠ 0 := by simp
  have hze : ((a :: r).isEmpty) = false := rfl
  generalize ((a :: r).map tS).map PyData.str = TT at *
  generalize (a :: r).map PyData.int = NN at *
  simp! [hne, hne2, hze, hz, e, hj, eqv_int, lay_int]
noncomputable def FiguresOk (cf : CF) : Prop := ∀ sh : List Int, sh.length ≤ 12 → (∀ x ∈ sh, 0 ≤ x ∧ x ≤ 9) → cf "_law_figures" [.d (intsD sh)] = .ok (.d (.str (shS sh))) [none]
theorem slen_join (sep : Str) : ∀ ys : List Str, (Str.join sep ys).length ≤ (ys.map (·.length)).sum + sep.length * ys.length
 | [] => by show Str.empty.length ≤ _; exact Nat.zero_le _
 | [x] => by show x.length ≤ _; simp
 | x :: y :: r => by
  have e : Str.join sep (x :: y :: r) = x ++ sep ++ Str.join sep (y :: r) := rfl
  have ih := slen_join sep (y :: r)
  rw [e, slen_app, slen_app]
  simp only [List.map_cons, List.sum_cons, List.length_cons] at *
  have : sep.length * (r.length + 1 + 1) = sep.length * (r.length + 1) + sep.length := Nat.mul_succ _ _
  omega
theorem tS_len2 {i : Int} (h : i.natAbs < 1000000000) : (tS i).length ≤ 11 := by
 have := int_text_length_le10 (a := i) (k := 9) (by decide) (by omega)
 unfold tS
 rw [Str.ofString_eq_toList]
 show (List.toArray _).size ≤ _
 simp
 exact Nat.le_trans this (by decide)
theorem Nm.len {n : Str} (h : Nm n) : n.length ≤ 2000 := by have := h.2.1; omega
theorem Nb.len {i : Int} (h : Nb i) : (tS i).length ≤ 2000 := by have := tS_len2 h.abs; omega
theorem join_snoc (sep a : Str) : ∀ {l : List Str}, l ≠ [] → Str.join sep (l ++ [a]) = Str.join sep l ++ sep ++ a
 | [], h => absurd rfl h
 | [x], _ => rfl
 | x :: y :: r, _ => by
  have e : Str.join sep (x :: y :: r ++ [a]) = x ++ sep ++ Str.join sep (y :: r ++ [a]) := rfl
  have e2 : Str.join sep (x :: y :: r) = x ++ sep ++ Str.join sep (y :: r) := rfl
  rw [e, e2, join_snoc sep a (l := y :: r) (by simp)]
  simp only [sapp_assoc]
theorem gFmt_str {n : Str} (h : n.length ≤ 2000) : gFmt (.str n) = some n := by
 have : n.length ≤ 10000 := by omega
 simp [gFmt, this]
theorem gFmt_int {i : Int} (h : i.natAbs < 1000000000) : gFmt (.int i) = some (tS i) := by
 have h1 := log_ok h
 have h2 : (Str.ofString (toString i)).length ≤ 10000 := by have := tS_len2 h; unfold tS at this; omega
 show (if i.natAbs.log2 < 1920 ∧ (Str.ofString (toString i)).length ≤ 10000 then some (Str.ofString (toString i)) else none) = _
 rw [if_pos ⟨h1, h2⟩]; rfl
theorem gSadd_ok {x y : Str} (h : x.length + y.length ≤ 1000000) : gSadd (.str x) (.str y) = some (.str (x ++ y)) := by
 simp [gSadd, h]
theorem Nb.tok (i : Int) : PyData.strOk (tS i) = true := strOk_of _
end Wx
namespace Wx
open PySem PySem.Builtin PySem.Builtin.Str L2 L3
noncomputable abbrev ch (c : Nat) : Str := ⟨#[c]⟩
theorem app_l (a y : Str) : (a ++ y).cps.toList = a.cps.toList ++ y.cps.toList := PySem.W.KT.app_list a y
theorem str_ext {a b : Str} (h : a.cps.toList = b.cps.toList) : a = b := by
 cases a; cases b
 rw [Str.mk.injEq]
 exact Array.toList_inj.mp h
theorem sep_inj {c : Nat} : ∀ {x y A B : List Nat}, c ∉ x → c ∉ y → x ++ c :: A = y ++ c :: B → x = y ∧ A = B
 | [], [], A, B, _, _, e => by simpa using e
 | [], b :: y, A, B, _, h2, e => by
  rw [List.nil_append, List.cons_append, List.cons.injEq] at e
  exact absurd (by rw [e.1]; exact List.mem_cons_self) h2
 | a :: x, [], A, B, h1, _, e => by
  rw [List.nil_append, List.cons_append, List.cons.injEq] at e
  exact absurd (by rw [← e.1]; exact List.mem_cons_self) h1
 | a :: x, b :: y, A, B, h1, h2, e => by
  rw [List.cons_append, List.cons_append, List.cons.injEq] at e
  obtain ⟨e1, e2⟩ := sep_inj (fun z => h1 (List.mem_cons_of_mem _ z)) (fun z => h2 (List.mem_cons_of_mem _ z)) e.2
  exact ⟨by rw [e.1, e1], e2⟩
theorem join_l (c : Nat) (x y : Str) (r : List Str) : (Str.join (ch c) (x :: y :: r)).cps.toList = x.cps.toList ++ c :: (Str.join (ch c) (y :: r)).cps.toList := by
 have e : Str.join (ch c) (x :: y :: r) = x ++ ch c ++ Str.join (ch c) (y :: r) := rfl
 rw [e, app_l, app_l]
 simp
theorem join_inj {c : Nat} : ∀ {l l' : List Str}, l ≠ [] → l' ≠ [] → (∀ p ∈ l, c ∉ p.cps.toList) → (∀ p ∈ l', c ∉ p.cps.toList) → Str.join (ch c) l = Str.join (ch c) l' → l = l'
 | [], _, h, _, _, _, _ => absurd rfl h
 | _, [], _, h, _, _, _ => absurd rfl h
 | [x], [y], _, _, _, _, e => by
  have e : x = y := e
  rw [e]
 | [x], y :: z :: r, _, _, h1, _, e => by
  have e' := congrArg (fun s : Str => s.cps.toList) e
  rw [join_l] at e'
  have e'' : x.cps.toList = y.cps.toList ++ c :: (Str.join (ch c) (z :: r)).cps.toList := e'
  exact absurd (by rw [e'']; simp) (h1 x (by simp))
 | x :: w :: r, [y], _, _, _, h2, e => by
  have e' := congrArg (fun s : Str => s.cps.toList) e
  rw [join_l] at e'
  have e'' : x.cps.toList ++ c :: (Str.join (ch c) (w :: r)).cps.toList = y.cps.toList := e'
  exact absurd (by rw [← e'']; simp) (h2 y (by simp))
 | x :: w :: r, y :: z :: t, _, _, h1, h2, e => by
  have e' := congrArg (fun s : Str => s.cps.toList) e
  rw [join_l, join_l] at e'
  obtain ⟨e1, e2⟩ := sep_inj (h1 x (by simp)) (h2 y (by simp)) e'
  rw [str_ext e1, join_inj (l := w :: r) (l' := z :: t) (by simp) (by simp) (fun p hp => h1 p (List.mem_cons_of_mem _ hp)) (fun p hp => h2 p (List.mem_cons_of_mem _ hp)) (str_ext e2)]
theorem split_of {c : Nat} {ws : List Str} (h : ws ≠ []) (hf : ∀ p ∈ ws, c ∉ p.cps.toList) : Txt.split (Str.join (ch c) ws) (ch c) = ws := by
 refine join_inj (c := c) ?_ h (StrLaws.split_free _ c) hf (StrLaws.join_split _ _)
 intro e
 have := PyProof.Rows.split_pos (Str.join (ch c) ws) (ch c)
 rw [e] at this
 exact absurd this (by decide)
theorem ends_of (y : Str) (c : Nat) : Txt.endswith (y ++ ch c) (ch c) = true := PySem.W.KT.ends_app y (ch c)
theorem cut_of (y : Str) (c : Nat) : Txt.slice (y ++ ch c) none (some (-1)) = y := by
 have hl : (y ++ ch c).length = y.length + 1 := slen_app y (ch c)
 rw [PyProof.Rows.slice_to_neg (by decide)]
 have e : max 0 (((y ++ ch c).length : Int) + -1) = (y.length : Int) := by rw [hl]; omega
 rw [e]
 have := beq_iff_eq.mp (PyProof.Rows.slice_closes_toL (x := y ++ ch c) (j := (y.length : Int)) (by omega) (by rw [hl]; omega))
 rw [this]
 apply str_ext
 rw [app_l]
 simp [Str.length]
theorem tS_l {m : Nat} : (tS (m : Int)).cps.toList = (Nat.toDigits 10 m).map Char.toNat := PySem.W.KIN.signs_num m
theorem dg_range {m : Nat} : ∀ c ∈ (Nat.toDigits 10 m).map Char.toNat, 48 ≤ c ∧ c ≤ 57 := by
 intro c hc
 obtain ⟨k, hk, rfl⟩ := List.mem_map.mp hc
 exact PyProof.Rows.digit_range (Nat.isDigit_of_mem_toDigits (by decide) (by decide) hk)
theorem dg_ne (m : Nat) : Nat.toDigits 10 m ≠ [] := by
 by_cases h : m < 10
 ·rw [Nat.toDigits_of_lt_base h]; simp
 ·have hm : m % 10 < 10 := Nat.mod_lt m (by decide)
  have t : Nat.toDigits 10 (m / 10) ++ Nat.toDigits 10 (m % 10) = Nat.toDigits 10 (10 * (m / 10) + m % 10) := Nat.toDigits_append_toDigits (by decide) (by omega) hm
  rw [Nat.div_add_mod] at t
  rw [← t, Nat.toDigits_of_lt_base hm]; simp
theorem dg_head (m : Nat) (h : 0 < m) : ((Nat.toDigits 10 m).map Char.toNat).head? ≠ some 48 := by
 induction m using Nat.strongRecOn with
 | _ m ih =>
  by_cases h10 : m < 10
  ·rw [Nat.toDigits_of_lt_base h10]
   have : ∀ k : Fin 10, 0 < (k : Nat) → (([Nat.digitChar (k : Nat)]).map Char.toNat).head? ≠ some 48 := by decide
   exact this ⟨m, h10⟩ h
  ·have hm : m % 10 < 10 := Nat.mod_lt m (by decide)
   have t : Nat.toDigits 10 (m / 10) ++ Nat.toDigits 10 (m % 10) = Nat.toDigits 10 (10 * (m / 10) + m % 10) := Nat.toDigits_append_toDigits (by decide) (by omega) hm
   rw [Nat.div_add_mod] at t
   rw [← t, List.map_append]
   have ih' := ih (m / 10) (by omega) (by omega)
   cases q : (Nat.toDigits 10 (m / 10)).map Char.toNat with
   | nil => exact absurd (List.map_eq_nil_iff.mp q) (dg_ne _)
   | cons a r => rw [q] at ih'; simpa using ih'
theorem nb_nat {i : Int} (h : Nb i) : ∃ m : Nat, i = m ∧ m < 1000000 := ⟨i.toNat, by have := h.1; omega, by have := h.1; have := h.2; omega⟩
theorem tS_small {i : Int} (h : Nb i) : 1 ≤ (tS i).length ∧ (tS i).length ≤ 6 := by
 refine ⟨?_, PyProof.Rows.toString_length_le h.1 (k := 6) (by decide) h.2⟩
 obtain ⟨m, rfl, hm⟩ := nb_nat h
 have := tS_l (m := m)
 have hl : (tS (m : Int)).cps.toList.length = (tS (m : Int)).length := Array.length_toList
 rw [this, List.length_map] at hl
 have hne := dg_ne m
 have : 0 < (Nat.toDigits 10 m).length := List.length_pos_iff.mpr hne
 omega
theorem tS_fig {i : Int} (h : Nb i) : ∀ c ∈ (tS i).cps.toList, 48 ≤ c ∧ c ≤ 57 := by
 obtain ⟨m, rfl, hm⟩ := nb_nat h
 rw [tS_l]; exact dg_range
theorem tS_zero {i : Int} (h : Nb i) (hz : (tS i).cps.toList.head? = some 48) : i = 0 := by
 obtain ⟨m, rfl, hm⟩ := nb_nat h
 rw [tS_l] at hz
 rcases Nat.eq_zero_or_pos m with rfl | hp
 ·rfl
 ·exact absurd hz (dg_head m hp)
theorem tS_int {i : Int} (h : Nb i) : PySem.intText? (tS i) = some i := PySem.W.KIN.num_reads h.1 (by have := h.2; omega)
theorem tS_one {i : Int} (h0 : 0 ≤ i) (h9 : i ≤ 9) : ∃ c : Nat, tS i = ch c ∧ 48 ≤ c ∧ c ≤ 57 := by
 have : ∀ k : Fin 10, (tS ((k : Nat) : Int)).cps.toList = [48 + (k : Nat)] := by decide +kernel
 have e := this ⟨i.toNat, by omega⟩
 have ei : ((i.toNat : Nat) : Int) = i := by omega
 rw [ei] at e
 exact ⟨48 + i.toNat, str_ext (by rw [e]), by omega, by omega⟩
theorem tS_nosp {i : Int} (h : Nb i) : 32 ∉ (tS i).cps.toList := fun z => by have := (tS_fig h 32 z).1; omega
theorem tS_nolf {i : Int} (h : Nb i) : 10 ∉ (tS i).cps.toList := fun z => by have := (tS_fig h 10 z).1; omega
theorem shS_cs {sh : List Int} (h : ∀ x ∈ sh, 0 ≤ x ∧ x ≤ 9) (hne : sh ≠ []) : ∃ cs : List Nat, shS sh = ⟨cs.toArray⟩ ∧ cs.length = sh.length ∧ (∀ c ∈ cs, 48 ≤ c ∧ c ≤ 57) ∧ cs.map (fun c => ch c) = sh.map tS := by
 have key : ∀ sh : List Int, (∀ x ∈ sh, 0 ≤ x ∧ x ≤ 9) → ∃ cs : List Nat, cs.length = sh.length ∧ (∀ c ∈ cs, 48 ≤ c ∧ c ≤ 57) ∧ cs.map (fun c => ch c) = sh.map tS := by
  intro sh
  induction sh with
  | nil => exact fun _ => ⟨[], rfl, (fun _ z => nomatch z), rfl⟩
  | cons a r ih =>
   intro h
   obtain ⟨cs, h1, h2, h3⟩ := ih fun x hx => h x (List.mem_cons_of_mem _ hx)
   obtain ⟨c, e, hc⟩ := tS_one (h a (by simp)).1 (h a (by simp)).2
   refine ⟨c :: cs, by simp [h1], fun x hx => ?_, by rw [List.map_cons, List.map_cons, h3, e]⟩
   rcases List.mem_cons.mp hx with rfl | hx
   ·exact hc
   ·exact h2 x hx
 obtain ⟨cs, h1, h2, h3⟩ := key sh h
 refine ⟨cs, ?_, h1, h2, h3⟩
 unfold shS
 have : sh.isEmpty = false := by cases sh with
  | nil => exact absurd rfl hne
  | cons _ _ => rfl
 rw [this]
 simp only [Bool.false_eq_true, if_false]
 rw [← h3]
 exact PyProof.Rows.join_ones cs
theorem shS_no {sh : List Int} (h : ∀ x ∈ sh, 0 ≤ x ∧ x ≤ 9) {c : Nat} (hc : c < 45) : c ∉ (shS sh).cps.toList := by
 by_cases hne : sh = []
 ·subst hne
  have : (shS []).cps.toList = [45] := by decide +kernel
  rw [this]; simp; omega
 ·obtain ⟨cs, e, _, h2, _⟩ := shS_cs h hne
  rw [e]
  intro z
  have := (h2 c (by simpa using z)).1
  omega
theorem sp_eq : (Str.ofString " ") = ch 32 := by decide +kernel
theorem lf_eq : (Str.ofString "\n") = ch 10 := by decide +kernel
theorem join_no {c k : Nat} (hk : c ≠ k) : ∀ {l : List Str}, (∀ p ∈ l, c ∉ p.cps.toList) → c ∉ (Str.join (ch k) l).cps.toList
 | [], _ => by show c ∉ Str.empty.cps.toList; simp [Str.empty]
 | [x], h => h x (by simp)
 | x :: y :: r, h => by
  rw [join_l]
  intro z
  rcases List.mem_append.mp z with z | z
  ·exact h x (by simp) z
  ·rcases List.mem_cons.mp z with z | z
   ·exact hk z
   ·exact join_no hk (l := y :: r) (fun p hp => h p (List.mem_cons_of_mem _ hp)) z
theorem rows_text : ∀ {rs : List Str}, rs ≠ [] → Str.join "" (rs.map fun r => r ++ Str.ofString "\n") = Str.join (Str.ofString "\n") rs ++ Str.ofString "\n"
 | [], h => absurd rfl h
 | [x], _ => rfl
 | x :: y :: r, _ => by
  have ih := rows_text (rs := y :: r) (by simp)
  have e : Str.join "" ((x :: y :: r).map fun r => r ++ Str.ofString "\n") = (x ++ Str.ofString "\n") ++ Str.ofString "" ++ Str.join "" ((y :: r).map fun r => r ++ Str.ofString "\n") := rfl
  have e2 : Str.join (Str.ofString "\n") (x :: y :: r) = x ++ Str.ofString "\n" ++ Str.join (Str.ofString "\n") (y :: r) := rfl
  have e3 : (Str.ofString "" : Str) = Str.empty := by decide +kernel
  rw [e, ih, e2, e3, sapp_empty]
  simp only [sapp_assoc]
end Wx
namespace Wx
open PySem L2 L3
noncomputable def p_plain_number : IB := (.cons (.ite (.not (.call (.call "is_plain" 1 (.cons (.var 0 0) .nil)))) (.cons (.ret (.dat .cnone)) .nil) .nil) (.cons (.ret (.dat (.sint (.var 0 0)))) .nil))
noncomputable def p_is_plain : IB := (.cons (.ite (.not (.chain .LtE .LtE (.cint 1) (.slen (.var 0 0)) (.gint "MOST_FIGURES" (6)))) (.cons (.ret (.dat (.cbool false))) .nil) .nil) (.cons (.ite (.cmp .Eq (.six (.var 0 0) (.cint 0)) (.cstr "0")) (.cons (.ret (.dat (.cmp .Eq (.var 0 0) (.cstr "0")))) .nil) .nil) (.cons (.ret (.call "are_figures" 1 (.cons (.var 0 0) .nil))) .nil)))
noncomputable def p_plain_shades_1 : IE := (.sint (.var 0 1))
noncomputable def p_plain_shades : IB := (.cons (.ite (.cmp .Eq (.var 0 0) (.gstr "NO_SHADES" "-")) (.cons (.ret (.dat (.tup .nil))) .nil) .nil) (.cons (.ite (.or (.not (.chain .LtE .LtE (.cint 1) (.slen (.var 0 0)) (.gint "MOST_POTS" (12)))) (.not (.call (.call "are_figures" 1 (.cons (.var 0 0) .nil))))) (.cons (.ret (.dat .cnone)) .nil) .nil) (.cons (.ret (.dat (.tuple (.new (.comp 1 1 [] ["sign"] (.nm 0 1) (.chars (.var 0 0)) .yes p_plain_shades_1))))) .nil)))
noncomputable def p_are_figures_1 : IE := (.sin (.var 0 1) (.gstr "FIGURES" "0123456789"))
noncomputable def p_are_figures : IB := (.cons (.ret (.dat (.all (.new (.comp 1 1 [] ["sign"] (.nm 0 1) (.chars (.var 0 0)) .yes p_are_figures_1))))) .nil)
end Wx
set_option maxHeartbeats 4000000
namespace Wx
open PySem L2 L3
theorem bools_tt {α : Type} (xs : List α) : (boolsOf (xs.map fun _ => PyData.bool true)).map (fun bs => PyData.bool (bs.all id)) = some (.bool true) := by
 have : boolsOf (xs.map fun _ => PyData.bool true) = some (xs.map fun _ => true) := by
  induction xs with
  | nil => rfl
  | cons a r ih => simp [boolsOf, ih]
 rw [this]
 simp
theorem all_in (cf : CF) {body : IE} {x z : Str} (hb : body = .sin (.var 0 1) (.gstr x z)) {cs : List Nat} {D : OV} (h : ∀ c ∈ cs, Txt.contains z (ch c) = true) :
  loopC 1 (.nm 0 1) fYes (body.ev cf).1 (cs.map fun c => PyData.str (ch c)) [] [some D] = .ok (cs.map fun _ => PyData.bool true, [some D]) := by
 have e := comp_pure (k := 1) (t := .nm 0 1) (cond := fYes) (elt := (body.ev cf).1) (ds := cs.map fun c => PyData.str (ch c)) (Γ := [some D]) (fun _ => true) (fun _ => .bool true) (by
  intro y hy
  obtain ⟨c, hc, rfl⟩ := List.mem_map.mp hy
  have hz := h c hc
  refine ⟨[some D, some (.d (.str (ch c)))], _, rfl, rfl, rfl, fun _ => ⟨.dat (.bool true), [some D, some (.d (.str (ch c)))], ?_, rfl, rfl⟩⟩
  subst hb
  generalize ch c = cc at *
  simp! [gSin, hz])
 rw [filter_tt, List.map_map] at e
 exact e
theorem figures_in : ∀ c : Nat, 48 ≤ c → c ≤ 57 → Txt.contains (Str.ofString "0123456789") (ch c) = true := fun c h1 h2 => by
 have : ∀ k : Fin 10, Txt.contains (Str.ofString "0123456789") (ch (48 + (k : Nat))) = true := by decide +kernel
 have e := this ⟨c - 48, by omega⟩
 have : 48 + (c - 48) = c := by omega
 simp only [this] at e
 exact e
theorem ascii_of {x : Str} (h : ∀ c ∈ x.cps.toList, c ≤ 127) : x.cps.all (· < 128) = true := by
 rw [Array.all_eq_true]
 intro i hi
 have := h x.cps[i] (by simp)
 simp only [decide_eq_true_eq]; omega
theorem are_figures_ok (cf : CF) {x : Str} (hx : x.length ≤ 1000) (h : ∀ c ∈ x.cps.toList, 48 ≤ c ∧ c ≤ 57) : runI 1 [false] [] p_are_figures cf [.d (.str x)] = .ok (.d (.bool true)) [none] := by
 have ha := ascii_of (x := x) fun c hc => by have := (h c hc).2; omega
 have e := all_in cf (body := p_are_figures_1) rfl (cs := x.cps.toList) (D := .d (.str x)) fun c hc => figures_in c (h c hc).1 (h c hc).2
 have eb := bools_tt x.cps.toList
 have hs : signsOf x = x.cps.toList.map fun c => PyData.str (ch c) := rfl
 have hcl : (x.cps.toList.map fun c => PyData.str (ch c)).length ≤ 1000000 := by
  simp
  have : x.cps.size = x.length := rfl
  omega
 unfold p_are_figures
 generalize p_are_figures_1 = B at *
 generalize (x.cps.toList.map fun _ => PyData.bool true) = BB at *
 generalize (x.cps.toList.map fun c => PyData.str (ch c)) = CC at *
 simp! [fChars, ha, hs, hcl, e, eb]
noncomputable def FigsOk (cf : CF) : Prop := ∀ x : Str, x.length ≤ 1000 → (∀ c ∈ x.cps.toList, 48 ≤ c ∧ c ≤ 57) → cf "are_figures" [.d (.str x)] = .ok (.d (.bool true)) [none]
theorem strOk_lt {x : Str} (h : ∀ c ∈ x.cps.toList, c ≤ 127) : PyData.strOk x = true := by
 unfold PyData.strOk
 rw [Array.all_eq_true]
 intro i hi
 have := h x.cps[i] (by simp)
 simp only [decide_eq_true_eq]; omega
theorem is_plain_ok (cf : CF) (hf : FigsOk cf) {i : Int} (h : Nb i) : runI 1 [false] [] p_is_plain cf [.d (.str (tS i))] = .ok (.d (.bool true)) [none] := by
 obtain ⟨h1, h2⟩ := tS_small h
 have hg := tS_fig h
 have e := hf (tS i) (by omega) hg
 have hz : (tS i).length ≤ 1000000 := by omega
 have hl : lay 20 (.str (tS i)) = true := strOk_lt fun c hc => by have := (hg c hc).2; omega
 obtain ⟨c, r, hc⟩ : ∃ c r, (tS i).cps.toList = c :: r := by
  cases q : (tS i).cps.toList with
  | nil =>
   have hl : (tS i).cps.toList.length = (tS i).length := Array.length_toList
   rw [q] at hl
   have : (0 : Nat) = (tS i).length := hl
   omega
  | cons a r => exact ⟨a, r, rfl⟩
 have hc48 := hg c (by rw [hc]; simp)
 have hat : atI (tS i).cps.toList 0 = some c := by rw [hc]; exact atI_nat (j := 0) rfl
 have hlc : lay 20 (.str (ch c)) = true := strOk_lt fun d hd => by
  have : d = c := by simpa using hd
  omega
 have hl0 : lay 20 (.str (Str.ofString "0")) = true := lay_of "0" 20
 have hi1 : (1 : Int) ≤ ((tS i).length : Int) := by omega
 have hi2 : ((tS i).length : Int) ≤ 6 := by omega
 by_cases h0 : c = 48
 ·subst h0
  have hi0 : i = 0 := tS_zero h (by rw [hc]; rfl)
  subst hi0
  have q1 : PyData.eqv (.str (ch 48)) (.str (Str.ofString "0")) = true := by decide +kernel
  have q2 : PyData.eqv (.str (tS 0)) (.str (Str.ofString "0")) = true := by decide +kernel
  generalize tS 0 = TX at *
  simp! [p_is_plain, gSlen, fSix, hz, h1, h2, hi1, hi2, hat, hl, hlc, hl0, q1, q2]
 ·have q1 : PyData.eqv (.str (ch c)) (.str (Str.ofString "0")) = false := by
   show decide (ch c = Str.ofString "0") = false
   rw [decide_eq_false_iff_not]
   intro z
   have z' := congrArg (fun s : Str => s.cps.toList) z
   have : (Str.ofString "0").cps.toList = [48] := by decide +kernel
   rw [this] at z'
   exact h0 (by simpa using z')
  generalize tS i = TX at *
  simp! [p_is_plain, gSlen, fSix, hz, h1, h2, hi1, hi2, hat, hl, hlc, hl0, q1, e]
noncomputable def IsPlainOk (cf : CF) : Prop := ∀ i, Nb i → cf "is_plain" [.d (.str (tS i))] = .ok (.d (.bool true)) [none]
theorem plain_number_ok (cf : CF) (hp : IsPlainOk cf) {i : Int} (h : Nb i) : runI 1 [false] [] p_plain_number cf [.d (.str (tS i))] = .ok (.d (.int i)) [none] := by
 have e := hp i h
 have hz : (tS i).length ≤ 640 := by have := (tS_small h).2; omega
 have hi := tS_int h
 generalize tS i = TX at *
 simp! [p_plain_number, gSint, e, hz, hi, view_d0]
noncomputable def PlainNumOk (cf : CF) : Prop := ∀ i, Nb i → cf "plain_number" [.d (.str (tS i))] = .ok (.d (.int i)) [none]
theorem plain_shades_ok (cf : CF) (hf : FigsOk cf) {sh : List Int} (hl : sh.length ≤ 12) (h : ∀ x ∈ sh, 0 ≤ x ∧ x ≤ 9) : runI 1 [false] [] p_plain_shades cf [.d (.str (shS sh))] = .ok (.d (intsD sh)) [none] := by
 have lm : lay 20 (.str (Str.ofString "-")) = true := lay_of "-" 20
 by_cases hne : sh = []
 ·subst hne
  have q1 : PyData.eqv (.str (shS [])) (.str (Str.ofString "-")) = true := by decide +kernel
  have ls : lay 20 (.str (shS [])) = true := by decide +kernel
  unfold p_plain_shades
  generalize shS [] = TX at *
  generalize p_plain_shades_1 = B at *
  simp! [q1, ls, lm, intsD]
 ·obtain ⟨cs, e, hcl, hcs, hm⟩ := shS_cs h hne
  have hfig : ∀ c ∈ (shS sh).cps.toList, 48 ≤ c ∧ c ≤ 57 := by rw [e]; simpa using hcs
  have hlen : (shS sh).length = sh.length := by rw [e, ← hcl]; simp [Str.length]
  have ef := hf (shS sh) (by omega) hfig
  have ls : lay 20 (.str (shS sh)) = true := strOk_lt fun c hc => by have := (hfig c hc).2; omega
  have ha := ascii_of (x := shS sh) fun c hc => by have := (hfig c hc).2; omega
  have hpos : 1 ≤ sh.length := by cases sh with
   | nil => exact absurd rfl hne
   | cons _ _ => simp
  have q1 : PyData.eqv (.str (shS sh)) (.str (Str.ofString "-")) = false := by
   show decide (shS sh = Str.ofString "-") = false
   rw [decide_eq_false_iff_not]
   intro z
   have z' : (45 : Nat) ∈ (shS sh).cps.toList := by
    rw [z]
    have : (Str.ofString "-").cps.toList = [45] := by decide +kernel
    rw [this]; simp
   have := (hfig 45 z').1
   omega
  have hs : signsOf (shS sh) = sh.map fun i => PyData.str (tS i) := by
   unfold signsOf
   rw [e]
   have : (cs.map fun c => PyData.str (ch c)) = (cs.map fun c => ch c).map .str := by rw [List.map_map]; rfl
   show (cs.toArray.toList.map fun c => PyData.str (ch c)) = _
   rw [show cs.toArray.toList = cs from rfl, this, hm, List.map_map]; rfl
  have ec := comp_pure (k := 1) (t := .nm 0 1) (cond := fYes) (elt := (p_plain_shades_1.ev cf).1) (ds := sh.map fun i => PyData.str (tS i)) (Γ := [some (.d (.str (shS sh)))]) (fun _ => true) (fun x => match gSint x with | some y => y | none => .none) (by
   intro y hy
   obtain ⟨i, hi, rfl⟩ := List.mem_map.mp hy
   have hb : Nb i := ⟨(h i hi).1, by have := (h i hi).2; omega⟩
   have hz : (tS i).length ≤ 640 := by have := (tS_small hb).2; omega
   have hg : gSint (.str (tS i)) = some (.int i) := by simp only [gSint, hz, if_true, tS_int hb]; rfl
   refine ⟨[some (.d (.str (shS sh))), some (.d (.str (tS i)))], _, rfl, rfl, rfl, fun _ => ⟨.dat (.int i), [some (.d (.str (shS sh))), some (.d (.str (tS i)))], ?_, by simp only [hg]; rfl, rfl⟩⟩
   unfold p_plain_shades_1
   generalize tS i = TX at *
   generalize shS sh = SX at *
   simp! [hg])
  rw [filter_tt, List.map_map] at ec
  have em : (sh.map ((fun x => match gSint x with | some y => y | none => PyData.none) ∘ fun i => PyData.str (tS i))) = sh.map .int := by
   apply List.map_congr_left
   intro i hi
   have hb : Nb i := ⟨(h i hi).1, by have := (h i hi).2; omega⟩
   have hz : (tS i).length ≤ 640 := by have := (tS_small hb).2; omega
   have hg : gSint (.str (tS i)) = some (.int i) := by simp only [gSint, hz, if_true, tS_int hb]; rfl
   simp only [Function.comp, hg]
  rw [em] at ec
  have hz1 : (shS sh).length ≤ 1000000 := by omega
  have hi1 : (1 : Int) ≤ ((shS sh).length : Int) := by omega
  have hi2 : ((shS sh).length : Int) ≤ 12 := by omega
  have hz3 : (sh.map fun i => PyData.str (tS i)).length ≤ 1000000 := by simp; omega
  have hz2 : (sh.map PyData.int).length ≤ 1000000 := by simp; omega
  have hsq : ∀ Γ, seqF Γ (.dat (.list (sh.map PyData.int))) = some (sh.map .int) := fun _ => rfl
  unfold p_plain_shades intsD
  generalize p_plain_shades_1 = B at *
  generalize (sh.map fun i => PyData.str (tS i)) = CC at *
  generalize sh.map PyData.int = NN at *
  generalize shS sh = TX at *
  simp! [q1, ls, lm, gSlen, fChars, ha, hs, hz1, hi1, hi2, hz2, hz3, hsq, ef, ec, view_d0]
noncomputable def PlainShOk (cf : CF) : Prop := ∀ sh : List Int, sh.length ≤ 12 → (∀ x ∈ sh, 0 ≤ x ∧ x ≤ 9) → cf "plain_shades" [.d (.str (shS sh))] = .ok (.d (intsD sh)) [none]
end Wx
set_option maxHeartbeats 4000000
namespace Wx
open PySem L2 L3
theorem comp_map {α : Type} {k : Nat} {t : IT} {elt : EM FV} (g f : α → PyData) {xs : List α} {Γ : Gv}
  (hs : ∀ a ∈ xs, ∃ Γ2 u Γ4, tgF t (g a) (Γ ++ List.replicate k none) = some Γ2 ∧ elt Γ2 = .ok (u, Γ4) ∧ derS Γ4 u = some (f a) ∧ Γ4.take Γ.length = Γ) :
  loopC k t fYes elt (xs.map g) [] Γ = .ok (xs.map f, Γ) := by
 obtain ⟨ys, Γ', e, hy, rfl⟩ := comp_inv (k := k) (t := t) (cond := fYes) (elt := elt) (fun pre ys Γ' => ys = (xs.take pre.length).map f ∧ Γ' = Γ) (ds := xs.map g) (Γ := Γ) ⟨rfl, rfl⟩ (by
  rintro pre d post e ys Γ' ⟨rfl, rfl⟩
  have hlen : pre.length < xs.length := by
   have := congrArg List.length e
   simp at this; omega
  have hd : d = g xs[pre.length] := by
   have h1 : (xs.map g)[pre.length]? = some d := by rw [e]; simp
   rw [List.getElem?_map, List.getElem?_eq_getElem hlen] at h1
   exact (Option.some.inj h1).symm
  obtain ⟨Γ2, u, Γ4, e1, e2, e3, e4⟩ := hs xs[pre.length] (List.getElem_mem hlen)
  rw [← hd] at e1
  refine ⟨Γ2, true, Γ2, e1, rfl, fun _ => ⟨u, Γ4, f xs[pre.length], e2, e3, ?_, e4⟩, fun z => nomatch z⟩
  rw [List.length_append, List.length_singleton, List.take_add_one, List.map_append, List.getElem?_eq_getElem hlen]
  rfl)
 rw [e]
 rw [hy]
 simp
section
variable (cf : CF)
theorem a0 {x : PyData} {r : List PyData} : atI (x :: r) 0 = some x := atI_nat (j := 0) rfl
theorem a1 {x y : PyData} {r : List PyData} : atI (x :: y :: r) 1 = some y := atI_nat (j := 1) rfl
theorem a2 {x y z : PyData} {r : List PyData} : atI (x :: y :: z :: r) 2 = some z := atI_nat (j := 2) rfl
end
end Wx
set_option maxHeartbeats 4000000
namespace Wx
open PySem L2 L3
theorem lf_len : (Str.ofString "\n").length = 1 := by decide
end Wx
namespace Wx
open PySem L2 L3
noncomputable def p_chart_1 : IE := (.call (.call "cell_shown" 1 (.cons (.var 0 3) .nil)))
noncomputable def p_chart_2 : IE := (.sadd (.var 0 3) (.cstr "\n"))
noncomputable def p_chart : IB := (.cons (.asg 2 2 (.dat (.new (.cat (.new (.lst (.cons (.fstr (.con "bolt " (.val (.var 1 1) (.con " " (.val (.len (.var 0 0)) .nil))))) .nil))) (.new (.comp 3 1 [] ["cell"] (.nm 0 3) (.list (.var 0 0)) .yes p_chart_1)))))) (.cons (.ret (.dat (.join "" (.new (.comp 3 1 [] ["row"] (.nm 0 3) (.list (.var 2 2)) .yes p_chart_2))))) .nil))
noncomputable def p_read_chart_1 : IE := (.call (.call "read_cell" 2 (.cons (.var 0 5) (.cons (.var 1 3) .nil))))
noncomputable def p_read_chart : IB := (.cons (.ite (.not (.ends (.var 0 0) (.cstr "\n"))) (.cons (.raise "NoChart") .nil) .nil) (.cons (.star 1 1 2 2 (.new (.split (.cutS (.var 0 0) .non (.one (.neg (.cint 1)))) (.cstr "\n")))) (.cons (.asgT (.tp (.cons (.nm 3 3) (.cons (.nm 4 4) .nil))) (.call (.call "read_head" 1 (.cons (.var 1 1) .nil)))) (.cons (.ite (.cmp .NotEq (.len (.var 2 2)) (.var 4 4)) (.cons (.raise "NoChart") .nil) .nil) (.cons (.ret (.pair (.var 3 3) (.own (.comp 5 1 [3] ["row", "pots"] (.nm 0 5) (.list (.var 2 2)) .yes p_read_chart_1)))) .nil)))))
noncomputable def p_cell_shown : IB := (.cons (.asgT (.tp (.cons (.nm 1 1) (.cons (.nm 2 2) (.cons (.nm 3 3) .nil)))) (.var 0 0)) (.cons (.ret (.dat (.join " " (.new (.lst (.cons (.call (.call "shades_shown" 1 (.cons (.var 1 1) .nil))) (.cons (.ite (.var 2 2) (.gstr "WAX" "*") (.gstr "NO_WAX" ".")) (.cons (.call (.call "shades_shown" 1 (.cons (.var 3 3) .nil))) .nil)))))))) .nil))
noncomputable def p_read_head : IB := (.cons (.asg 1 1 (.dat (.new (.split (.var 0 0) (.cstr " "))))) (.cons (.ite (.or (.cmp .NotEq (.len (.var 1 1)) (.cint 3)) (.cmp .NotEq (.ix (.var 1 1) (.cint 0)) (.cstr "bolt"))) (.cons (.raise "NoChart") .nil) .nil) (.cons (.ret (.dat (.tup (.cons (.call (.call "read_bounded" 2 (.cons (.ix (.var 1 1) (.cint 1)) (.cons (.gint "MOST_POTS" (12)) .nil)))) (.cons (.call (.call "read_bounded" 2 (.cons (.ix (.var 1 1) (.cint 2)) (.cons (.gint "MOST_ROWS" (999)) .nil)))) .nil))))) .nil)))
noncomputable def p_read_bounded : IB := (.cons (.asg 2 2 (.dat (.call (.call "plain_number" 1 (.cons (.var 0 0) .nil))))) (.cons (.ite (.or (.cmp .Is (.var 2 2) .cnone) (.cmp .Gt (.var 2 2) (.var 1 1))) (.cons (.raise "NoChart") .nil) .nil) (.cons (.ret (.dat (.var 2 2))) .nil)))
noncomputable def p_read_cell : IB := (.cons (.asg 2 2 (.dat (.new (.split (.var 0 0) (.cstr " "))))) (.cons (.ite (.or (.cmp .NotEq (.len (.var 2 2)) (.cint 3)) (.cmp .NotIn (.ix (.var 2 2) (.cint 1)) (.tup (.cons (.gstr "WAX" "*") (.cons (.gstr "NO_WAX" ".") .nil))))) (.cons (.raise "NoChart") .nil) .nil) (.cons (.ret (.dat (.tup (.cons (.call (.call "read_picture" 2 (.cons (.ix (.var 2 2) (.cint 0)) (.cons (.var 1 1) .nil)))) (.cons (.cmp .Eq (.ix (.var 2 2) (.cint 1)) (.gstr "WAX" "*")) (.cons (.call (.call "read_picture" 2 (.cons (.ix (.var 2 2) (.cint 2)) (.cons (.var 1 1) .nil)))) .nil)))))) .nil)))
noncomputable def p_read_picture : IB := (.cons (.asg 2 2 (.dat (.call (.call "plain_shades" 1 (.cons (.var 0 0) .nil))))) (.cons (.ite (.or (.cmp .Is (.var 2 2) .cnone) (.cmp .NotEq (.len (.var 2 2)) (.var 1 1))) (.cons (.raise "NoChart") .nil) .nil) (.cons (.ret (.dat (.var 2 2))) .nil)))
noncomputable def b_law_sheet_1 : IB := (.cons (.asg 2 2 (.dat (.sadd (.sadd (.sadd (.sadd (.var 2 2) (.call (.call "_law_figures" 1 (.cons (.var 3 3) .nil)))) (.ix (.new (.lst (.cons (.cstr " . ") (.cons (.cstr " * ") .nil)))) (.int (.var 4 4)))) (.call (.call "_law_figures" 1 (.cons (.var 5 5) .nil)))) (.cstr "\n")))) .nil)
noncomputable def b_law_sheet : IB := (.cons (.asg 2 2 (.dat (.fstr (.con "bolt " (.val (.var 1 1) (.con " " (.val (.len (.var 0 0)) (.con "\n" .nil)))))))) (.cons (.loop (.tp (.cons (.nm 3 3) (.cons (.nm 4 4) (.cons (.nm 5 5) .nil)))) (.list (.var 0 0)) b_law_sheet_1) (.cons (.ret (.dat (.var 2 2))) .nil)))
noncomputable def b_law_same_sheet : IB := (.cons (.ite (.or (.not (.isi "tuple" (.var 0 0))) (.or (.cmp .NotEq (.len (.var 0 0)) (.cint 2)) (.or (.not (.call (.call "_law_whole" 1 (.cons (.ix (.var 0 0) (.cint 0)) .nil)))) (.cmp .NotEq (.ix (.var 0 0) (.cint 0)) (.ix (.var 1 1) (.cint 0)))))) (.cons (.ret (.dat (.cbool false))) .nil) .nil) (.cons (.ret (.call "_law_alike" 3 (.cons (.ix (.var 0 0) (.cint 1)) (.cons (.ix (.var 1 1) (.cint 1)) (.cons (.ix (.var 1 1) (.cint 0)) .nil))))) .nil))
end Wx
set_option maxHeartbeats 4000000
namespace Wx
open PySem L2 L3
theorem all_tt {ds : List PyData} : Option.map (fun bs => PyData.bool (bs.all id)) (boolsOf (ds.map fun _ => PyData.bool true)) = some (.bool true) := by
 have : (ds.map fun _ => PyData.bool true) = (ds.map fun _ => true).map .bool := by rw [List.map_map]; rfl
 rw [this, boolsOf_map]
 simp
theorem viewd (x : PyData) : (OV.d x).view = x := rfl
theorem shades_ok (cf : CF) (hw : WholeOk cf) {xs : List Int} {pots : Nat} (h : xs.length = pots) (hl : pots ≤ 1000) : runI 2 [false, false] [] b_law_shades cf [.d (intsD xs), .d (.int pots)] = .ok (.d (.bool true)) [none, none] := by
 have e := comp_pure (k := 1) (t := .nm 0 2) (cond := fYes) (elt := (b_law_shades_1.ev cf).1) (ds := xs.map .int) (Γ := [some (.d (intsD xs)), some (.d (.int pots))]) (fun _ => true) (fun _ => .bool true) (by
  intro x hx
  obtain ⟨i, _, rfl⟩ := List.mem_map.mp hx
  refine ⟨[some (.d (intsD xs)), some (.d (.int pots)), some (.d (.int i))], _, rfl, rfl, by simp, fun _ => ⟨.dat (.bool true), [some (.d (intsD xs)), some (.d (.int pots)), some (.d (.int i))], ?_, rfl, by simp⟩⟩
  simp! [b_law_shades_1, hw i, viewd])
 rw [filter_tt] at e
 have a1 := all_tt (ds := xs.map .int)
 have hml : (xs.map PyData.int).length = pots := by simpa using h
 unfold intsD at e ⊢
 generalize xs.map PyData.int = X at *
 have hz : X.length ≤ 1000000 := by omega
 have hq : ((pots : Int) == (pots : Int)) = true := by simp
 have hz2 : pots ≤ 1000000 := by omega
 simp! [b_law_shades, hml, lay_int, eqv_int, hq, hz, hz2, e, a1]
noncomputable def ShadesOk (cf : CF) : Prop := ∀ (xs : List Int) (pots : Nat), xs.length = pots → pots ≤ 1000 → cf "_law_shades" [.d (intsD xs), .d (.int pots)] = .ok (.d (.bool true)) [none, none]
noncomputable def Kind (pots : Nat) (cs : List Cl) : Prop := ∀ c ∈ cs, c.st.length = pots ∧ c.wi.length = pots
theorem Bolt.kind {pots : Nat} {cs : List Cl} (h : Bolt pots cs) : Kind pots cs := fun c hc => ⟨(h.2 c hc).sl, (h.2 c hc).wl⟩
theorem kind_ok (cf : CF) (hs : ShadesOk cf) {pots : Nat} (hp : pots ≤ 1000) {cs : List Cl} (hk : Kind pots cs) : runI 3 [false, false] [] b_law_cells_kind cf [.d (boltD cs), .d (.int pots)] = .ok (.d (.bool true)) [none, none] := by
 obtain ⟨Γ', e, ⟨o2, rfl⟩⟩ := loop_inv (t := .nm 2 2) (body := b_law_cells_kind_1.ex cf []) (ds := cs.map Cl.D) (Γ := [some (.d (boltD cs)), some (.d (.int pots)), none])
  (fun pre Γ => ∃ o2 : Option OV, Γ = [some (.d (boltD cs)), some (.d (.int pots)), o2]) ⟨_, rfl⟩ (by
   rintro pre x post e Γ ⟨o2, rfl⟩
   have hx : x ∈ cs.map Cl.D := by rw [e]; simp
   obtain ⟨c, hc, rfl⟩ := List.mem_map.mp hx
   obtain ⟨h1, h2⟩ := hk c hc
   have e1 := hs c.st pots h1 hp
   have e2 := hs c.wi pots h2 hp
   refine ⟨[some (.d (boltD cs)), some (.d (.int pots)), some (.d c.D)], [some (.d (boltD cs)), some (.d (.int pots)), some (.d c.D)], rfl, ?_, _, rfl⟩
   unfold Cl.D cellD
   generalize intsD c.st = A at *
   generalize intsD c.wi = B at *
   have a0 : atI [A, PyData.bool c.w, B] 0 = some A := rfl
   have a1 : atI [A, PyData.bool c.w, B] 1 = some (.bool c.w) := rfl
   have a2 : atI [A, PyData.bool c.w, B] 2 = some B := rfl
   generalize c.w = cw at *
   simp! [b_law_cells_kind_1, e1, e2, a0, a1, a2, lay_int, eqv_int, viewd])
 unfold boltD at *
 generalize cs.map Cl.D = X at *
 simp! [b_law_cells_kind, e]
noncomputable def KindOk (cf : CF) : Prop := ∀ (pots : Nat) (cs : List Cl), pots ≤ 1000 → Kind pots cs → cf "_law_cells_kind" [.d (boltD cs), .d (.int pots)] = .ok (.d (.bool true)) [none, none]
theorem alike_ok (cf : CF) (hk : KindOk cf) {pots : Nat} (hp : pots ≤ 1000) {cs : List Cl} (h : Kind pots cs) : runI 3 [false, false, false] [] b_law_alike cf [.d (boltD cs), .d (boltD cs), .d (.int pots)] = .ok (.d (.bool true)) [none, none, none] := by
 have e := hk pots cs hp h
 have hy : lay 20 (boltD cs) = true := lay_bolt 17 _
 have hq := eqv_lay hy
 generalize boltD cs = X at *
 simp! [b_law_alike, e, hy, hq, viewd]
noncomputable def AlikeOk (cf : CF) : Prop := ∀ (pots : Nat) (cs : List Cl), pots ≤ 1000 → Kind pots cs → cf "_law_alike" [.d (boltD cs), .d (boltD cs), .d (.int pots)] = .ok (.d (.bool true)) [none, none, none]
end Wx
set_option maxHeartbeats 4000000
namespace Wx
open PySem L2 L3
noncomputable def wS (w : Bool) : Str := if w then Str.ofString "*" else Str.ofString "."
noncomputable def cellS (c : Cl) : Str := Str.join " " [shS c.st, wS c.w, shS c.wi]
noncomputable def headS (pots n : Nat) : Str := Str.join " " ["bolt", tS pots, tS n]
noncomputable def chartS (pots : Nat) (cs : List Cl) : Str := Str.join "" ((headS pots cs.length :: cs.map cellS).map fun r => r ++ Str.ofString "\n")
structure Sh (pots : Nat) (cs : List Cl) : Prop where
 hp : pots ≤ 12
 hl : cs.length ≤ 999
 ok : ∀ c ∈ cs, CellOk pots c.st c.wi
theorem shS_len2 {sh : List Int} (hl : sh.length ≤ 12) (h : ∀ x ∈ sh, 0 ≤ x ∧ x ≤ 9) : (shS sh).length ≤ 12 := by
 by_cases hne : sh = []
 ·subst hne; decide +kernel
 ·obtain ⟨cs, e, hcl, _, _⟩ := shS_cs h hne
  rw [e]
  show cs.toArray.size ≤ 12
  simp; omega
theorem wS_len (w : Bool) : (wS w).length = 1 := by cases w <;> decide
theorem sp_len : (Str.ofString " ").length = 1 := by decide
theorem cellS_eq (c : Cl) : cellS c = shS c.st ++ Str.ofString " " ++ (wS c.w ++ Str.ofString " " ++ shS c.wi) := rfl
theorem headS_eq (pots n : Nat) : headS pots n = Str.ofString "bolt" ++ Str.ofString " " ++ (tS pots ++ Str.ofString " " ++ tS n) := rfl
theorem nb_of {n : Nat} (h : n < 1000000) : Nb (n : Int) := ⟨by omega, by omega⟩
section
variable {pots : Nat} {cs : List Cl}
theorem cellS_len {c : Cl} (hp : pots ≤ 12) (h : CellOk pots c.st c.wi) : (cellS c).length ≤ 27 := by
 have h1 := shS_len2 (sh := c.st) (by rw [h.sl]; exact hp) h.sn
 have h2 := shS_len2 (sh := c.wi) (by rw [h.wl]; exact hp) h.wn
 rw [cellS_eq]
 simp only [slen_app, wS_len, sp_len]
 omega
theorem headS_len {n : Nat} (hp : pots ≤ 12) (hn : n ≤ 999) : (headS pots n).length ≤ 27 := by
 have h1 := (tS_small (nb_of (n := pots) (by omega))).2
 have h2 := (tS_small (nb_of (n := n) (by omega))).2
 have h3 : (Str.ofString "bolt").length = 4 := by decide
 rw [headS_eq]
 simp only [slen_app, sp_len, h3]
 omega
theorem join_ok3 {sep : Str} {ys : List Str} (hs : sep.length ≤ 16) (h : ∀ y ∈ ys, y.length ≤ 100) (hl : ys.length ≤ 5000) : gJoin sep (.list (ys.map .str)) = some (.str (Str.join sep ys)) := by
 have h1 := strsOf_map ys
 have h2 := sum_le h
 have h3 : 100 * ys.length ≤ 100 * 5000 := Nat.mul_le_mul_left _ hl
 unfold gJoin
 simp only [h1]
 rw [if_pos ⟨by omega, hs⟩, join_eq]
theorem rows_lf (H : Sh pots cs) : ∀ y ∈ (headS pots cs.length :: cs.map cellS).map (fun r => r ++ Str.ofString "\n"), y.length ≤ 28 := fun y hy => by
 obtain ⟨r, hr, rfl⟩ := List.mem_map.mp hy
 rw [slen_app, lf_len]
 rcases List.mem_cons.mp hr with rfl | hr
 ·have := headS_len (pots := pots) (n := cs.length) H.hp H.hl; omega
 ·obtain ⟨c, hc, rfl⟩ := List.mem_map.mp hr
  have := cellS_len H.hp (H.ok c hc); omega
theorem chartS_len (H : Sh pots cs) : (chartS pots cs).length ≤ 28000 := by
 have h1 := slen_join "" ((headS pots cs.length :: cs.map cellS).map fun r => r ++ Str.ofString "\n")
 have h2 := sum_le (rows_lf H)
 have h3 : ("" : Str).length = 0 := by decide
 rw [h3, Nat.zero_mul] at h1
 simp only [List.length_map, List.length_cons] at h2
 have := H.hl
 unfold chartS
 omega
theorem cell_shown_ok (cf : CF) (hs : SShownOk cf) {c : Cl} (hp : pots ≤ 12) (h : CellOk pots c.st c.wi) : runI 4 [false] [] p_cell_shown cf [.d c.D] = .ok (.d (.str (cellS c))) [none] := by
 have e1 := hs c.st (by rw [h.sl]; exact hp) h.sn
 have e2 := hs c.wi (by rw [h.wl]; exact hp) h.wn
 have l1 := shS_len2 (sh := c.st) (by rw [h.sl]; exact hp) h.sn
 have l2 := shS_len2 (sh := c.wi) (by rw [h.wl]; exact hp) h.wn
 have hj := join_ok3 (sep := Str.ofString " ") (ys := [shS c.st, wS c.w, shS c.wi]) (by decide) (by simp only [List.forall_mem_cons]; exact ⟨by omega, by rw [wS_len]; omega, by omega, by simp⟩) (by simp)
 unfold p_cell_shown
 simp only [Cl.D, cellD, List.map_cons, List.map_nil] at *
 show _ = RF.ok (OV.d (PyData.str (Str.join " " [shS c.st, wS c.w, shS c.wi]))) [none]
 generalize Str.join (Str.ofString " ") [shS c.st, wS c.w, shS c.wi] = JS at *
 generalize Str.ofString " " = SP at *
 generalize shS c.st = S1 at *
 generalize shS c.wi = S2 at *
 generalize intsD c.st = D1 at *
 generalize intsD c.wi = D2 at *
 generalize c.w = cw at *
 cases cw with
 | true =>
  have hw : wS true = Str.ofString "*" := rfl
  rw [hw] at hj
  simp! [e1, e2, hj, view_d0]
 | false =>
  have hw : wS false = Str.ofString "." := rfl
  rw [hw] at hj
  simp! [e1, e2, hj, view_d0]
end
noncomputable def CellShownOk (cf : CF) : Prop := ∀ (pots : Nat) (c : Cl), pots ≤ 12 → CellOk pots c.st c.wi → cf "cell_shown" [.d c.D] = .ok (.d (.str (cellS c))) [none]
theorem chart_ok (cf : CF) (hc : CellShownOk cf) {pots : Nat} {cs : List Cl} (H : Sh pots cs) : runI 3 [false, false] [] p_chart cf [.d (boltD cs), .d (.int pots)] = .ok (.d (.str (chartS pots cs))) [none, none] := by
 have c1 := comp_map (k := 1) (t := .nm 0 3) (elt := (p_chart_1.ev cf).1) Cl.D (fun c => PyData.str (cellS c)) (xs := cs) (Γ := [some (.d (boltD cs)), some (.d (.int pots)), none]) fun c hm => by
  have e := hc pots c H.hp (H.ok c hm)
  refine ⟨[some (.d (boltD cs)), some (.d (.int pots)), none, some (.d c.D)], .dat (.str (cellS c)), [some (.d (boltD cs)), some (.d (.int pots)), none, some (.d c.D)], rfl, ?_, rfl, rfl⟩
  unfold p_chart_1
  generalize boltD cs = BD at *
  generalize cellS c = CS at *
  generalize c.D = DD at *
  simp! [e, view_d0]
 have c2 := comp_map (k := 1) (t := .nm 0 3) (elt := (p_chart_2.ev cf).1) PyData.str (fun r => PyData.str (r ++ Str.ofString "\n")) (xs := headS pots cs.length :: cs.map cellS) (Γ := [some (.d (boltD cs)), some (.d (.int pots)), some (.d (.list ((headS pots cs.length :: cs.map cellS).map .str)))]) fun r hr => by
  have hl : r.length ≤ 27 := by
   rcases List.mem_cons.mp hr with rfl | hr
   ·exact headS_len H.hp H.hl
   ·obtain ⟨c, hc, rfl⟩ := List.mem_map.mp hr
    exact cellS_len H.hp (H.ok c hc)
  have hz : gSadd (.str r) (.str (Str.ofString "\n")) = some (.str (r ++ Str.ofString "\n")) := gSadd_ok (by rw [lf_len]; omega)
  generalize (headS pots cs.length :: cs.map cellS).map PyData.str = LL at *
  refine ⟨[some (.d (boltD cs)), some (.d (.int pots)), some (.d (.list LL)), some (.d (.str r))], .dat (.str (r ++ Str.ofString "\n")), [some (.d (boltD cs)), some (.d (.int pots)), some (.d (.list LL)), some (.d (.str r))], rfl, ?_, rfl, rfl⟩
  unfold p_chart_2
  generalize boltD cs = BD at *
  generalize r ++ Str.ofString "\n" = R2 at *
  generalize Str.ofString "\n" = LF at *
  simp! [hz, view_d0]
 have hj : gJoin "" (.list ((headS pots cs.length :: cs.map cellS).map fun r => PyData.str (r ++ Str.ofString "\n"))) = some (.str (chartS pots cs)) := by
  have := join_ok3 (sep := "") (ys := (headS pots cs.length :: cs.map cellS).map fun r => r ++ Str.ofString "\n") (by decide) (fun y hy => by have := rows_lf H y hy; omega) (by simp; have := H.hl; omega)
  rw [List.map_map] at this
  exact this
 have g1 := gFmt_int (i := (pots : Int)) (by have := H.hp; omega)
 have g2 := gFmt_int (i := (cs.length : Int)) (by have := H.hl; omega)
 have p1 : gFmt (.str (Str.ofString "bolt ")) = some (Str.ofString "bolt ") := gFmt_str (by decide)
 have p5 : gFmt (.str (Str.ofString " ")) = some (Str.ofString " ") := gFmt_str (by decide)
 have hh : headS pots cs.length = Str.ofString "bolt " ++ (tS pots ++ (Str.ofString " " ++ (tS cs.length ++ Str.empty))) := by
  have l : Str.ofString "bolt " = Str.ofString "bolt" ++ Str.ofString " " := by decide +kernel
  rw [sapp_empty, headS_eq, l]
  simp only [sapp_assoc]
 have hz : (cs.map Cl.D).length ≤ 1000000 := by simp; have := H.hl; omega
 have hz2 : 1 + (cs.map cellS).length ≤ 1000000 := by simp; have := H.hl; omega
 have hz3 : ((headS pots cs.length :: cs.map cellS).map PyData.str).length ≤ 1000000 := by simp; have := H.hl; omega
 have hL : (headS pots cs.length :: cs.map cellS).map PyData.str = PyData.str (headS pots cs.length) :: (cs.map fun c => PyData.str (cellS c)) := by rw [List.map_cons, List.map_map]; rfl
 have hz4 : 1 + (cs.map fun c => PyData.str (cellS c)).length ≤ 1000000 := by simp; have := H.hl; omega
 have hz5 : (cs.map fun c => PyData.str (cellS c)).length ≤ 1000000 := by omega
 rw [hL] at c2 hz3
 have hz6 : (cs.map fun c => PyData.str (cellS c)).length + 1 ≤ 1000000 := by omega
 have hn : (cs.map Cl.D).length = cs.length := by simp
 unfold p_chart
 simp only [boltD] at *
 generalize p_chart_1 = B1 at *
 generalize p_chart_2 = B2 at *
 generalize chartS pots cs = CH at *
 generalize ((headS pots cs.length :: cs.map cellS).map fun r => PyData.str (r ++ Str.ofString "\n")) = LF at *
 generalize (cs.map fun c => PyData.str (cellS c)) = CC at *
 rw [hh] at c2
 clear hh hL
 have hcl : cs.length ≤ 1000000 := by have := H.hl; omega
 simp! [hcl, hn, g1, g2, p1, p5, fFstr, IJ.ev, fPart, fPart0, catS, fCat, c1, c2, hj, hz, hz4, hz5, hz6, view_d0]
noncomputable def ChartOk (cf : CF) : Prop := ∀ (pots : Nat) (cs : List Cl), Sh pots cs → cf "chart" [.d (boltD cs), .d (.int pots)] = .ok (.d (.str (chartS pots cs))) [none, none]
end Wx
set_option maxHeartbeats 4000000
namespace Wx
open PySem L2 L3
noncomputable def accS (pots n : Nat) (cs : List Cl) : Str := Str.join "" ((headS pots n :: cs.map cellS).map fun r => r ++ Str.ofString "\n")
theorem accS_snoc (pots n : Nat) (cs : List Cl) (c : Cl) : accS pots n (cs ++ [c]) = accS pots n cs ++ (cellS c ++ Str.ofString "\n") := by
 unfold accS
 have e : (headS pots n :: (cs ++ [c]).map cellS).map (fun r => r ++ Str.ofString "\n") = ((headS pots n :: cs.map cellS).map fun r => r ++ Str.ofString "\n") ++ [cellS c ++ Str.ofString "\n"] := by simp
 have e3 : (Str.ofString "" : Str) = Str.empty := by decide +kernel
 rw [e, join_snoc "" _ (by simp), e3, sapp_empty]
theorem accS_len {pots n : Nat} {cs : List Cl} (hp : pots ≤ 12) (hn : n ≤ 999) (hl : cs.length ≤ 999) (h : ∀ c ∈ cs, CellOk pots c.st c.wi) : (accS pots n cs).length ≤ 28000 := by
 have h1 := slen_join "" ((headS pots n :: cs.map cellS).map fun r => r ++ Str.ofString "\n")
 have h2 := sum_le (m := 28) (ys := (headS pots n :: cs.map cellS).map fun r => r ++ Str.ofString "\n") (fun y hy => by
  obtain ⟨r, hr, rfl⟩ := List.mem_map.mp hy
  rw [slen_app, lf_len]
  rcases List.mem_cons.mp hr with rfl | hr
  ·have := headS_len (pots := pots) (n := n) hp hn; omega
  ·obtain ⟨c, hc, rfl⟩ := List.mem_map.mp hr
   have := cellS_len hp (h c hc); omega)
 have h3 : ("" : Str).length = 0 := by decide
 rw [h3, Nat.zero_mul] at h1
 simp only [List.length_map, List.length_cons] at h2
 unfold accS
 omega
noncomputable def sepS (w : Bool) : Str := if w then Str.ofString " * " else Str.ofString " . "
theorem sep_eq (w : Bool) : sepS w = Str.ofString " " ++ wS w ++ Str.ofString " " := by cases w <;> decide +kernel
theorem sep_len (w : Bool) : (sepS w).length = 3 := by cases w <;> decide
theorem sheet_ok (cf : CF) (hf : FiguresOk cf) {pots : Nat} {cs : List Cl} (H : Sh pots cs) : runI 6 [false, false] [] b_law_sheet cf [.d (boltD cs), .d (.int pots)] = .ok (.d (.str (chartS pots cs))) [none, none] := by
 obtain ⟨Γ', e, ⟨o3, o4, o5, rfl⟩⟩ := loop_inv (t := .tp (.cons (.nm 3 3) (.cons (.nm 4 4) (.cons (.nm 5 5) .nil)))) (body := b_law_sheet_1.ex cf []) (ds := cs.map Cl.D) (Γ := [some (.d (boltD cs)), some (.d (.int pots)), some (.d (.str (accS pots cs.length []))), none, none, none])
  (fun pre Γ => ∃ o3 o4 o5, Γ = [some (.d (boltD cs)), some (.d (.int pots)), some (.d (.str (accS pots cs.length (cs.take pre.length)))), o3, o4, o5]) ⟨none, none, none, rfl⟩ (by
   rintro pre d post ed Γ ⟨o3, o4, o5, rfl⟩
   have hlen : pre.length < cs.length := by
    have := congrArg List.length ed
    simp at this; omega
   have hd : d = (cs[pre.length]).D := by
    have h1 : (cs.map Cl.D)[pre.length]? = some d := by rw [ed]; simp
    rw [List.getElem?_map, List.getElem?_eq_getElem hlen] at h1
    exact (Option.some.inj h1).symm
   have hc := H.ok _ (List.getElem_mem hlen)
   have htk : cs.take (pre ++ [d]).length = cs.take pre.length ++ [cs[pre.length]] := by
    rw [List.length_append, List.length_singleton, List.take_add_one, List.getElem?_eq_getElem hlen]; rfl
   rw [htk, accS_snoc]
   generalize cs[pre.length] = c at *
   subst hd
   have la := accS_len (pots := pots) (n := cs.length) (cs := cs.take pre.length) H.hp H.hl (by rw [List.length_take]; have := H.hl; omega) (fun x hx => H.ok x (List.mem_of_mem_take hx))
   have e1 := hf c.st (by rw [hc.sl]; exact H.hp) hc.sn
   have e2 := hf c.wi (by rw [hc.wl]; exact H.hp) hc.wn
   have l1 := shS_len2 (sh := c.st) (by rw [hc.sl]; exact H.hp) hc.sn
   have l2 := shS_len2 (sh := c.wi) (by rw [hc.wl]; exact H.hp) hc.wn
   have hcs : cellS c ++ Str.ofString "\n" = shS c.st ++ (sepS c.w ++ (shS c.wi ++ Str.ofString "\n")) := by
    rw [cellS_eq, sep_eq]; simp only [sapp_assoc]
   rw [hcs]
   have ls := sep_len c.w
   generalize accS pots cs.length (cs.take pre.length) = AC at *
   have g1 : gSadd (.str AC) (.str (shS c.st)) = some (.str (AC ++ shS c.st)) := gSadd_ok (by omega)
   have g2 : gSadd (.str (AC ++ shS c.st)) (.str (sepS c.w)) = some (.str (AC ++ shS c.st ++ sepS c.w)) := gSadd_ok (by simp only [slen_app]; omega)
   have g3 : gSadd (.str (AC ++ shS c.st ++ sepS c.w)) (.str (shS c.wi)) = some (.str (AC ++ shS c.st ++ sepS c.w ++ shS c.wi)) := gSadd_ok (by simp only [slen_app]; omega)
   have g4 : gSadd (.str (AC ++ shS c.st ++ sepS c.w ++ shS c.wi)) (.str (Str.ofString "\n")) = some (.str (AC ++ (shS c.st ++ (sepS c.w ++ (shS c.wi ++ Str.ofString "\n"))))) := by
    rw [gSadd_ok (by simp only [slen_app, lf_len]; omega)]; simp only [sapp_assoc]
   have hat : atI [PyData.str (Str.ofString " . "), .str (Str.ofString " * ")] (if c.w then 1 else 0) = some (.str (sepS c.w)) := by cases c.w <;> rfl
   refine ⟨[some (.d (boltD cs)), some (.d (.int pots)), some (.d (.str AC)), some (.d (intsD c.st)), some (.d (.bool c.w)), some (.d (intsD c.wi))], [some (.d (boltD cs)), some (.d (.int pots)), some (.d (.str (AC ++ (shS c.st ++ (sepS c.w ++ (shS c.wi ++ Str.ofString "\n")))))), some (.d (intsD c.st)), some (.d (.bool c.w)), some (.d (intsD c.wi))], rfl, ?_, _, _, _, rfl⟩
   unfold b_law_sheet_1
   generalize boltD cs = BD at *
   generalize AC ++ (shS c.st ++ (sepS c.w ++ (shS c.wi ++ Str.ofString "\n"))) = FIN at *
   generalize AC ++ shS c.st ++ sepS c.w ++ shS c.wi = A3 at *
   generalize AC ++ shS c.st ++ sepS c.w = A2 at *
   generalize AC ++ shS c.st = A1 at *
   generalize Str.ofString "\n" = LF at *
   generalize shS c.st = S1 at *
   generalize shS c.wi = S2 at *
   generalize intsD c.st = D1 at *
   generalize intsD c.wi = D2 at *
   generalize sepS c.w = SE at *
   generalize c.w = cw at *
   cases cw with
   | true =>
    simp only [if_true] at hat
    simp! [e1, e2, g1, g2, g3, g4, hat, view_d0]
   | false =>
    simp only [Bool.false_eq_true, if_false] at hat
    simp! [e1, e2, g1, g2, g3, g4, hat, view_d0])
 rw [List.length_map, List.take_length] at e
 have g1 := gFmt_int (i := (pots : Int)) (by have := H.hp; omega)
 have g2 := gFmt_int (i := (cs.length : Int)) (by have := H.hl; omega)
 have p1 : gFmt (.str (Str.ofString "bolt ")) = some (Str.ofString "bolt ") := gFmt_str (by decide)
 have p5 : gFmt (.str (Str.ofString " ")) = some (Str.ofString " ") := gFmt_str (by decide)
 have p6 : gFmt (.str (Str.ofString "\n")) = some (Str.ofString "\n") := gFmt_str (by decide)
 have hh : accS pots cs.length [] = Str.ofString "bolt " ++ (tS pots ++ (Str.ofString " " ++ (tS cs.length ++ (Str.ofString "\n" ++ Str.empty)))) := by
  have l : Str.ofString "bolt " = Str.ofString "bolt" ++ Str.ofString " " := by decide +kernel
  show headS pots cs.length ++ Str.ofString "\n" = _
  rw [sapp_empty, headS_eq, l]
  simp only [sapp_assoc]
 have hch : chartS pots cs = accS pots cs.length cs := rfl
 rw [hch]
 rw [hh] at e
 have hn : (cs.map Cl.D).length = cs.length := by simp
 unfold b_law_sheet
 simp only [boltD] at *
 generalize b_law_sheet_1 = B1 at *
 generalize accS pots cs.length cs = CH at *
 clear hh hch
 simp! [hn, g1, g2, p1, p5, p6, fFstr, IJ.ev, fPart, fPart0, catS, e, view_d0]
noncomputable def SheetOk (cf : CF) : Prop := ∀ (pots : Nat) (cs : List Cl), Sh pots cs → cf "_law_sheet" [.d (boltD cs), .d (.int pots)] = .ok (.d (.str (chartS pots cs))) [none, none]
theorem bounded_ok (cf : CF) (hn : PlainNumOk cf) {i most : Int} (h : Nb i) (hm : i ≤ most) : runI 3 [false, false] [] p_read_bounded cf [.d (.str (tS i)), .d (.int most)] = .ok (.d (.int i)) [none, none] := by
 have e := hn i h
 have h2 : ¬ most < i := by omega
 generalize tS i = TX at *
 simp! [p_read_bounded, e, isN, h2, view_d0]
noncomputable def BoundedOk (cf : CF) : Prop := ∀ i most : Int, Nb i → i ≤ most → cf "read_bounded" [.d (.str (tS i)), .d (.int most)] = .ok (.d (.int i)) [none, none]
theorem head_split {pots n : Nat} (hp : pots ≤ 12) (hn : n ≤ 999) : Txt.split (headS pots n) (Str.ofString " ") = ([Str.ofString "bolt", tS pots, tS n] : List Str) := by
 unfold headS
 rw [sp_eq]
 refine split_of (by simp) ?_
 simp only [List.forall_mem_cons]
 exact ⟨by decide +kernel, tS_nosp (nb_of (by omega)), tS_nosp (nb_of (by omega)), by simp⟩
theorem cell_split {pots : Nat} {c : Cl} (h : CellOk pots c.st c.wi) : Txt.split (cellS c) (Str.ofString " ") = [shS c.st, wS c.w, shS c.wi] := by
 unfold cellS
 rw [sp_eq]
 refine split_of (by simp) ?_
 simp only [List.forall_mem_cons]
 exact ⟨shS_no h.sn (by decide), by cases c.w <;> decide +kernel, shS_no h.wn (by decide), by simp⟩
theorem read_head_ok (cf : CF) (hb : BoundedOk cf) {pots n : Nat} (hp : pots ≤ 12) (hn : n ≤ 999) : runI 2 [false] [] p_read_head cf [.d (.str (headS pots n))] = .ok (.d (.tuple [.int pots, .int n])) [none] := by
 have e1 := head_split hp hn
 have e2 := hb pots 12 (nb_of (by omega)) (by omega)
 have e3 := hb n 999 (nb_of (by omega)) (by omega)
 have hz : (headS pots n).length ≤ 900000 := by have := headS_len (pots := pots) hp hn; omega
 have hl : ((Str.ofString " ").length == 0) = false := by decide
 unfold p_read_head
 generalize headS pots n = HS at *
 generalize tS (pots : Int) = T1 at *
 generalize tS (n : Int) = T2 at *
 generalize Str.ofString " " = SP at *
 simp! [fSplit, e1, e2, e3, hz, hl, a0, a1, a2, wq, lay_of, lay_int, eqv_int, view_d0]
noncomputable def ReadHeadOk (cf : CF) : Prop := ∀ pots n : Nat, pots ≤ 12 → n ≤ 999 → cf "read_head" [.d (.str (headS pots n))] = .ok (.d (.tuple [.int pots, .int n])) [none]
theorem picture_ok (cf : CF) (hs : PlainShOk cf) {pots : Nat} {sh : List Int} (hl : sh.length = pots) (hp : pots ≤ 12) (h : ∀ x ∈ sh, 0 ≤ x ∧ x ≤ 9) : runI 3 [false, false] [] p_read_picture cf [.d (.str (shS sh)), .d (.int pots)] = .ok (.d (intsD sh)) [none, none] := by
 have e := hs sh (by omega) h
 have hln : (sh.map PyData.int).length = pots := by simp [hl]
 unfold intsD at *
 generalize shS sh = TX at *
 generalize sh.map PyData.int = NN at *
 simp! [p_read_picture, e, isN, hln, lay_int, eqv_int, view_d0]
noncomputable def PictureOk (cf : CF) : Prop := ∀ (pots : Nat) (sh : List Int), sh.length = pots → pots ≤ 12 → (∀ x ∈ sh, 0 ≤ x ∧ x ≤ 9) → cf "read_picture" [.d (.str (shS sh)), .d (.int pots)] = .ok (.d (intsD sh)) [none, none]
theorem read_cell_ok (cf : CF) (hs : PictureOk cf) {pots : Nat} {c : Cl} (hp : pots ≤ 12) (h : CellOk pots c.st c.wi) : runI 3 [false, false] [] p_read_cell cf [.d (.str (cellS c)), .d (.int pots)] = .ok (.d c.D) [none, none] := by
 have e1 := cell_split h
 have e2 := hs pots c.st h.sl hp h.sn
 have e3 := hs pots c.wi h.wl hp h.wn
 have hz : (cellS c).length ≤ 900000 := by have := cellS_len hp h; omega
 have hl : ((Str.ofString " ").length == 0) = false := by decide
 unfold p_read_cell
 simp only [Cl.D, cellD]
 generalize cellS c = CS at *
 generalize shS c.st = S1 at *
 generalize shS c.wi = S2 at *
 generalize intsD c.st = D1 at *
 generalize intsD c.wi = D2 at *
 generalize Str.ofString " " = SP at *
 generalize c.w = cw at *
 cases cw with
 | true =>
  have hw : wS true = Str.ofString "*" := rfl
  rw [hw] at e1
  simp! [fSplit, e1, e2, e3, hz, hl, a0, a1, a2, inD, wq, lay_of, lay_int, eqv_int, view_d0]
 | false =>
  have hw : wS false = Str.ofString "." := rfl
  rw [hw] at e1
  simp! [fSplit, e1, e2, e3, hz, hl, a0, a1, a2, inD, wq, lay_of, lay_int, eqv_int, view_d0]
noncomputable def ReadCellOk (cf : CF) : Prop := ∀ (pots : Nat) (c : Cl), pots ≤ 12 → CellOk pots c.st c.wi → cf "read_cell" [.d (.str (cellS c)), .d (.int pots)] = .ok (.d c.D) [none, none]
end Wx
namespace Ku
noncomputable abbrev FL := List (Option Nat)
noncomputable def fat (F : FL) (p : Nat) : Option Nat := (F[p]?).getD none
theorem fat_lt {F : FL} {p s : Nat} (h : fat F p = some s) : p < F.length := by
 by_cases hp : p < F.length
 ·exact hp
 ·unfold fat at h; rw [List.getElem?_eq_none (by omega)] at h; cases h
theorem nodup_len : ∀ {l T : List Nat}, l.Nodup → (∀ x ∈ l, x ∈ T) → l.length ≤ T.length
 | [], T, _, _ => Nat.zero_le _
 | a :: l, T, h, hs => by
  have ha : a ∈ T := hs a (by simp)
  have hn := List.nodup_cons.mp h
  have := nodup_len (l := l) (T := T.erase a) hn.2 (fun x hx => by
   have hxa : x ≠ a := fun e => hn.1 (e ▸ hx)
   exact (List.mem_erase_of_ne hxa).mpr (hs x (List.mem_cons_of_mem _ hx)))
  rw [List.length_erase_of_mem ha] at this
  have hp := List.length_pos_of_mem ha
  simp only [List.length_cons]
  omega
theorem lt_len {T : List Nat} {N : Nat} (h : T.Nodup) (hl : ∀ p ∈ T, p < N) : T.length ≤ N := by
 have := nodup_len (T := List.range N) h fun x hx => List.mem_range.mpr (hl x hx)
 rwa [List.length_range] at this
noncomputable abbrev RT := Bool × FL × List Nat
noncomputable def walkF (rec : Nat → FL → List Nat → RT) (a : Nat) : List Nat → FL → List Nat → RT
 | [], F, T => (false, F, T)
 | p :: ps, F, T => if T.contains p then walkF rec a ps F T else
  match fat F p with
  | none => (true, F.set p (some a), T ++ [p])
  | some s => match rec s F (T ++ [p]) with
   | (true, F', T') => (true, F'.set p (some a), T')
   | (false, F', T') => walkF rec a ps F' T'
noncomputable def up (ab : List (List Nat)) (a : Nat) : List Nat := (ab[a]?).getD []
noncomputable def settleF (ab : List (List Nat)) : Nat → Nat → FL → List Nat → RT
 | 0, _, F, T => (false, F, T)
 | n + 1, a, F, T => walkF (settleF ab n) a (up ab a) F T
structure Val (ab : List (List Nat)) (N : Nat) (F : FL) (T : List Nat) : Prop where
 len : F.length = N
 edge : ∀ p s, fat F p = some s → s < N ∧ p ∈ up ab s
 inj : ∀ p q s, p ∉ T → q ∉ T → fat F p = some s → fat F q = some s → p = q
structure TOk (N : Nat) (T : List Nat) : Prop where
 nd : T.Nodup
 lt : ∀ p ∈ T, p < N
theorem TOk.snoc {N : Nat} {T : List Nat} {p : Nat} (h : TOk N T) (hp : p ∉ T) (hl : p < N) : TOk N (T ++ [p]) := by
 refine ⟨?_, fun q hq => ?_⟩
 ·rw [List.nodup_append]
  refine ⟨h.nd, by simp, fun a ha b hb => ?_⟩
  have : b = p := by simpa using hb
  subst this
  exact fun e => hp (e ▸ ha)
 ·rcases List.mem_append.mp hq with hq | hq
  ·exact h.lt q hq
  ·have : q = p := by simpa using hq
   omega
structure Succ (ab : List (List Nat)) (N : Nat) (F : FL) (T : List Nat) (a : Nat) (F' : FL) : Prop where
 val : Val ab N F' T
 keep : ∀ p ∈ T, fat F' p = fat F p
 vals : ∀ p s, p ∉ T → fat F' p = some s → s = a ∨ ∃ q, q ∉ T ∧ fat F q = some s
 has : ∃ p, p ∉ T ∧ fat F' p = some a
 old : ∀ q s, q ∉ T → fat F q = some s → ∃ p, p ∉ T ∧ fat F' p = some s
structure Spec (ab : List (List Nat)) (N : Nat) (F : FL) (T : List Nat) (a : Nat) (ps : List Nat) (r : RT) : Prop where
 tok : TOk N r.2.2
 sub : ∀ p ∈ T, p ∈ r.2.2
 same : r.1 = false → r.2.1 = F
 all : r.1 = false → ∀ p ∈ ps, p ∈ r.2.2
 dead : r.1 = false → ∀ p ∈ r.2.2, p ∉ T → ∃ s, fat F p = some s ∧ ∀ q ∈ up ab s, q ∈ r.2.2
 succ : r.1 = true → Succ ab N F T a r.2.1
section
variable {ab : List (List Nat)} {N : Nat} (hab : ∀ a p, p ∈ up ab a → p < N)
include hab
end
noncomputable def Dead (ab : List (List Nat)) (F : FL) (Z : Nat → Prop) : Prop := ∀ p, Z p → ∃ s, fat F p = some s ∧ ∀ q ∈ up ab s, Z q
section
variable {ab : List (List Nat)}
end
structure Inv (ab : List (List Nat)) (N k : Nat) (F : FL) : Prop where
 val : Val ab N F []
 lt : ∀ p s, fat F p = some s → s < k
 dead : ∃ Z, Dead ab F Z ∧ ∀ a, a < k → (∀ p, fat F p ≠ some a) → ∀ q ∈ up ab a, Z q
noncomputable def follF (ab : List (List Nat)) (m : Nat) : Nat → FL → FL
 | 0, F => F
 | k + 1, F => (settleF ab m k (follF ab m k F) []).2.1
end Ku
set_option maxHeartbeats 4000000
namespace Wx
open PySem L2 L3
theorem view_d (x : PyData) : (OV.d x).view = x := rfl
noncomputable def lcks (c : Cl) (d : Nat) : Bool := decide (c.st.getD d 0 < c.wi.getD d 0)
end Wx
set_option maxHeartbeats 4000000
namespace Wx
open PySem L2 L3 Ku
end Wx
namespace Ku
noncomputable def rowF (F : FL) : Nat → Nat → List Nat
 | 0, _ => []
 | n + 1, p => match fat F p with
  | none => []
  | some s => s :: rowF F n s
noncomputable def ends (F : FL) : Nat → Nat → Prop
 | 0, p => fat F p = none
 | n + 1, p => match fat F p with
  | none => True
  | some s => ends F n s
theorem contains_iff (F : FL) (a : Nat) : F.contains (some a) = true ↔ ∃ p, fat F p = some a := by
 rw [List.contains_iff_mem]
 constructor
 ·intro h
  obtain ⟨p, hp⟩ := List.getElem?_of_mem h
  exact ⟨p, by unfold fat; rw [hp]; rfl⟩
 ·rintro ⟨p, h⟩
  have hl := fat_lt h
  unfold fat at h
  rw [List.getElem?_eq_getElem hl] at h
  have e : F[p] = some a := h
  rw [← e]; exact List.getElem_mem hl
noncomputable def firsts (N : Nat) (F : FL) : List Nat := (List.range N).filter fun a => !F.contains (some a)
theorem mem_firsts (N : Nat) (F : FL) (a : Nat) : a ∈ firsts N F ↔ a < N ∧ ∀ p, fat F p ≠ some a := by
 unfold firsts
 rw [List.mem_filter, List.mem_range]
 refine and_congr_right fun _ => ?_
 have := contains_iff F a
 constructor
 ·intro h p e
  rw [this.mpr ⟨p, e⟩] at h; cases h
 ·intro h
  cases e : F.contains (some a) with
  | false => rfl
  | true =>
   obtain ⟨p, e⟩ := this.mp e
   exact absurd e (h p)
theorem nodup_range (N : Nat) : (List.range N).Nodup := List.pairwise_lt_range.imp fun h => Nat.ne_of_lt h
section
variable {ab : List (List Nat)} {N : Nat} {F : FL}
variable (hab : ∀ a p, p ∈ up ab a → p < N) (irr : ∀ a, a ∉ up ab a) (tr : ∀ a b c, b ∈ up ab a → c ∈ up ab b → c ∈ up ab a)
noncomputable def hgt (ab : List (List Nat)) (N x : Nat) : Nat := ((List.range N).filter fun y => (up ab x).contains y).length
theorem hgt_le (x : Nat) : hgt ab N x ≤ N := by
 have := List.length_filter_le (fun y => (up ab x).contains y) (List.range N)
 rwa [List.length_range] at this
include hab irr tr in
theorem hgt_lt {s p : Nat} (h : p ∈ up ab s) : hgt ab N p < hgt ab N s := by
 have hp : p ∉ (List.range N).filter fun y => (up ab p).contains y := fun z => irr p (by simpa using (List.mem_filter.mp z).2)
 have hn : (p :: (List.range N).filter fun y => (up ab p).contains y).Nodup := List.nodup_cons.mpr ⟨hp, (nodup_range N).filter _⟩
 have := nodup_len (T := (List.range N).filter fun y => (up ab s).contains y) hn fun x hx => by
  rcases List.mem_cons.mp hx with rfl | hx
  ·exact List.mem_filter.mpr ⟨List.mem_range.mpr (hab s x h), by simpa using h⟩
  ·have hx' := List.mem_filter.mp hx
   exact List.mem_filter.mpr ⟨hx'.1, by have := tr s p x h (by simpa using hx'.2); simpa using this⟩
 show _ + 1 ≤ _
 simpa [hgt] using this
variable (v : Val ab N F [])
include hab irr tr v in
theorem ends_of : ∀ n p, N ≤ hgt ab N p + n → ends F n p
 | 0, p, h => by
  show fat F p = none
  cases e : fat F p with
  | none => rfl
  | some s =>
   have := hgt_lt hab irr tr (v.edge p s e).2
   have := hgt_le (ab := ab) (N := N) s
   omega
 | n + 1, p, h => by
  show (match fat F p with
   | none => True
   | some s => ends F n s)
  cases e : fat F p with
  | none => trivial
  | some s =>
   have := hgt_lt hab irr tr (v.edge p s e).2
   exact ends_of n s (by omega)
theorem row_src : ∀ n p x, x ∈ rowF F n p → ∃ q, fat F q = some x ∧ (q = p ∨ q ∈ rowF F n p)
 | 0, p, x, h => by cases h
 | n + 1, p, x, h => by
  rw [rowF] at h ⊢
  cases e1 : fat F p with
  | none => rw [e1] at h; cases h
  | some s =>
   rw [e1] at h
   rcases List.mem_cons.mp h with rfl | h
   ·exact ⟨p, e1, .inl rfl⟩
   ·obtain ⟨q, e, hq⟩ := row_src n s x h
    refine ⟨q, e, .inr ?_⟩
    show q ∈ s :: rowF F n s
    rcases hq with rfl | hq
    ·exact List.mem_cons_self
    ·exact List.mem_cons_of_mem _ hq
noncomputable def rowL (N : Nat) (F : FL) (f : Nat) : List Nat := f :: rowF F N f
include hab irr tr v in
theorem apart : ∀ (k x f g : Nat), hgt ab N x ≤ k → f ∈ firsts N F → g ∈ firsts N F → x ∈ rowL N F f → x ∈ rowL N F g → f = g := by
 have val : ∀ {f x : Nat}, x ∈ rowF F N f → ∃ q, fat F q = some x ∧ q ∈ rowL N F f := fun {f x} h => by
  obtain ⟨q, e, hq⟩ := row_src N f x h
  refine ⟨q, e, ?_⟩
  rcases hq with rfl | hq
  ·exact List.mem_cons_self
  ·exact List.mem_cons_of_mem _ hq
 intro k
 induction k with
 | zero =>
  intro x f g hk hf hg h1 h2
  have no : ∀ {f : Nat}, f ∈ firsts N F → x ∈ rowL N F f → x = f := fun {f} hf h => by
   rcases List.mem_cons.mp h with e | h
   ·exact e
   ·obtain ⟨q, e, _⟩ := val h
    have := hgt_lt hab irr tr (v.edge q x e).2
    omega
  rw [← no hf h1, ← no hg h2]
 | succ k ih =>
  intro x f g hk hf hg h1 h2
  rcases List.mem_cons.mp h1 with e1 | h1
  ·rcases List.mem_cons.mp h2 with e2 | h2
   ·rw [← e1, ← e2]
   ·obtain ⟨q, e, _⟩ := val h2
    rw [e1] at e
    exact absurd e (((mem_firsts N F f).mp hf).2 q)
  ·rcases List.mem_cons.mp h2 with e2 | h2
   ·obtain ⟨q, e, _⟩ := val h1
    rw [e2] at e
    exact absurd e (((mem_firsts N F g).mp hg).2 q)
   ·obtain ⟨q, e, hq⟩ := val h1
    obtain ⟨q', e', hq'⟩ := val h2
    have : q = q' := v.inj q q' x (fun h => nomatch h) (fun h => nomatch h) e e'
    subst this
    have := hgt_lt hab irr tr (v.edge q x e).2
    exact ih q f g (by omega) hf hg hq hq'
noncomputable def heldT (ab : List (List Nat)) (m : Nat) (F : FL) : List Nat → List Nat → List Nat
 | [], T => T
 | a :: as, T => heldT ab m F as (settleF ab m a F T).2.2
structure HT (ab : List (List Nat)) (N : Nat) (F : FL) (T : List Nat) : Prop where
 tk : TOk N T
 cl : ∀ p ∈ T, ∃ s, fat F p = some s ∧ ∀ q ∈ up ab s, q ∈ T
end
end Ku
set_option maxHeartbeats 4000000
namespace Wx
open PySem L2 L3 Ku
end Wx
set_option maxHeartbeats 4000000
namespace Wx
open PySem L2 L3 Ku
structure Dys (pots : Nat) (D : List Nat) : Prop where
 inc : D.Pairwise (· < ·)
 lt : ∀ d ∈ D, d < pots
theorem Dys.nodup {pots : Nat} {D : List Nat} (h : Dys pots D) : D.Nodup := h.inc.imp fun h => Nat.ne_of_lt h
theorem Dys.len {pots : Nat} {D : List Nat} (h : Dys pots D) : D.length ≤ pots := lt_len h.nodup h.lt
theorem Dys.filter {pots : Nat} {D : List Nat} (h : Dys pots D) (q : Nat → Bool) : Dys pots (D.filter q) := ⟨h.inc.filter _, fun d hd => h.lt d (List.mem_filter.mp hd).1⟩
noncomputable def rowAb (cs : List Cl) (D : List Nat) (d : Nat) : List Nat := ((List.range D.length).filter fun j => lowB d (D.getD j 0) (lackL cs d) (lackL cs (D.getD j 0))) ++ (if (lackL cs d).any (wetB cs) then [] else [D.length])
noncomputable def abv (cs : List Cl) (D : List Nat) : List (List Nat) := D.map (rowAb cs D) ++ [[]]
end Wx
set_option maxHeartbeats 4000000
namespace Wx
open PySem L2 L3 Ku
theorem Dys.getD {pots : Nat} {D : List Nat} (h : Dys pots D) {i : Nat} (hi : i < D.length) : D.getD i 0 < pots := by
 refine h.lt _ ?_
 rw [List.getD_eq_getElem?_getD, List.getElem?_eq_getElem hi]
 exact List.getElem_mem hi
section
variable {pots : Nat} (hp : pots ≤ 12) {D : List Nat} (hD : Dys pots D) (cs : List Cl)
noncomputable def FF (cs : List Cl) (D : List Nat) : Ku.FL := follF (abv cs D) 14 (D.length + 1) (List.replicate (D.length + 1) none)
noncomputable def TT (cs : List Cl) (D : List Nat) : List Nat := heldT (abv cs D) 14 (FF cs D) (firsts (D.length + 1) (FF cs D)) []
end
end Wx
set_option maxHeartbeats 4000000
namespace Wx
open PySem L2 L3 Ku
noncomputable def SameC (cs cs' : List Cl) : Prop := ∀ c, (∃ d, lcks c d = true) → (c ∈ cs ↔ c ∈ cs')
theorem SameC.symm {cs cs' : List Cl} (h : SameC cs cs') : SameC cs' cs := fun c hc => (h c hc).symm
end Wx
set_option maxHeartbeats 4000000
namespace Wx
open PySem L2 L3 Ku
end Wx
set_option maxHeartbeats 4000000
namespace Wx
open PySem L2 L3 Ku
noncomputable def DrawOk (cf : CF) : Prop := ∀ b, IsBox b → ∀ loose : Int, 0 ≤ loose → loose ≤ 1000 → ∃ (pots : Nat) (cs : List Cl) (b' : OV), pots ≤ 12 ∧ cs.length ≤ 40 ∧ Bolt pots cs ∧ IsBox b' ∧ cf "_law_draw" [b, .d (.int loose)] = .ok (.d (.tuple [.int pots, boltD cs])) [some b', none]
theorem draw_ok (cf : CF) (hs : SizesOk cf) (hbo : BoltOkF cf) {b : OV} (hb : IsBox b) {loose : Int} (h0 : 0 ≤ loose) (h1 : loose ≤ 1000) :
  ∃ (pots : Nat) (cs : List Cl) (b' : OV), pots ≤ 12 ∧ cs.length ≤ 40 ∧ Bolt pots cs ∧ IsBox b' ∧ runI 4 [true, false] [0] b_law_draw cf [b, .d (.int loose)] = .ok (.d (.tuple [.int pots, boltD cs])) [some b', none] := by
 obtain ⟨p, n, b1, hp0, hp1, hn0, hn1, hb1, e1⟩ := hs b hb
 obtain ⟨pots, rfl⟩ : ∃ k : Nat, p = k := ⟨p.toNat, by omega⟩
 obtain ⟨size, rfl⟩ : ∃ k : Nat, n = k := ⟨n.toNat, by omega⟩
 obtain ⟨cs, b2, hcl, hck, hb2, e2⟩ := hbo b1 hb1 pots size loose (by omega) (by omega) h0 h1
 refine ⟨pots, cs, b2, by omega, by omega, ⟨by omega, hck⟩, hb2, ?_⟩
 have hvc := views_cells cs
 simp! [b_law_draw, e1, e2, hvc, view_d]
end Wx
set_option maxHeartbeats 4000000
namespace Wx
open PySem L2 L3
theorem headS_nolf {pots n : Nat} (hp : pots ≤ 12) (hn : n ≤ 999) : 10 ∉ (headS pots n).cps.toList := by
 unfold headS
 rw [sp_eq]
 refine join_no (by decide) ?_
 simp only [List.forall_mem_cons]
 exact ⟨by decide +kernel, tS_nolf (nb_of (by omega)), tS_nolf (nb_of (by omega)), by simp⟩
theorem cellS_nolf {pots : Nat} {c : Cl} (h : CellOk pots c.st c.wi) : 10 ∉ (cellS c).cps.toList := by
 unfold cellS
 rw [sp_eq]
 refine join_no (by decide) ?_
 simp only [List.forall_mem_cons]
 exact ⟨shS_no h.sn (by decide), by cases c.w <;> decide +kernel, shS_no h.wn (by decide), by simp⟩
theorem read_chart_ok (cf : CF) (hh : ReadHeadOk cf) (hc : ReadCellOk cf) {pots : Nat} {cs : List Cl} (H : Sh pots cs) : runI 5 [false] [] p_read_chart cf [.d (.str (chartS pots cs))] = .ok (.t [.d (.int pots), .l (cs.map fun c => .d c.D)]) [none] := by
 have eb : chartS pots cs = Str.join (Str.ofString "\n") (headS pots cs.length :: cs.map cellS) ++ Str.ofString "\n" := rows_text (by simp)
 have e1 : Txt.endswith (chartS pots cs) (Str.ofString "\n") = true := by rw [eb, lf_eq]; exact ends_of _ _
 have e2 : Txt.slice (chartS pots cs) none (some (-1)) = Str.join (Str.ofString "\n") (headS pots cs.length :: cs.map cellS) := by rw [eb, lf_eq]; exact cut_of _ _
 have e3 : Txt.split (Str.join (Str.ofString "\n") (headS pots cs.length :: cs.map cellS)) (Str.ofString "\n") = headS pots cs.length :: cs.map cellS := by
  rw [lf_eq]
  refine split_of (by simp) fun p hp => ?_
  rcases List.mem_cons.mp hp with rfl | hp
  ·exact headS_nolf H.hp H.hl
  ·obtain ⟨c, hm, rfl⟩ := List.mem_map.mp hp
   exact cellS_nolf (H.ok c hm)
 have hz1 := chartS_len H
 have hz2 : (chartS pots cs).length ≤ 1000000 := by omega
 have hz3 : (Str.join (Str.ofString "\n") (headS pots cs.length :: cs.map cellS)).length ≤ 900000 := by
  have hl1 : (chartS pots cs).length = (Str.join (Str.ofString "\n") (headS pots cs.length :: cs.map cellS)).length + 1 := by rw [eb, slen_app, lf_len]
  omega
 have hlf : ((Str.ofString "\n").length == 0) = false := by decide
 have eh := hh pots cs.length H.hp H.hl
 have hM : (cs.map cellS).map PyData.str = cs.map fun c => PyData.str (cellS c) := by rw [List.map_map]; rfl
 have c1 := comp_map (k := 1) (t := .nm 0 5) (elt := (p_read_chart_1.ev cf).1) (fun c => PyData.str (cellS c)) Cl.D (xs := cs) (Γ := [some (.d (.str (chartS pots cs))), some (.d (.str (headS pots cs.length))), some (.d (.list ((cs.map cellS).map PyData.str))), some (.d (.int pots)), some (.d (.int cs.length))]) fun c hm => by
  have e := hc pots c H.hp (H.ok c hm)
  generalize (cs.map cellS).map PyData.str = LL
  refine ⟨[some (.d (.str (chartS pots cs))), some (.d (.str (headS pots cs.length))), some (.d (.list LL)), some (.d (.int pots)), some (.d (.int cs.length)), some (.d (.str (cellS c)))], .dat c.D, [some (.d (.str (chartS pots cs))), some (.d (.str (headS pots cs.length))), some (.d (.list LL)), some (.d (.int pots)), some (.d (.int cs.length)), some (.d (.str (cellS c)))], rfl, ?_, rfl, rfl⟩
  unfold p_read_chart_1
  generalize chartS pots cs = CH at *
  generalize headS pots cs.length = HD at *
  generalize cellS c = CS at *
  generalize c.D = DD at *
  simp! [e, view_d0]
 have hD : (cs.map fun c => OV.d c.D) = (cs.map Cl.D).map .d := by rw [List.map_map]; rfl
 rw [← hM] at c1
 have hn : ((cs.map cellS).map PyData.str).length = cs.length := by simp
 have hz4 : ((cs.map cellS).map PyData.str).length ≤ 1000000 := by rw [hn]; have := H.hl; omega
 rw [hD]
 have hS : (headS pots cs.length :: cs.map cellS).map PyData.str = PyData.str (headS pots cs.length) :: (cs.map cellS).map PyData.str := rfl
 clear hD eb hM
 unfold p_read_chart
 generalize p_read_chart_1 = B at *
 generalize Str.join (Str.ofString "\n") (headS pots cs.length :: cs.map cellS) = JS at *
 generalize Str.ofString "\n" = LF at *
 generalize (cs.map cellS).map PyData.str = RR at *
 generalize headS pots cs.length :: cs.map cellS = HR at *
 generalize headS pots cs.length = HD at *
 generalize cs.map Cl.D = DD at *
 generalize chartS pots cs = CH at *
 have hcl : cs.length ≤ 1000000 := by have := H.hl; omega
 simp! [fEnds, fCutS, fSplit, fEnd, fNoE, sStar, fPair, e1, e2, e3, hz2, hz3, hz4, hlf, eh, hS, hn, hcl, c1, lay_int, eqv_int, view_d0]
noncomputable def ReadChartOk (cf : CF) : Prop := ∀ (pots : Nat) (cs : List Cl), Sh pots cs → cf "read_chart" [.d (.str (chartS pots cs))] = .ok (.t [.d (.int pots), .l (cs.map fun c => .d c.D)]) [none]
theorem same_sheet_ok (cf : CF) (hw : WholeOk cf) (ha : AlikeOk cf) {pots : Nat} {cs : List Cl} (hp : pots ≤ 12) (hk : Kind pots cs) : runI 2 [false, false] [] b_law_same_sheet cf [.d (.tuple [.int pots, boltD cs]), .d (.tuple [.int pots, boltD cs])] = .ok (.d (.bool true)) [none, none] := by
 have e1 := hw pots
 have e2 := ha pots cs (by omega) hk
 generalize boltD cs = BD at *
 simp! [b_law_same_sheet, e1, e2, a0, a1, lay_int, eqv_int, view_d0]
noncomputable def SameSheetOk (cf : CF) : Prop := ∀ (pots : Nat) (cs : List Cl), pots ≤ 12 → Kind pots cs → cf "_law_same_sheet" [.d (.tuple [.int pots, boltD cs]), .d (.tuple [.int pots, boltD cs])] = .ok (.d (.bool true)) [none, none]
end Wx
set_option maxHeartbeats 4000000
namespace Wx
open PySem L2 L3
noncomputable def top (i : Nat) : Stmt := PySem.Challenge.pw_waxcloth_k33_whole_charts.main.body.getD i (.Pass ⟨0, 0, 0, 0⟩)
noncomputable def d_p_plain_number : DefI := ⟨"plain_number", top 8, ["text"], ["text"], [false], [], p_plain_number⟩
noncomputable def d_p_is_plain : DefI := ⟨"is_plain", top 9, ["text"], ["text"], [false], [], p_is_plain⟩
noncomputable def d_p_plain_shades : DefI := ⟨"plain_shades", top 10, ["text"], ["text"], [false], [], p_plain_shades⟩
noncomputable def d_p_shades_shown : DefI := ⟨"shades_shown", top 11, ["shades"], ["shades"], [false], [], p_shades_shown⟩
noncomputable def d_p_are_figures : DefI := ⟨"are_figures", top 12, ["text"], ["text"], [false], [], p_are_figures⟩
noncomputable def d_p_chart : DefI := ⟨"chart", top 17, ["bolt", "pots"], ["bolt", "pots", "rows"], [false, false], [], p_chart⟩
noncomputable def d_p_read_chart : DefI := ⟨"read_chart", top 18, ["text"], ["text", "head", "rows", "pots", "size"], [false], [], p_read_chart⟩
noncomputable def d_p_cell_shown : DefI := ⟨"cell_shown", top 19, ["cell"], ["cell", "stain", "waxed", "wish"], [false], [], p_cell_shown⟩
noncomputable def d_p_read_head : DefI := ⟨"read_head", top 20, ["row"], ["row", "words"], [false], [], p_read_head⟩
noncomputable def d_p_read_bounded : DefI := ⟨"read_bounded", top 21, ["text", "most"], ["text", "most", "number"], [false, false], [], p_read_bounded⟩
noncomputable def d_p_read_cell : DefI := ⟨"read_cell", top 22, ["row", "pots"], ["row", "pots", "words"], [false, false], [], p_read_cell⟩
noncomputable def d_p_read_picture : DefI := ⟨"read_picture", top 23, ["text", "pots"], ["text", "pots", "shades"], [false, false], [], p_read_picture⟩
noncomputable def d_law_whole : DefI := ⟨"_law_whole", top 25, ["_law_found"], ["_law_found"], [false], [], b_law_whole⟩
noncomputable def d_law_shades : DefI := ⟨"_law_shades", top 26, ["_law_found", "_law_pots"], ["_law_found", "_law_pots"], [false, false], [], b_law_shades⟩
noncomputable def d_law_cells_kind : DefI := ⟨"_law_cells_kind", top 27, ["_law_found", "_law_pots"], ["_law_found", "_law_pots", "_law_cell_here"], [false, false], [], b_law_cells_kind⟩
noncomputable def d_law_alike : DefI := ⟨"_law_alike", top 28, ["_law_found", "_law_due", "_law_pots"], ["_law_found", "_law_due", "_law_pots"], [false, false, false], [], b_law_alike⟩
noncomputable def d_law_mixed : DefI := ⟨"_law_mixed", top 30, ["_law_number", "_law_turn"], ["_law_number", "_law_turn", "_law_one", "_law_two"], [false, false], [], b_law_mixed⟩
noncomputable def d_law_take : DefI := ⟨"_law_take", top 31, ["_law_box_here", "_law_many"], ["_law_box_here", "_law_many", "_law_left", "_law_cell_here"], [true, false], [0], b_law_take⟩
noncomputable def d_law_lacks : DefI := ⟨"_law_lacks", top 32, ["_law_box_here", "_law_pots", "_law_size"], ["_law_box_here", "_law_pots", "_law_size", "_law_way", "_law_ends", "_law_rows", "_law_at", "_law_row", "_law_low", "_law_high"], [true, false, false], [0], b_law_lacks⟩
noncomputable def d_law_cell : DefI := ⟨"_law_cell", top 33, ["_law_box_here", "_law_row", "_law_loose", "_law_wet"], ["_law_box_here", "_law_row", "_law_loose", "_law_wet", "_law_stain", "_law_want", "_law_bit", "_law_shade"], [true, false, false, false], [0], b_law_cell⟩
noncomputable def d_law_bolt : DefI := ⟨"_law_bolt", top 34, ["_law_box_here", "_law_pots", "_law_size", "_law_loose"], ["_law_box_here", "_law_pots", "_law_size", "_law_loose", "_law_wet", "_law_rows"], [true, false, false, false], [0], b_law_bolt⟩
noncomputable def d_law_sizes : DefI := ⟨"_law_sizes", top 35, ["_law_box_here"], ["_law_box_here"], [true], [0], b_law_sizes⟩
noncomputable def d_law_draw : DefI := ⟨"_law_draw", top 36, ["_law_box_here", "_law_loose"], ["_law_box_here", "_law_loose", "_law_pots", "_law_size"], [true, false], [0], b_law_draw⟩
noncomputable def d_law_figures : DefI := ⟨"_law_figures", top 37, ["_law_picture"], ["_law_picture"], [false], [], b_law_figures⟩
noncomputable def d_law_sheet : DefI := ⟨"_law_sheet", top 38, ["_law_rows", "_law_pots"], ["_law_rows", "_law_pots", "_law_found", "_law_stain", "_law_waxed", "_law_want"], [false, false], [], b_law_sheet⟩
noncomputable def d_law_same_sheet : DefI := ⟨"_law_same_sheet", top 39, ["_law_found", "_law_due"], ["_law_found", "_law_due"], [false, false], [], b_law_same_sheet⟩
noncomputable def lawB_1 : IE := (.ix (.var 1 3) (.cint 0))
noncomputable def lawB_2 : IB := (.cons (.asg 4 4 (.dat (.new (.list (.var 3 3))))) (.cons (.asg 5 5 (.dat (.call (.call "chart" 2 (.cons (.var 3 3) (.cons (.var 2 2) .nil)))))) (.cons (.ite (.or (.not (.isi "str" (.var 5 5))) (.or (.cmp .NotEq (.var 5 5) (.call (.call "_law_sheet" 2 (.cons (.var 4 4) (.cons (.var 2 2) .nil))))) (.cmp .NotEq (.var 3 3) (.var 4 4)))) (.cons (.ret (.dat (.cbool false))) .nil) .nil) (.cons (.asg 6 6 (.call "read_chart" 1 (.cons (.var 5 5) .nil))) (.cons (.ite (.not (.callw "_law_same_sheet" 2 (.cons (.var 6 6) (.cons (.tup (.cons (.var 2 2) (.cons (.var 4 4) .nil))) .nil)))) (.cons (.ret (.dat (.cbool false))) .nil) .nil) (.cons (.appT 6 6 (.cint 1) (.v 2 2)) (.cons (.ret (.call "_law_same_sheet" 2 (.cons (.call (.call "read_chart" 1 (.cons (.var 5 5) .nil))) (.cons (.tup (.cons (.var 2 2) (.cons (.var 4 4) .nil))) .nil)))) .nil)))))))
noncomputable def defs : List DefI := [d_p_plain_number, d_p_is_plain, d_p_plain_shades, d_p_shades_shown, d_p_are_figures, d_p_chart, d_p_read_chart, d_p_cell_shown, d_p_read_head, d_p_read_bounded, d_p_read_cell, d_p_read_picture, d_law_whole, d_law_shades, d_law_cells_kind, d_law_alike, d_law_mixed, d_law_take, d_law_lacks, d_law_cell, d_law_bolt, d_law_sizes, d_law_draw, d_law_figures, d_law_sheet, d_law_same_sheet]
noncomputable def lawB : IB := (.cons (.asgT (.tp (.cons (.nm 2 2) (.cons (.nm 3 3) .nil))) (.call (.call "_law_draw" 2 (.io 1 1 (.cons (.cint 3) .nil))))) (.cons (.ite (.and (.cmp .Gt (.len (.var 3 3)) (.cint 0)) (.cmp .Eq (.call (.call "_law_take" 2 (.io 1 1 (.cons (.cint 12) .nil)))) (.cint 0))) (.cons (.asg 3 3 (.dat (.new (.comp 7 1 [3] ["_law_k", "_law_rows"] (.nm 0 7) (.range (.cint 999)) .yes lawB_1)))) .nil) .nil) lawB_2))
noncomputable def W : Wd := ⟨["all", "bool", "int", "isinstance", "len", "list", "max", "min", "range", "str", "tuple"], [("MOST_FIGURES", 6), ("MOST_POTS", 12), ("MOST_ROWS", 999)], [("FIGURES", "0123456789"), ("NO_SHADES", "-"), ("NO_WAX", "."), ("WAX", "*")], [("plain_number", 1), ("is_plain", 1), ("plain_shades", 1), ("shades_shown", 1), ("are_figures", 1), ("chart", 2), ("read_chart", 1), ("cell_shown", 1), ("read_head", 1), ("read_bounded", 2), ("read_cell", 2), ("read_picture", 2), ("_law_whole", 1), ("_law_shades", 2), ("_law_cells_kind", 2), ("_law_alike", 3), ("_law_mixed", 2), ("_law_take", 2), ("_law_lacks", 3), ("_law_cell", 4), ("_law_bolt", 4), ("_law_sizes", 1), ("_law_draw", 2), ("_law_figures", 1), ("_law_sheet", 2), ("_law_same_sheet", 2)], [], ["NoChart"], []⟩
theorem okd_p_plain_number : d_p_plain_number.ok W = true := by kernel_rfl
theorem okd_p_is_plain : d_p_is_plain.ok W = true := by kernel_rfl
theorem okd_p_plain_shades : d_p_plain_shades.ok W = true := by kernel_rfl
theorem okd_p_shades_shown : d_p_shades_shown.ok W = true := by kernel_rfl
theorem okd_p_are_figures : d_p_are_figures.ok W = true := by kernel_rfl
theorem okd_p_chart : d_p_chart.ok W = true := by kernel_rfl
theorem okd_p_read_chart : d_p_read_chart.ok W = true := by kernel_rfl
theorem okd_p_cell_shown : d_p_cell_shown.ok W = true := by kernel_rfl
theorem okd_p_read_head : d_p_read_head.ok W = true := by kernel_rfl
theorem okd_p_read_bounded : d_p_read_bounded.ok W = true := by kernel_rfl
theorem okd_p_read_cell : d_p_read_cell.ok W = true := by kernel_rfl
theorem okd_p_read_picture : d_p_read_picture.ok W = true := by kernel_rfl
theorem okd_law_whole : d_law_whole.ok W = true := by kernel_rfl
theorem okd_law_shades : d_law_shades.ok W = true := by kernel_rfl
theorem okd_law_cells_kind : d_law_cells_kind.ok W = true := by kernel_rfl
theorem okd_law_alike : d_law_alike.ok W = true := by kernel_rfl
theorem okd_law_mixed : d_law_mixed.ok W = true := by kernel_rfl
theorem okd_law_take : d_law_take.ok W = true := by kernel_rfl
theorem okd_law_lacks : d_law_lacks.ok W = true := by kernel_rfl
theorem okd_law_cell : d_law_cell.ok W = true := by kernel_rfl
theorem okd_law_bolt : d_law_bolt.ok W = true := by kernel_rfl
theorem okd_law_sizes : d_law_sizes.ok W = true := by kernel_rfl
theorem okd_law_draw : d_law_draw.ok W = true := by kernel_rfl
theorem okd_law_figures : d_law_figures.ok W = true := by kernel_rfl
theorem okd_law_sheet : d_law_sheet.ok W = true := by kernel_rfl
theorem okd_law_same_sheet : d_law_same_sheet.ok W = true := by kernel_rfl
noncomputable abbrev sBox : Stmt := top 29
noncomputable abbrev sLaw : Stmt := top 40
noncomputable def LN : List Str := ["_law_script", "_law_box_here", "_law_pots", "_law_rows", "_law_kept", "_law_text", "_law_found"]
theorem okLaw : lawB.chk W (defScope sLaw) LN (List.range LN.length) LN.length 0 (defBody sLaw).tail = true := by kernel_rfl
structure Ok33 (cf : CF) : Prop where
 take : TakeOk cf
 draw : DrawOk cf
 chart : ChartOk cf
 sheet : SheetOk cf
 rchart : ReadChartOk cf
 ssheet : SameSheetOk cf
theorem ok33 (n : Nat) : Ok33 (callN defs (n + 20)) := by
 have hmixed : ∀ k, MixedOk (callN defs (k + 1)) := fun k a b => mixed_ok (callN defs k) a b
 have htake : ∀ k, TakeOk (callN defs (k + 2)) := fun k b hb n h1 h2 => take_ok (callN defs (k + 1)) (hmixed k) hb h1 h2
 have hsizes : ∀ k, SizesOk (callN defs (k + 3)) := fun k b hb => sizes_ok (callN defs (k + 2)) (htake k) hb
 have hlacks : ∀ k, LacksOk (callN defs (k + 3)) := fun k b hb pots size h1 h2 => lacks_ok (callN defs (k + 2)) (htake k) hb h1 h2
 have hcell : ∀ k, CellOkF (callN defs (k + 3)) := fun k b hb bs loose wet h1 h2 h3 => cell_ok (callN defs (k + 2)) (htake k) hb bs h1 h2 h3
 have hbolt : ∀ k, BoltOkF (callN defs (k + 4)) := fun k b hb pots size loose h1 h2 h3 h4 => bolt_ok (callN defs (k + 3)) (htake (k + 1)) (hlacks k) (hcell k) hb h1 h2 h3 h4
 have hdraw : ∀ k, DrawOk (callN defs (k + 5)) := fun k b hb loose h0 h1 => draw_ok (callN defs (k + 4)) (hsizes (k + 1)) (hbolt k) hb h0 h1
 have hsshown : ∀ k, SShownOk (callN defs (k + 1)) := fun k sh hl h => sshown_ok (callN defs k) hl h
 have hcshown : ∀ k, CellShownOk (callN defs (k + 2)) := fun k pots c hp h => cell_shown_ok (callN defs (k + 1)) (hsshown k) hp h
 have hchart : ∀ k, ChartOk (callN defs (k + 3)) := fun k pots cs H => chart_ok (callN defs (k + 2)) (hcshown k) H
 have hfigures : ∀ k, FiguresOk (callN defs (k + 1)) := fun k sh hl h => figures_ok (callN defs k) hl h
 have hsheet : ∀ k, SheetOk (callN defs (k + 2)) := fun k pots cs H => sheet_ok (callN defs (k + 1)) (hfigures k) H
 have hfigs : ∀ k, FigsOk (callN defs (k + 1)) := fun k x hx h => are_figures_ok (callN defs k) hx h
 have hisplain : ∀ k, IsPlainOk (callN defs (k + 2)) := fun k i h => is_plain_ok (callN defs (k + 1)) (hfigs k) h
 have hpnum : ∀ k, PlainNumOk (callN defs (k + 3)) := fun k i h => plain_number_ok (callN defs (k + 2)) (hisplain k) h
 have hbounded : ∀ k, BoundedOk (callN defs (k + 4)) := fun k i most h hm => bounded_ok (callN defs (k + 3)) (hpnum k) h hm
 have hrhead : ∀ k, ReadHeadOk (callN defs (k + 5)) := fun k pots n hp hn => read_head_ok (callN defs (k + 4)) (hbounded k) hp hn
 have hpsh : ∀ k, PlainShOk (callN defs (k + 2)) := fun k sh hl h => plain_shades_ok (callN defs (k + 1)) (hfigs k) hl h
 have hpict : ∀ k, PictureOk (callN defs (k + 3)) := fun k pots sh hl hp h => picture_ok (callN defs (k + 2)) (hpsh k) hl hp h
 have hrcell : ∀ k, ReadCellOk (callN defs (k + 4)) := fun k pots c hp h => read_cell_ok (callN defs (k + 3)) (hpict k) hp h
 have hrchart : ∀ k, ReadChartOk (callN defs (k + 6)) := fun k pots cs H => read_chart_ok (callN defs (k + 5)) (hrhead k) (hrcell (k + 1)) H
 have hwhole : ∀ k, WholeOk (callN defs (k + 1)) := fun k i => whole_ok (callN defs k) i
 have hshades : ∀ k, ShadesOk (callN defs (k + 2)) := fun k xs pots h hl => shades_ok (callN defs (k + 1)) (hwhole k) h hl
 have hkind : ∀ k, KindOk (callN defs (k + 3)) := fun k pots cs hp h => kind_ok (callN defs (k + 2)) (hshades k) hp h
 have halike : ∀ k, AlikeOk (callN defs (k + 4)) := fun k pots cs hp h => alike_ok (callN defs (k + 3)) (hkind k) hp h
 have hssheet : ∀ k, SameSheetOk (callN defs (k + 5)) := fun k pots cs hp hk => same_sheet_ok (callN defs (k + 4)) (hwhole (k + 3)) (halike k) hp hk
 exact ⟨htake (n + 18), hdraw (n + 15), hchart (n + 17), hsheet (n + 18), hrchart (n + 14), hssheet (n + 15)⟩
theorem rest_ok (cf : CF) (h : Ok33 cf) {pots : Nat} {cs : List Cl} (H : Sh pots cs) (b : OV) : ∃ Γ', lawB_2.ex cf [] [none, some b, some (.d (.int pots)), some (.d (boltD cs)), none, none, none] = .ok (.ret (.d (.bool true)), Γ') := by
 have hk : Kind pots cs := fun c hc => ⟨(H.ok c hc).sl, (H.ok c hc).wl⟩
 have q1 := h.chart pots cs H
 have q2 := h.sheet pots cs H
 have q3 := h.rchart pots cs H
 have q4 := h.ssheet pots cs H.hp hk
 have ly : lay 20 (boltD cs) = true := lay_bolt 17 _
 have ev := eqv_lay ly
 have lb : lay 20 (.str (chartS pots cs)) = true := by
  refine strOk_join (strOk_of "") fun y hy => ?_
  obtain ⟨r, hr, rfl⟩ := List.mem_map.mp hy
  rw [strOk_app, strOk_of "\n", Bool.and_true]
  have : ∀ sh : List Int, PyData.strOk (shS sh) = true := fun sh => by
   unfold shS
   split
   ·exact strOk_of _
   ·exact strOk_join (strOk_of "") fun y hy => by obtain ⟨i, _, rfl⟩ := List.mem_map.mp hy; exact strOk_of _
  rcases List.mem_cons.mp hr with rfl | hr
  ·refine strOk_join (strOk_of " ") ?_
   simp only [List.forall_mem_cons]
   exact ⟨strOk_of _, strOk_of _, strOk_of _, by simp⟩
  ·obtain ⟨c, _, rfl⟩ := List.mem_map.mp hr
   refine strOk_join (strOk_of " ") ?_
   simp only [List.forall_mem_cons]
   exact ⟨this _, by cases c.w <;> exact strOk_of _, this _, by simp⟩
 have evb := eqv_lay lb
 have hv : (OV.l (cs.map fun c => .d c.D)).view = boltD cs := views_cells cs
 have hv2 : (OV.t [.d (.int pots), .l (cs.map fun c => .d c.D)]).view = .tuple [.int pots, boltD cs] := by
  rw [OV.view, OV.views, OV.views, OV.views, hv]; rfl
 have hz : (cs.map fun c => OV.d c.D).length < 1000000 := by simp; have := H.hl; omega
 have hz2 : (cs.map Cl.D).length ≤ 1000000 := by simp; have := H.hl; omega
 have hsq : ∀ Γ, seqF Γ (.dat (boltD cs)) = some (cs.map Cl.D) := fun _ => rfl
 have hbd : PyData.list (cs.map Cl.D) = boltD cs := rfl
 unfold lawB_2
 generalize (cs.map fun c => OV.d c.D) = CO at *
 generalize cs.map Cl.D = CL at *
 generalize boltD cs = BD at *
 generalize chartS pots cs = CH at *
 have ix1 : ixN 2 1 = some 1 := rfl
 simp! [q1, q2, q3, q4, ly, ev, lb, evb, hv, hv2, hz, hz2, hsq, hbd, sAppT, isTup1, wD, ix1, lay_int, eqv_int, view_d0]
theorem law_run (cf : CF) (h : Ok33 cf) (cells : List Int) (i l t s : Int) (hi : 0 ≤ i) : ∃ Γ', lawB.ex cf [] (none :: some (boxV cells i l t s) :: List.replicate (LN.length - 2) none) = .ok (.ret (.d (.bool true)), Γ') := by
 have hB : IsBox (boxV cells i l t s) := ⟨_, _, _, _, _, hi, rfl⟩
 generalize boxV cells i l t s = b at hB
 obtain ⟨pots, cs, b1, hp, hcl, hb, hb1, e1⟩ := h.draw b hB 3 (by decide) (by decide)
 have H : Sh pots cs := ⟨hp, by omega, hb.2⟩
 obtain ⟨r, b2, h1, h1', hb2, e2⟩ := h.take b1 hb1 12 (by decide) (by decide)
 obtain ⟨G1, kk1⟩ := rest_ok cf h H b1
 obtain ⟨G2, kk2⟩ := rest_ok cf h H b2
 have hx : ∀ s : IS, IB.ex cf [] (.cons s lawB_2) = sSeq (s.ex cf []) (lawB_2.ex cf []) := fun s => rfl
 simp only [lawB, LN]
 simp only [boltD] at *
 cases cs with
 | nil =>
  generalize lawB_1 = B1 at *
  generalize lawB_2 = B2 at *
  refine ⟨G1, ?_⟩
  simp! [e1, hx, view_d0]
  exact kk1
 | cons c0 cs0 =>
  have H0 : Sh pots (List.replicate 999 c0) := ⟨hp, by simp, fun c hc => by
   rw [List.eq_of_mem_replicate hc]
   exact hb.2 c0 (by simp)⟩
  obtain ⟨G3, kk3⟩ := rest_ok cf h H0 b2
  have c1 := comp_map (k := 1) (t := .nm 0 7) (elt := (lawB_1.ev cf).1) (fun d : PyData => d) (fun _ => c0.D) (xs := rangeD 999) (Γ := [none, some b2, some (.d (.int pots)), some (.d (.list ((c0 :: cs0).map Cl.D))), none, none, none]) fun d hd => by
   refine ⟨[none, some b2, some (.d (.int pots)), some (.d (.list ((c0 :: cs0).map Cl.D))), none, none, none, some (.d d)], .dat c0.D, [none, some b2, some (.d (.int pots)), some (.d (.list ((c0 :: cs0).map Cl.D))), none, none, none, some (.d d)], rfl, ?_, rfl, rfl⟩
   unfold lawB_1
   rw [List.map_cons]
   generalize c0.D = D0 at *
   generalize cs0.map Cl.D = DS at *
   simp! [a0]
  rw [List.map_id'] at c1
  have hm : (rangeD 999).map (fun _ => c0.D) = (List.replicate 999 c0).map Cl.D := by
   rw [List.map_const', rangeD_length, List.map_replicate]
  rw [hm] at c1
  have hlen : (((c0 :: cs0).map Cl.D).length : Int) > 0 := by simp
  simp only [boltD] at kk3
  have hr9 : (rangeD 999).length ≤ 1000000 := by rw [rangeD_length]; decide
  have tn : (999 : Int).toNat = 999 := rfl
  generalize lawB_1 = B1 at *
  generalize lawB_2 = B2 at *
  generalize (List.replicate 999 c0).map Cl.D = RP at *
  generalize hCS : (c0 :: cs0).map Cl.D = CS at *
  have hlz : (0 : Int) < (CS.length : Int) := hlen
  have hlz2 : 0 < CS.length := by omega
  by_cases hr : r = 0
  ·subst hr
   refine ⟨G3, ?_⟩
   simp! [e1, e2, hx, hlz, hlz2, hr9, tn, c1, lay_int, eqv_int, view_d0, rangeD_length]
   exact kk3
  ·have hr' : (r == 0) = false := by rw [beq_eq_false_iff_ne]; exact hr
   refine ⟨G2, ?_⟩
   simp! [e1, e2, hx, hlz, hlz2, hr, hr', lay_int, eqv_int, view_d0]
   exact kk2
structure Bi (mg : Str → Option Value) : Prop where
 all : mg "all" = none
 bool : mg "bool" = none
 int : mg "int" = none
 isinstance : mg "isinstance" = none
 len : mg "len" = none
 list : mg "list" = none
 max : mg "max" = none
 min : mg "min" = none
 range : mg "range" = none
 str : mg "str" = none
 tuple : mg "tuple" = none
theorem Bi.of {K : PySem.W.Frag} {mg : Str → Option Value} {h : Heap} (X : K.In h) (G : h.Ns mainGlobals mg) (z0 : PySem.W.nsIn K mainGlobals "all" = some none) (z1 : PySem.W.nsIn K mainGlobals "bool" = some none) (z2 : PySem.W.nsIn K mainGlobals "int" = some none) (z3 : PySem.W.nsIn K mainGlobals "isinstance" = some none) (z4 : PySem.W.nsIn K mainGlobals "len" = some none) (z5 : PySem.W.nsIn K mainGlobals "list" = some none) (z6 : PySem.W.nsIn K mainGlobals "max" = some none) (z7 : PySem.W.nsIn K mainGlobals "min" = some none) (z8 : PySem.W.nsIn K mainGlobals "range" = some none) (z9 : PySem.W.nsIn K mainGlobals "str" = some none) (z10 : PySem.W.nsIn K mainGlobals "tuple" = some none) : Bi mg :=
 ⟨PySem.W.mg_none_of X G z0, PySem.W.mg_none_of X G z1, PySem.W.mg_none_of X G z2, PySem.W.mg_none_of X G z3, PySem.W.mg_none_of X G z4, PySem.W.mg_none_of X G z5, PySem.W.mg_none_of X G z6, PySem.W.mg_none_of X G z7, PySem.W.mg_none_of X G z8, PySem.W.mg_none_of X G z9, PySem.W.mg_none_of X G z10⟩
section
variable {P : Program} {w : World} {K : PySem.W.Frag} {mg : Str → Option Value} {base : Heap}
theorem cutV_map (ns : List Int) (lo hi : Option Int) : ∃ ms : List Int, cutV (ns.map V.int) lo hi = ms.map V.int ∧ ms.length ≤ ns.length := by
 refine ⟨(ns.drop (HT.sIx (ns.map V.int).length 0 lo)).take (HT.sIx (ns.map V.int).length (ns.map V.int).length hi - HT.sIx (ns.map V.int).length 0 lo), ?_, ?_⟩
 ·unfold cutV
  rw [List.map_take, List.map_drop]
 ·rw [List.length_take, List.length_drop]; omega
theorem scBox : FnScope ["_law_script", "_law_seed", "_law_cell_here"] ["_law_script"] (defScope sBox) := ⟨rfl, rfl, rfl, by decide +kernel, rfl, by decide +kernel, by decide +kernel⟩
theorem kn_box (D : Df K mg "_law_box" sBox ["_law_script"]) (B : Bi mg) : Kn P w K mg base CX0 "_law_box" 1 (spBox K) :=
 D.kn (k := 0) scBox (fun vs H Q E ⟨a, ns, e, _⟩ => by rw [e]; rfl) fun f cdv A outer s H vs Q E hr ⟨a, ns, e, hS, hlen, kk⟩ => by
  subst e
  refine PSs.wp (pss_cons (ps_set (i := 1) scBox.nd rfl (Or.inl rfl) pe_int)
   (pss_cons (ps_for PassesOwn.never rfl (pi_list (pe_slice sl_list (pv 0) po_none (po_some pe_int))) (pg_name (i := 2) scBox.nd rfl (Or.inl rfl))
    (pss_one (ps_set (i := 1) scBox.nd rfl (Or.inl rfl) (pe_op op_mod (pe_op op_add (pe_op op_add (pe_op op_mul (pv 1) pe_int) (pv 2)) pe_int) pe_int))))
   (pss_one (ps_ret (pe_lst (pa_cons (pe_callTy call_list_of rfl B.list boot_listW (pa_cons (pe_slice sl_list (pv 0) po_none (po_some pe_int)) pa_nil)) (pa_cons pe_int (pa_cons pe_int (pa_cons pe_int (pa_cons (pv 1) pa_nil)))))))))) ?_
  obtain ⟨ms, ems, hms⟩ := cutV_map ns none (some 63)
  refine ⟨_, rfl, _, rfl, a, _, rfl, hS, fun q nq => ⟨q, rfl, ⟨_, SqL.of upd_same⟩, for_list (K := K) (a := q) (xs := cutV (ns.map V.int) none (some 63)) (fun i σ H2 => H2 = upd H q (.lst (cutV (ns.map V.int) none (some 63))) ∧ ∃ sd v, σ = [some (.ref a), some (.int sd), v])
   ⟨rfl, 0, none, rfl⟩ (fun i σ H2 _ ⟨e, _⟩ => by rw [e]; exact SqL.of upd_same) ?_ ?_⟩⟩
  ·rintro i x σ H2 hx ⟨rfl, sd, v, rfl⟩
   obtain ⟨z, rfl⟩ : ∃ z, x = V.int z := by
    rw [ems] at hx
    have := List.mem_of_getElem? hx
    obtain ⟨z, _, rfl⟩ := List.mem_map.mp this
    exact ⟨z, rfl⟩
   refine ⟨_, rfl, _, _, rfl, rfl, .inr (by decide), _, rfl, _, _, rfl, rfl, _, _, rfl, rfl, _, _, rfl, rfl, (by show (0 : Int) < 2147483647; decide), ?_⟩
   exact ⟨rfl, _, _, rfl⟩
  ·rintro σ H2 ⟨rfl, sd, v, rfl⟩
   have s1 : Same H (upd H q (.lst (cutV (ns.map V.int) none (some 63)))) := upd_new nq
   refine ⟨_, rfl, _, rfl, a, _, rfl, s1.seq hS, fun q2 nq2 => ⟨q2, _, rfl, .inl (SqL.of upd_same), fun l nl => ⟨_, rfl, (by show 5 ≤ sizeLine; decide), fun b nb => ?_⟩⟩⟩
   have s2 := s1.trans (upd_new (o := .lst (cutV (ns.map V.int) none (some 63))) nq2)
   have s3 := s2.trans (upd_new (o := .lst (cutV (ns.map V.int) none (some 63))) nl)
   have hlb : l ≠ b := fun e => by rw [← e, upd_same] at nb; cases nb
   refine kk b _ (s3.trans (upd_new nb)) (s3.free nb) (by rw [upd_same]; exact fun z => nomatch z) ⟨l, ms, 0, 0, 0, sd, rfl, upd_same, ?_, Int.le_refl 0⟩
   refine .list (vs := ms.map V.int) (by rw [upd_ne hlb, upd_same, ems]) hlb (RepL.ints ms)
theorem hbi (B : Bi mg) : ∀ x, W.bi.contains x = true → mg x = none := by
 intro x h
 have h2 := List.elem_iff.mp h
 simp only [W, List.mem_cons, List.not_mem_nil, or_false] at h2
 rcases h2 with rfl | rfl | rfl | rfl | rfl | rfl | rfl | rfl | rfl | rfl | rfl
 ·exact B.all
 ·exact B.bool
 ·exact B.int
 ·exact B.isinstance
 ·exact B.len
 ·exact B.list
 ·exact B.max
 ·exact B.min
 ·exact B.range
 ·exact B.str
 ·exact B.tuple
theorem hfl : ∀ x n, W.fl.contains (x, n) = true → ∃ d, defs.find? (fun d => decide (d.name = x)) = some d ∧ d.mask.length = n := by
 intro x n h
 have h2 := List.elem_iff.mp h
 simp only [W, List.mem_cons, List.not_mem_nil, or_false, Prod.mk.injEq] at h2
 rcases h2 with ⟨rfl, rfl⟩ | ⟨rfl, rfl⟩ | ⟨rfl, rfl⟩ | ⟨rfl, rfl⟩ | ⟨rfl, rfl⟩ | ⟨rfl, rfl⟩ | ⟨rfl, rfl⟩ | ⟨rfl, rfl⟩ | ⟨rfl, rfl⟩ | ⟨rfl, rfl⟩ | ⟨rfl, rfl⟩ | ⟨rfl, rfl⟩ | ⟨rfl, rfl⟩ | ⟨rfl, rfl⟩ | ⟨rfl, rfl⟩ | ⟨rfl, rfl⟩ | ⟨rfl, rfl⟩ | ⟨rfl, rfl⟩ | ⟨rfl, rfl⟩ | ⟨rfl, rfl⟩ | ⟨rfl, rfl⟩ | ⟨rfl, rfl⟩ | ⟨rfl, rfl⟩ | ⟨rfl, rfl⟩ | ⟨rfl, rfl⟩ | ⟨rfl, rfl⟩ <;> exact ⟨_, rfl, rfl⟩
theorem hfx : ∀ x n, W.fx.contains (x, n) = true → ∃ d, defs.find? (fun d => decide (d.name = x)) = some d ∧ d.mask.length = n := fun x n h => nomatch h
theorem hexm {h : Heap} (X : K.In h) (G : h.Ns mainGlobals mg) {C0 : Addr} (n0 : PySem.W.nsIn K mainGlobals "NoChart" = some (some (.ref C0))) (x0 : PySem.W.excIn K C0 bmV "ValueError.__new__" = true) (r0_0 : (mroIn K C0).contains (.ref C0) = decide (("NoChart" : Str) = "NoChart")) : (∀ x, W.ex.contains x = true → ∃ C, mg x = some (.ref C) ∧ PySem.W.excIn K C bmV "ValueError.__new__" = true) ∧ ∀ x C y C2, W.ex.contains x = true → mg x = some (.ref C) → W.ex.contains y = true → mg y = some (.ref C2) → (mroIn K C).contains (.ref C2) = decide (x = y) := by
 refine ⟨fun x h => ?_, fun x C y C2 hx e1 hy e2 => ?_⟩
 ·have h2 := List.elem_iff.mp h
  simp only [W, List.mem_cons, List.not_mem_nil, or_false] at h2
  subst h2
  ·exact ⟨C0, PySem.W.mg_of X G n0, x0⟩
 ·have h2 := List.elem_iff.mp hx
  have h3 := List.elem_iff.mp hy
  simp only [W, List.mem_cons, List.not_mem_nil, or_false] at h2 h3
  subst h2
  ·rw [PySem.W.mg_of X G n0] at e1
   cases e1
   subst h3
   ·rw [PySem.W.mg_of X G n0] at e2
    cases e2
    exact r0_0
theorem hgi (GN0 : ∃ t, mg "MOST_FIGURES" = some (.int 6 t)) (GN1 : ∃ t, mg "MOST_POTS" = some (.int 12 t)) (GN2 : ∃ t, mg "MOST_ROWS" = some (.int 999 t)) : ∀ x i, W.gi.contains (x, i) = true → ∃ t, mg x = some (.int i t) := by
 intro x i h
 have h2 := List.elem_iff.mp h
 simp only [W, List.mem_cons, List.not_mem_nil, or_false, Prod.mk.injEq] at h2
 rcases h2 with ⟨rfl, rfl⟩ | ⟨rfl, rfl⟩ | ⟨rfl, rfl⟩
 ·exact GN0
 ·exact GN1
 ·exact GN2
theorem hgs (GS0 : ∃ t, mg "FIGURES" = some (.str "0123456789" t)) (GS1 : ∃ t, mg "NO_SHADES" = some (.str "-" t)) (GS2 : ∃ t, mg "NO_WAX" = some (.str "." t)) (GS3 : ∃ t, mg "WAX" = some (.str "*" t)) : ∀ x i, W.gs.contains (x, i) = true → ∃ t, mg x = some (.str i t) := by
 intro x i h
 have h2 := List.elem_iff.mp h
 simp only [W, List.mem_cons, List.not_mem_nil, or_false, Prod.mk.injEq] at h2
 rcases h2 with ⟨rfl, rfl⟩ | ⟨rfl, rfl⟩ | ⟨rfl, rfl⟩ | ⟨rfl, rfl⟩
 ·exact GS0
 ·exact GS1
 ·exact GS2
 ·exact GS3
theorem hgd : ∀ x kf, W.gd.contains (x, kf) = true → GD w K mg x kf := fun x kf h => nomatch h
theorem okS : scopeB LN ["_law_script"] (defScope sLaw) = true := by kernel_rfl
theorem hdd (D0 : Df K mg "plain_number" (top 8) ["text"]) (D1 : Df K mg "is_plain" (top 9) ["text"]) (D2 : Df K mg "plain_shades" (top 10) ["text"]) (D3 : Df K mg "shades_shown" (top 11) ["shades"]) (D4 : Df K mg "are_figures" (top 12) ["text"]) (D5 : Df K mg "chart" (top 17) ["bolt", "pots"]) (D6 : Df K mg "read_chart" (top 18) ["text"]) (D7 : Df K mg "cell_shown" (top 19) ["cell"]) (D8 : Df K mg "read_head" (top 20) ["row"]) (D9 : Df K mg "read_bounded" (top 21) ["text", "most"]) (D10 : Df K mg "read_cell" (top 22) ["row", "pots"]) (D11 : Df K mg "read_picture" (top 23) ["text", "pots"]) (D12 : Df K mg "_law_whole" (top 25) ["_law_found"]) (D13 : Df K mg "_law_shades" (top 26) ["_law_found", "_law_pots"]) (D14 : Df K mg "_law_cells_kind" (top 27) ["_law_found", "_law_pots"]) (D15 : Df K mg "_law_alike" (top 28) ["_law_found", "_law_due", "_law_pots"]) (D16 : Df K mg "_law_mixed" (top 30) ["_law_number", "_law_turn"]) (D17 : Df K mg "_law_take" (top 31) ["_law_box_here", "_law_many"]) (D18 : Df K mg "_law_lacks" (top 32) ["_law_box_here", "_law_pots", "_law_size"]) (D19 : Df K mg "_law_cell" (top 33) ["_law_box_here", "_law_row", "_law_loose", "_law_wet"]) (D20 : Df K mg "_law_bolt" (top 34) ["_law_box_here", "_law_pots", "_law_size", "_law_loose"]) (D21 : Df K mg "_law_sizes" (top 35) ["_law_box_here"]) (D22 : Df K mg "_law_draw" (top 36) ["_law_box_here", "_law_loose"]) (D23 : Df K mg "_law_figures" (top 37) ["_law_picture"]) (D24 : Df K mg "_law_sheet" (top 38) ["_law_rows", "_law_pots"]) (D25 : Df K mg "_law_same_sheet" (top 39) ["_law_found", "_law_due"]) : ∀ d ∈ defs, Df K mg d.name d.st d.ps ∧ d.ok W = true := by
 intro d h
 simp only [defs, List.mem_cons, List.not_mem_nil, or_false] at h
 rcases h with rfl | rfl | rfl | rfl | rfl | rfl | rfl | rfl | rfl | rfl | rfl | rfl | rfl | rfl | rfl | rfl | rfl | rfl | rfl | rfl | rfl | rfl | rfl | rfl | rfl | rfl
 ·exact ⟨D0, okd_p_plain_number⟩
 ·exact ⟨D1, okd_p_is_plain⟩
 ·exact ⟨D2, okd_p_plain_shades⟩
 ·exact ⟨D3, okd_p_shades_shown⟩
 ·exact ⟨D4, okd_p_are_figures⟩
 ·exact ⟨D5, okd_p_chart⟩
 ·exact ⟨D6, okd_p_read_chart⟩
 ·exact ⟨D7, okd_p_cell_shown⟩
 ·exact ⟨D8, okd_p_read_head⟩
 ·exact ⟨D9, okd_p_read_bounded⟩
 ·exact ⟨D10, okd_p_read_cell⟩
 ·exact ⟨D11, okd_p_read_picture⟩
 ·exact ⟨D12, okd_law_whole⟩
 ·exact ⟨D13, okd_law_shades⟩
 ·exact ⟨D14, okd_law_cells_kind⟩
 ·exact ⟨D15, okd_law_alike⟩
 ·exact ⟨D16, okd_law_mixed⟩
 ·exact ⟨D17, okd_law_take⟩
 ·exact ⟨D18, okd_law_lacks⟩
 ·exact ⟨D19, okd_law_cell⟩
 ·exact ⟨D20, okd_law_bolt⟩
 ·exact ⟨D21, okd_law_sizes⟩
 ·exact ⟨D22, okd_law_draw⟩
 ·exact ⟨D23, okd_law_figures⟩
 ·exact ⟨D24, okd_law_sheet⟩
 ·exact ⟨D25, okd_law_same_sheet⟩
end
noncomputable def dP (s : Stmt) : Arguments := match s with
 | .FunctionDef _ a _ _ _ _ _ _ _ _ => a
 | _ => ⟨[], [], none, [], [], none, []⟩
noncomputable abbrev dB := L2.defBody
noncomputable abbrev dS := L2.defScope
noncomputable abbrev dE (P : PySem.Params) (n : Str) (t : Nat) (v : Value) : DictEntry := .mk (PySem.PyData.keyHash P n) (.str n t) v
noncomputable abbrev oT (a : Array Value) : Obj := .mk (.type "tuple") none (.seq a 0) #[]
noncomputable abbrev oC (n : Str) (t l a f r x b c : Nat) : Obj := .mk (.type "code") none (.fields #[.str n t, .str n (t + 1), .str "/claim/cut.py" (t + 2), .int l 0, .int a 0, .int 0 0, .int 0 0, .int f 0, .ref r, .bool true, .int x 0, .ref b, .none, .none, .none, .ref c, .int ((t + 3 : Nat) : Int) 0, .int l 0, .str "/claim/cut.py" (t + 4)]) #[]
noncomputable abbrev oF (n : Str) (i : Nat) (m : Str) (t c : Nat) : Obj := .mk (.type "function") none (.func (.mk n n (dP (top i)) (.stmts (dB (top i))) (dS (top i)) 3 [] .none .none .none (.str m t) none (.ref c) .none 0)) #[]
noncomputable abbrev dR (P : PySem.Params) (n : Str) (t a : Nat) : DictEntry := .mk (PySem.PyData.keyHash P n) (.str n t) (.ref a)
noncomputable abbrev oZ : Obj := .mk .none none (.fields #[]) #[]
noncomputable abbrev oG (n : Str) (i : Nat) : Obj := .mk .none none (.func (.mk n n (dP (top i)) (.stmts (dB (top i))) (dS (top i)) 0 [] .none .none .none .none none .none .none 0)) #[]
noncomputable abbrev oB : Obj := .mk (.type "builtin_function_or_method") none (.fields #[.builtin "type.__prepare__", .type "type"]) #[]
noncomputable abbrev oI (a : Nat) : Obj := .mk (.type "builtin_function_or_method") none (.fields #[.builtin "object.__init_subclass__", .ref a]) #[]
noncomputable abbrev oS (a : Nat) : Obj := .mk (.type "super") none (.fields #[.ref a, .ref a, .ref a]) #[]
noncomputable abbrev oR (a b : Nat) (m : Str) (t : Nat) : Obj := .mk (.type "frame") none .plain #[some (.ref a), some (.ref 3), some (.ref b), none, some (.str m t), none, some (.ref 0)]
noncomputable abbrev oK (n : Str) (t l a x b : Nat) : Obj := .mk (.type "code") none (.fields #[.str n t, .str n (t + 1), .str "/claim/cut.py" (t + 2), .int l 0, .int 0 0, .int 0 0, .int 0 0, .int 0 0, .ref a, .bool false, .int x 0, .ref b, .none, .none, .none, .none, .int ((t + 3 : Nat) : Int) 0, .int l 0, .str "/claim/cut.py" (t + 4)]) #[]
noncomputable def v3 : List (Nat × Nat) → List Value
 | [] => []
 | (l, a) :: r => .int l 0 :: .int 0 0 :: .ref a :: v3 r
noncomputable abbrev o3 (l : List (Nat × Nat)) : Obj := .mk .none none (.fields (v3 l).toArray) #[]
noncomputable def K (P : PySem.Params) : PySem.W.Frag :=
 (nat_lit 2, (PySem.Obj.mk .none none (.dict #[] 0) #[])) ::
 (nat_lit 3, (PySem.Obj.mk (.type "dict") none (.dict #[(dE P "__name__" 165 (.str "law_waxcloth_k33_whole_charts" 330)), (dE P "__doc__" 166 .none), (dE P "__package__" 167 .none), (dE P "__loader__" 168 (.builtin "__main__.__loader__#opaque")), (dE P "__spec__" 169 .none), (dE P "__annotations__" 170 (.ref 6)), (dE P "__builtins__" 171 (.ref 4)), (dE P "__file__" 173 (.str "/claim/cut.py" 172)), (dE P "__cached__" 174 .none), (dE P "WaxError" 206 (.ref 24)), (dE P "NoChart" 222 (.ref 37)), (dE P "FIGURES" 226 (.str "0123456789" 225)), (dE P "NO_SHADES" 228 (.str "-" 227)), (dE P "MOST_FIGURES" 230 (.int 6 229)), (dE P "MOST_POTS" 232 (.int 12 231)), (dE P "plain_number" 239 (.ref 46)), (dE P "is_plain" 246 (.ref 53)), (dE P "plain_shades" 252 (.ref 58)), (dE P "shades_shown" 258 (.ref 63)), (dE P "are_figures" 264 (.ref 68)), (dE P "MOST_ROWS" 268 (.int 999 267)), (dE P "WAX" 270 (.str "*" 269)), (dE P "NO_WAX" 272 (.str "." 271)), (dE P "chart" 278 (.ref 73)), (dE P "read_chart" 284 (.ref 78)), (dE P "cell_shown" 294 (.ref 85)), (dE P "read_head" 302 (.ref 92)), (dE P "read_bounded" 311 (.ref 99)), (dE P "read_cell" 320 (.ref 106)), (dE P "read_picture" 329 (.ref 113)), (dE P "_law_whole" 338 (.ref 120)), (dE P "_law_shades" 344 (.ref 125)), (dE P "_law_cells_kind" 353 (.ref 132)), (dE P "_law_alike" 362 (.ref 139)), (dE P "_law_box" 371 (.ref 146)), (dE P "_law_mixed" 381 (.ref 153)), (dE P "_law_take" 391 (.ref 160)), (dE P "_law_lacks" 397 (.ref 165)), (dE P "_law_cell" 411 (.ref 172)), (dE P "_law_bolt" 417 (.ref 177)), (dE P "_law_sizes" 424 (.ref 184)), (dE P "_law_draw" 434 (.ref 191)), (dE P "_law_figures" 440 (.ref 196)), (dE P "_law_sheet" 452 (.ref 203)), (dE P "_law_same_sheet" 460 (.ref 210)), (dE P "law" 466 (.ref 215))] 46) #[])) ::
 (nat_lit 15, oT #[(.type "ValueError")]) ::
 (nat_lit 22, oT #[]) ::
 (nat_lit 23, (PySem.Obj.mk (.type "dict") none (.dict #[(dE P "__module__" 196 (.str "waxcloth.errors" 187)), (dE P "__firstlineno__" 200 (.int 2 199)), (dE P "__static_attributes__" 201 (.ref 22)), (dE P "__weakref__" 203 (.ref 25)), (dE P "__doc__" 204 .none)] 3) #[])) ::
 (nat_lit 24, (PySem.Obj.mk (.type "type") none (.cls (PySem.ClassData.mk "WaxError" [(.type "ValueError")] [(.ref 24), (.type "ValueError"), (.type "Exception"), (.type "BaseException"), (.type "object")] 23 "WaxError" true [] [(.ref 37)] false none false)) #[(Option.some (.ref 15)), none, (Option.some (.str "WaxError" 189)), (Option.some (.str "WaxError" 197)), (Option.some (.builtin "ValueError.__new__")), (Option.some (.bool true))])) ::
 (nat_lit 25, (PySem.Obj.mk (.type "getset_descriptor") none (.fields #[(.str "__weakref__" 202), (.ref 24), (.builtin "ExceptionGroup.__weakref__"), .none]) #[])) ::
 (nat_lit 28, oT #[(.ref 24)]) ::
 (nat_lit 35, oT #[]) ::
 (nat_lit 36, (PySem.Obj.mk (.type "dict") none (.dict #[(dE P "__module__" 214 (.str "waxcloth.errors" 187)), (dE P "__firstlineno__" 218 (.int 4 217)), (dE P "__static_attributes__" 219 (.ref 35)), (dE P "__doc__" 220 .none)] 2) #[])) ::
 (nat_lit 37, (PySem.Obj.mk (.type "type") none (.cls (PySem.ClassData.mk "NoChart" [(.ref 24)] [(.ref 37), (.ref 24), (.type "ValueError"), (.type "Exception"), (.type "BaseException"), (.type "object")] 36 "NoChart" true [] [] false none false)) #[(Option.some (.ref 28)), none, (Option.some (.str "NoChart" 207)), (Option.some (.str "NoChart" 215)), (Option.some (.builtin "ValueError.__new__")), (Option.some (.bool true))])) ::
 (nat_lit 40, oT #[]) ::
 (nat_lit 42, oT #[(.str "text" 236)]) ::
 (nat_lit 43, oT #[]) ::
 (nat_lit 45, (PySem.Obj.mk (.type "code") none (.fields #[(.str "plain_number" 233), (.str "plain_number" 234), (.str "/claim/cut.py" 235), (.int 11 0), (.int 1 0), (.int 0 0), (.int 0 0), (.int 3 0), (.ref 40), (.bool true), (.int 181 0), (.ref 41), .none, (.ref 42), (.ref 43), (.ref 44), (.int 237 0), (.int 11 0), (.str "/claim/cut.py" 238)]) #[])) ::
 (nat_lit 46, oF "plain_number" 8 "waxcloth.words" 223 45) ::
 (nat_lit 47, oT #[]) ::
 (nat_lit 49, oT #[(.str "text" 243)]) ::
 (nat_lit 50, oT #[]) ::
 (nat_lit 52, (PySem.Obj.mk (.type "code") none (.fields #[(.str "is_plain" 240), (.str "is_plain" 241), (.str "/claim/cut.py" 242), (.int 15 0), (.int 1 0), (.int 0 0), (.int 0 0), (.int 3 0), (.ref 47), (.bool true), (.int 181 0), (.ref 48), .none, (.ref 49), (.ref 50), (.ref 51), (.int 244 0), (.int 15 0), (.str "/claim/cut.py" 245)]) #[])) ::
 (nat_lit 53, oF "is_plain" 9 "waxcloth.words" 223 52) ::
 (nat_lit 54, oT #[]) ::
 (nat_lit 57, oC "plain_shades" 247 21 1 3 54 181 55 56) ::
 (nat_lit 58, oF "plain_shades" 10 "waxcloth.words" 223 57) ::
 (nat_lit 59, oT #[]) ::
 (nat_lit 62, oC "shades_shown" 253 27 1 3 59 181 60 61) ::
 (nat_lit 63, oF "shades_shown" 11 "waxcloth.words" 223 62) ::
 (nat_lit 64, oT #[]) ::
 (nat_lit 67, oC "are_figures" 259 31 1 3 64 181 65 66) ::
 (nat_lit 68, oF "are_figures" 12 "waxcloth.words" 223 67) ::
 (nat_lit 69, oT #[]) ::
 (nat_lit 72, oC "chart" 273 37 2 3 69 181 70 71) ::
 (nat_lit 73, oF "chart" 17 "waxcloth.charts" 265 72) ::
 (nat_lit 74, oT #[]) ::
 (nat_lit 77, oC "read_chart" 279 40 1 3 74 181 75 76) ::
 (nat_lit 78, oF "read_chart" 18 "waxcloth.charts" 265 77) ::
 (nat_lit 79, oT #[]) ::
 (nat_lit 81, oT #[(.str "cell" 288), (.str "stain" 289), (.str "waxed" 290), (.str "wish" 291)]) ::
 (nat_lit 82, oT #[]) ::
 (nat_lit 84, (PySem.Obj.mk (.type "code") none (.fields #[(.str "cell_shown" 285), (.str "cell_shown" 286), (.str "/claim/cut.py" 287), (.int 48 0), (.int 1 0), (.int 0 0), (.int 0 0), (.int 3 0), (.ref 79), (.bool true), (.int 181 0), (.ref 80), .none, (.ref 81), (.ref 82), (.ref 83), (.int 292 0), (.int 48 0), (.str "/claim/cut.py" 293)]) #[])) ::
 (nat_lit 85, oF "cell_shown" 19 "waxcloth.charts" 265 84) ::
 (nat_lit 86, oT #[]) ::
 (nat_lit 88, oT #[(.str "row" 298), (.str "words" 299)]) ::
 (nat_lit 89, oT #[]) ::
 (nat_lit 91, (PySem.Obj.mk (.type "code") none (.fields #[(.str "read_head" 295), (.str "read_head" 296), (.str "/claim/cut.py" 297), (.int 51 0), (.int 1 0), (.int 0 0), (.int 0 0), (.int 3 0), (.ref 86), (.bool true), (.int 181 0), (.ref 87), .none, (.ref 88), (.ref 89), (.ref 90), (.int 300 0), (.int 51 0), (.str "/claim/cut.py" 301)]) #[])) ::
 (nat_lit 92, oF "read_head" 20 "waxcloth.charts" 265 91) ::
 (nat_lit 93, oT #[]) ::
 (nat_lit 95, oT #[(.str "text" 306), (.str "most" 307), (.str "number" 308)]) ::
 (nat_lit 96, oT #[]) ::
 (nat_lit 98, (PySem.Obj.mk (.type "code") none (.fields #[(.str "read_bounded" 303), (.str "read_bounded" 304), (.str "/claim/cut.py" 305), (.int 56 0), (.int 2 0), (.int 0 0), (.int 0 0), (.int 3 0), (.ref 93), (.bool true), (.int 181 0), (.ref 94), .none, (.ref 95), (.ref 96), (.ref 97), (.int 309 0), (.int 56 0), (.str "/claim/cut.py" 310)]) #[])) ::
 (nat_lit 99, oF "read_bounded" 21 "waxcloth.charts" 265 98) ::
 (nat_lit 100, oT #[]) ::
 (nat_lit 102, oT #[(.str "row" 315), (.str "pots" 316), (.str "words" 317)]) ::
 (nat_lit 103, oT #[]) ::
 (nat_lit 105, (PySem.Obj.mk (.type "code") none (.fields #[(.str "read_cell" 312), (.str "read_cell" 313), (.str "/claim/cut.py" 314), (.int 61 0), (.int 2 0), (.int 0 0), (.int 0 0), (.int 3 0), (.ref 100), (.bool true), (.int 181 0), (.ref 101), .none, (.ref 102), (.ref 103), (.ref 104), (.int 318 0), (.int 61 0), (.str "/claim/cut.py" 319)]) #[])) ::
 (nat_lit 106, oF "read_cell" 22 "waxcloth.charts" 265 105) ::
 (nat_lit 107, oT #[]) ::
 (nat_lit 109, oT #[(.str "text" 324), (.str "pots" 325), (.str "shades" 326)]) ::
 (nat_lit 110, oT #[]) ::
 (nat_lit 112, (PySem.Obj.mk (.type "code") none (.fields #[(.str "read_picture" 321), (.str "read_picture" 322), (.str "/claim/cut.py" 323), (.int 66 0), (.int 2 0), (.int 0 0), (.int 0 0), (.int 3 0), (.ref 107), (.bool true), (.int 181 0), (.ref 108), .none, (.ref 109), (.ref 110), (.ref 111), (.int 327 0), (.int 66 0), (.str "/claim/cut.py" 328)]) #[])) ::
 (nat_lit 113, oF "read_picture" 23 "waxcloth.charts" 265 112) ::
 (nat_lit 114, oT #[]) ::
 (nat_lit 116, oT #[(.str "_law_found" 335)]) ::
 (nat_lit 117, oT #[]) ::
 (nat_lit 119, (PySem.Obj.mk (.type "code") none (.fields #[(.str "_law_whole" 332), (.str "_law_whole" 333), (.str "/claim/cut.py" 334), (.int 72 0), (.int 1 0), (.int 0 0), (.int 0 0), (.int 3 0), (.ref 114), (.bool true), (.int 181 0), (.ref 115), .none, (.ref 116), (.ref 117), (.ref 118), (.int 336 0), (.int 72 0), (.str "/claim/cut.py" 337)]) #[])) ::
 (nat_lit 120, oF "_law_whole" 25 "law_waxcloth_k33_whole_charts" 330 119) ::
 (nat_lit 121, oT #[]) ::
 (nat_lit 124, oC "_law_shades" 339 74 2 3 121 181 122 123) ::
 (nat_lit 125, oF "_law_shades" 26 "law_waxcloth_k33_whole_charts" 330 124) ::
 (nat_lit 126, oT #[]) ::
 (nat_lit 128, oT #[(.str "_law_found" 348), (.str "_law_pots" 349), (.str "_law_cell_here" 350)]) ::
 (nat_lit 129, oT #[]) ::
 (nat_lit 131, (PySem.Obj.mk (.type "code") none (.fields #[(.str "_law_cells_kind" 345), (.str "_law_cells_kind" 346), (.str "/claim/cut.py" 347), (.int 76 0), (.int 2 0), (.int 0 0), (.int 0 0), (.int 3 0), (.ref 126), (.bool true), (.int 181 0), (.ref 127), .none, (.ref 128), (.ref 129), (.ref 130), (.int 351 0), (.int 76 0), (.str "/claim/cut.py" 352)]) #[])) ::
 (nat_lit 132, oF "_law_cells_kind" 27 "law_waxcloth_k33_whole_charts" 330 131) ::
 (nat_lit 133, oT #[]) ::
 (nat_lit 135, oT #[(.str "_law_found" 357), (.str "_law_due" 358), (.str "_law_pots" 359)]) ::
 (nat_lit 136, oT #[]) ::
 (nat_lit 138, (PySem.Obj.mk (.type "code") none (.fields #[(.str "_law_alike" 354), (.str "_law_alike" 355), (.str "/claim/cut.py" 356), (.int 85 0), (.int 3 0), (.int 0 0), (.int 0 0), (.int 3 0), (.ref 133), (.bool true), (.int 181 0), (.ref 134), .none, (.ref 135), (.ref 136), (.ref 137), (.int 360 0), (.int 85 0), (.str "/claim/cut.py" 361)]) #[])) ::
 (nat_lit 139, oF "_law_alike" 28 "law_waxcloth_k33_whole_charts" 330 138) ::
 (nat_lit 140, oT #[]) ::
 (nat_lit 142, oT #[(.str "_law_script" 366), (.str "_law_seed" 367), (.str "_law_cell_here" 368)]) ::
 (nat_lit 143, oT #[]) ::
 (nat_lit 145, (PySem.Obj.mk (.type "code") none (.fields #[(.str "_law_box" 363), (.str "_law_box" 364), (.str "/claim/cut.py" 365), (.int 87 0), (.int 1 0), (.int 0 0), (.int 0 0), (.int 3 0), (.ref 140), (.bool true), (.int 181 0), (.ref 141), .none, (.ref 142), (.ref 143), (.ref 144), (.int 369 0), (.int 87 0), (.str "/claim/cut.py" 370)]) #[])) ::
 (nat_lit 146, oF "_law_box" 29 "law_waxcloth_k33_whole_charts" 330 145) ::
 (nat_lit 147, oT #[]) ::
 (nat_lit 149, oT #[(.str "_law_number" 375), (.str "_law_turn" 376), (.str "_law_one" 377), (.str "_law_two" 378)]) ::
 (nat_lit 150, oT #[]) ::
 (nat_lit 152, (PySem.Obj.mk (.type "code") none (.fields #[(.str "_law_mixed" 372), (.str "_law_mixed" 373), (.str "/claim/cut.py" 374), (.int 92 0), (.int 2 0), (.int 0 0), (.int 0 0), (.int 3 0), (.ref 147), (.bool true), (.int 181 0), (.ref 148), .none, (.ref 149), (.ref 150), (.ref 151), (.int 379 0), (.int 92 0), (.str "/claim/cut.py" 380)]) #[])) ::
 (nat_lit 153, oF "_law_mixed" 30 "law_waxcloth_k33_whole_charts" 330 152) ::
 (nat_lit 154, oT #[]) ::
 (nat_lit 156, oT #[(.str "_law_box_here" 385), (.str "_law_many" 386), (.str "_law_left" 387), (.str "_law_cell_here" 388)]) ::
 (nat_lit 157, oT #[]) ::
 (nat_lit 159, (PySem.Obj.mk (.type "code") none (.fields #[(.str "_law_take" 382), (.str "_law_take" 383), (.str "/claim/cut.py" 384), (.int 96 0), (.int 2 0), (.int 0 0), (.int 0 0), (.int 3 0), (.ref 154), (.bool true), (.int 181 0), (.ref 155), .none, (.ref 156), (.ref 157), (.ref 158), (.int 389 0), (.int 96 0), (.str "/claim/cut.py" 390)]) #[])) ::
 (nat_lit 160, oF "_law_take" 31 "law_waxcloth_k33_whole_charts" 330 159) ::
 (nat_lit 161, oT #[]) ::
 (nat_lit 164, oC "_law_lacks" 392 110 3 3 161 181 162 163) ::
 (nat_lit 165, oF "_law_lacks" 32 "law_waxcloth_k33_whole_charts" 330 164) ::
 (nat_lit 166, oT #[]) ::
 (nat_lit 168, oT #[(.str "_law_box_here" 401), (.str "_law_row" 402), (.str "_law_loose" 403), (.str "_law_wet" 404), (.str "_law_stain" 405), (.str "_law_want" 406), (.str "_law_bit" 407), (.str "_law_shade" 408)]) ::
 (nat_lit 169, oT #[]) ::
 (nat_lit 171, (PySem.Obj.mk (.type "code") none (.fields #[(.str "_law_cell" 398), (.str "_law_cell" 399), (.str "/claim/cut.py" 400), (.int 127 0), (.int 4 0), (.int 0 0), (.int 0 0), (.int 3 0), (.ref 166), (.bool true), (.int 181 0), (.ref 167), .none, (.ref 168), (.ref 169), (.ref 170), (.int 409 0), (.int 127 0), (.str "/claim/cut.py" 410)]) #[])) ::
 (nat_lit 172, oF "_law_cell" 33 "law_waxcloth_k33_whole_charts" 330 171) ::
 (nat_lit 173, oT #[]) ::
 (nat_lit 176, oC "_law_bolt" 412 138 4 3 173 181 174 175) ::
 (nat_lit 177, oF "_law_bolt" 34 "law_waxcloth_k33_whole_charts" 330 176) ::
 (nat_lit 178, oT #[]) ::
 (nat_lit 180, oT #[(.str "_law_box_here" 421)]) ::
 (nat_lit 181, oT #[]) ::
 (nat_lit 183, (PySem.Obj.mk (.type "code") none (.fields #[(.str "_law_sizes" 418), (.str "_law_sizes" 419), (.str "/claim/cut.py" 420), (.int 142 0), (.int 1 0), (.int 0 0), (.int 0 0), (.int 3 0), (.ref 178), (.bool true), (.int 181 0), (.ref 179), .none, (.ref 180), (.ref 181), (.ref 182), (.int 422 0), (.int 142 0), (.str "/claim/cut.py" 423)]) #[])) ::
 (nat_lit 184, oF "_law_sizes" 35 "law_waxcloth_k33_whole_charts" 330 183) ::
 (nat_lit 185, oT #[]) ::
 (nat_lit 187, oT #[(.str "_law_box_here" 428), (.str "_law_loose" 429), (.str "_law_pots" 430), (.str "_law_size" 431)]) ::
 (nat_lit 188, oT #[]) ::
 (nat_lit 190, (PySem.Obj.mk (.type "code") none (.fields #[(.str "_law_draw" 425), (.str "_law_draw" 426), (.str "/claim/cut.py" 427), (.int 146 0), (.int 2 0), (.int 0 0), (.int 0 0), (.int 3 0), (.ref 185), (.bool true), (.int 181 0), (.ref 186), .none, (.ref 187), (.ref 188), (.ref 189), (.int 432 0), (.int 146 0), (.str "/claim/cut.py" 433)]) #[])) ::
 (nat_lit 191, oF "_law_draw" 36 "law_waxcloth_k33_whole_charts" 330 190) ::
 (nat_lit 192, oT #[]) ::
 (nat_lit 195, oC "_law_figures" 435 149 1 3 192 181 193 194) ::
 (nat_lit 196, oF "_law_figures" 37 "law_waxcloth_k33_whole_charts" 330 195) ::
 (nat_lit 197, oT #[]) ::
 (nat_lit 199, oT #[(.str "_law_rows" 444), (.str "_law_pots" 445), (.str "_law_found" 446), (.str "_law_stain" 447), (.str "_law_waxed" 448), (.str "_law_want" 449)]) ::
 (nat_lit 200, oT #[]) ::
 (nat_lit 202, (PySem.Obj.mk (.type "code") none (.fields #[(.str "_law_sheet" 441), (.str "_law_sheet" 442), (.str "/claim/cut.py" 443), (.int 153 0), (.int 2 0), (.int 0 0), (.int 0 0), (.int 3 0), (.ref 197), (.bool true), (.int 181 0), (.ref 198), .none, (.ref 199), (.ref 200), (.ref 201), (.int 450 0), (.int 153 0), (.str "/claim/cut.py" 451)]) #[])) ::
 (nat_lit 203, oF "_law_sheet" 38 "law_waxcloth_k33_whole_charts" 330 202) ::
 (nat_lit 204, oT #[]) ::
 (nat_lit 206, oT #[(.str "_law_found" 456), (.str "_law_due" 457)]) ::
 (nat_lit 207, oT #[]) ::
 (nat_lit 209, (PySem.Obj.mk (.type "code") none (.fields #[(.str "_law_same_sheet" 453), (.str "_law_same_sheet" 454), (.str "/claim/cut.py" 455), (.int 158 0), (.int 2 0), (.int 0 0), (.int 0 0), (.int 3 0), (.ref 204), (.bool true), (.int 181 0), (.ref 205), .none, (.ref 206), (.ref 207), (.ref 208), (.int 458 0), (.int 158 0), (.str "/claim/cut.py" 459)]) #[])) ::
 (nat_lit 210, oF "_law_same_sheet" 39 "law_waxcloth_k33_whole_charts" 330 209) ::
 (nat_lit 211, oT #[]) ::
 (nat_lit 214, oC "law" 461 162 1 3 211 181 212 213) ::
 (nat_lit 215, oF "law" 40 "law_waxcloth_k33_whole_charts" 330 214) :: []
noncomputable abbrev RR : PySem.W.RowW := PySem.W.OpenRow.toRowW (PySem.W.OpenLaw.row PySem.Challenge.rw_waxcloth_k33_whole_charts)
noncomputable def Q : Program := { RR.prog with main := { RR.prog.main with body := [top 1, top 2, top 4, top 5, top 6, top 7, top 8, top 9, top 10, top 11, top 12, top 14, top 15, top 16, top 17, top 18, top 19, top 20, top 21, top 22, top 23, top 25, top 26, top 27, top 28, top 29, top 30, top 31, top 32, top 33, top 34, top 35, top 36, top 37, top 38, top 39, top 40] } }
noncomputable def asL : List Nat := [2, 3, 15, 22, 23, 24, 25, 28, 35, 36, 37, 40, 42, 43, 45, 46, 47, 49, 50, 52, 53, 54, 57, 58, 59, 62, 63, 64, 67, 68, 69, 72, 73, 74, 77, 78, 79, 81, 82, 84, 85, 86, 88, 89, 91, 92, 93, 95, 96, 98, 99, 100, 102, 103, 105, 106, 107, 109, 110, 112, 113, 114, 116, 117, 119, 120, 121, 124, 125, 126, 128, 129, 131, 132, 133, 135, 136, 138, 139, 140, 142, 143, 145, 146, 147, 149, 150, 152, 153, 154, 156, 157, 159, 160, 161, 164, 165, 166, 168, 169, 171, 172, 173, 176, 177, 178, 180, 181, 183, 184, 185, 187, 188, 190, 191, 192, 195, 196, 197, 199, 200, 202, 203, 204, 206, 207, 209, 210, 211, 214, 215]
theorem asE : ∀ P, asL = (K P).map (·.1) := fun _ => by kernel_rfl
noncomputable def oRest (P : PySem.Params) : List (Nat × Obj) :=
 (0, PySem.W.boot_o_0 P) ::
 (1, PySem.W.boot_o_1 P) ::
 (4, PySem.W.boot_o_4 P) ::
 (5, PySem.W.boot_o_5 P) ::
 (6, PySem.W.boot_o_6 P) ::
 (7, PySem.W.boot_o_7 P) ::
 (8, PySem.W.boot_o_8 P) ::
 (9, PySem.W.boot_o_9 P) ::
 (10, PySem.W.boot_o_10 P) ::
 (11, oT #[]) ::
 (12, (o3 [(2, 20), (4, 33), (11, 45), (15, 52), (21, 57), (27, 62), (31, 67), (37, 72), (40, 77), (48, 84), (51, 91), (56, 98), (61, 105), (66, 112), (72, 119), (74, 124), (76, 131), (85, 138), (87, 145), (92, 152), (96, 159), (110, 164), (127, 171), (138, 176), (142, 183), (146, 190), (149, 195), (153, 202), (158, 209), (162, 214)])) ::
 (13, oK "<module>" 182 1 11 181 12) ::
 (14, oR 13 3 "__main__" 164) ::
 (16, oB) ::
 (17, (PySem.Obj.mk (.type "dict") none (.dict #[(dE P "__module__" 196 (.str "waxcloth.errors" 187)), (dE P "__qualname__" 198 (.str "WaxError" 197)), (dE P "__firstlineno__" 200 (.int 2 199)), dR P "__static_attributes__" 201 22] 4) #[])) ::
 (18, oT #[]) ::
 (19, oZ) ::
 (20, oK "WaxError" 191 2 18 181 19) ::
 (21, oR 20 17 "waxcloth.errors" 187) ::
 (26, oS 24) ::
 (27, oI 24) ::
 (29, oB) ::
 (30, (PySem.Obj.mk (.type "dict") none (.dict #[(dE P "__module__" 214 (.str "waxcloth.errors" 187)), (dE P "__qualname__" 216 (.str "NoChart" 215)), (dE P "__firstlineno__" 218 (.int 4 217)), dR P "__static_attributes__" 219 35] 4) #[])) ::
 (31, oT #[]) ::
 (32, oZ) ::
 (33, oK "NoChart" 209 4 31 181 32) ::
 (34, oR 33 30 "waxcloth.errors" 187) ::
 (38, oS 37) ::
 (39, oI 37) ::
 (41, oZ) ::
 (44, oG "plain_number" 8) ::
 (48, oZ) ::
 (51, oG "is_plain" 9) ::
 (55, oZ) ::
 (56, oG "plain_shades" 10) ::
 (60, oZ) ::
 (61, oG "shades_shown" 11) ::
 (65, oZ) ::
 (66, oG "are_figures" 12) ::
 (70, oZ) ::
 (71, oG "chart" 17) ::
 (75, oZ) ::
 (76, oG "read_chart" 18) ::
 (80, oZ) ::
 (83, oG "cell_shown" 19) ::
 (87, oZ) ::
 (90, oG "read_head" 20) ::
 (94, oZ) ::
 (97, oG "read_bounded" 21) ::
 (101, oZ) ::
 (104, oG "read_cell" 22) ::
 (108, oZ) ::
 (111, oG "read_picture" 23) ::
 (115, oZ) ::
 (118, oG "_law_whole" 25) ::
 (122, oZ) ::
 (123, oG "_law_shades" 26) ::
 (127, oZ) ::
 (130, oG "_law_cells_kind" 27) ::
 (134, oZ) ::
 (137, oG "_law_alike" 28) ::
 (141, oZ) ::
 (144, oG "_law_box" 29) ::
 (148, oZ) ::
 (151, oG "_law_mixed" 30) ::
 (155, oZ) ::
 (158, oG "_law_take" 31) ::
 (162, oZ) ::
 (163, oG "_law_lacks" 32) ::
 (167, oZ) ::
 (170, oG "_law_cell" 33) ::
 (174, oZ) ::
 (175, oG "_law_bolt" 34) ::
 (179, oZ) ::
 (182, oG "_law_sizes" 35) ::
 (186, oZ) ::
 (189, oG "_law_draw" 36) ::
 (193, oZ) ::
 (194, oG "_law_figures" 37) ::
 (198, oZ) ::
 (201, oG "_law_sheet" 38) ::
 (205, oZ) ::
 (208, oG "_law_same_sheet" 39) ::
 (212, oZ) ::
 (213, oG "law" 40) :: []
noncomputable def mix : Nat → Nat → List (Nat × Obj) → List (Nat × Obj) → List Obj
 | 0, _, _, _ => []
 | n + 1, i, (a, x) :: l, (b, y) :: r => match Nat.beq a i with
  | true => x :: mix n (i + 1) l ((b, y) :: r)
  | false => y :: mix n (i + 1) ((a, x) :: l) r
 | n + 1, i, (_, x) :: l, [] => x :: mix n (i + 1) l []
 | n + 1, i, [], (_, y) :: r => y :: mix n (i + 1) [] r
 | _ + 1, _, [], [] => []
noncomputable def ev : Bool → List Obj → List Obj
 | _, [] => []
 | true, x :: r => x :: ev false r
 | false, _ :: r => ev true r
noncomputable def bt : Nat → List Obj → PySem.W.BT
 | 0, _ => .nil
 | _ + 1, [] => .nil
 | n + 1, x :: r => .node x (bt n (ev true r)) (bt n (ev false r))
noncomputable def lf : Life := (.mk [] [] [] 0 [] [] false #[] [] 0 false false false 0 [2000, 10, 10] false 0 true [] [] 0 false)
noncomputable def oAll (P : PySem.Params) : List Obj := mix 216 0 (K P) (oRest P)
noncomputable def envH : Env := { scope := RR.prog.main.scope, locals := mainNs, globals := mainNs, cells := [], code := .ref 13, frame := some 14 }
noncomputable def bH : List Stmt := PySem.W.behindTheImports RR.prog
noncomputable def cH : Code := .body bH envH
noncomputable abbrev BH : List Frame := [PySem.W.topFrame ⟨0, 0, 0, 0⟩]
noncomputable def oPre (P : PySem.Params) : List Obj := [PySem.W.boot_o_0 P, PySem.W.boot_o_1 P, PySem.W.boot_o_2 P, PySem.W.boot_o_3 P, PySem.W.boot_o_4 P, PySem.W.boot_o_5 P, PySem.W.boot_o_6 P, PySem.W.boot_o_7 P, PySem.W.boot_o_8 P, PySem.W.boot_o_9 P, PySem.W.boot_o_10 P, oT #[], oZ, oK "<module>" 182 1 11 181 12, oR 13 3 "__main__" 164]
set_option maxHeartbeats 0 in
theorem preH : ∀ w : World, (fun os => PySem.W.topGo treeTable RR.prog w 11 (some (.ref 6)) 12 ⟨PySem.W.boot_heap w.params, Array.mk [], PySem.W.boot_drawn, PySem.W.boot_toks, os⟩ (PySem.W.topStub RR.prog)) = fun os => some (⟨⟨(oPre w.params).toArray, lf⟩, Array.mk [], PySem.W.boot_drawn, 187, os⟩, ⟨denote treeTable cH, cH, ⟨0, 0, 0, 0⟩, BH⟩) := fun w => by kernel_rfl
noncomputable def tr0 (P : PySem.Params) : PySem.W.BT := bt 14 (oPre P)
set_option maxHeartbeats 0 in
theorem blockH : ∀ w : World, (fun os => PySem.W.segRun treeTable RR.prog w 11 (some (.ref 6)) 1 1 ⟨⟨(oPre w.params).toArray, lf⟩, Array.mk [], PySem.W.boot_drawn, 187, os⟩ (PySem.W.blockOf bH envH cH ⟨0, 0, 0, 0⟩ BH)) = fun os => some (.next, (PySem.W.SharedT.mk (tr0 w.params) 15 lf (Array.mk []) PySem.W.boot_drawn 187 os).abs, cH, ⟨0, 0, 0, 0⟩) := fun w => by kernel_rfl
noncomputable def tr1 (P : PySem.Params) : PySem.W.BT := bt 14 (oAll P)
noncomputable def sts0 : List Stmt := bH
set_option maxHeartbeats 0 in
theorem runT0 : ∀ w : World, (fun os => PySem.W.segRunT treeTable RR.prog w 11 (some (.ref 6)) 1 1319 (PySem.W.SharedT.mk (tr0 w.params) 15 lf (Array.mk []) PySem.W.boot_drawn 187 os) (PySem.W.piecesOf sts0 envH cH ⟨0, 0, 0, 0⟩ BH)) = fun os => some (.next, (PySem.W.SharedT.mk (tr1 w.params) 216 lf (Array.mk []) PySem.W.boot_drawn 467 os), cH, ⟨162, 0, 175, 73⟩) := fun w => by kernel_rfl
noncomputable def hE (P : PySem.Params) : Heap := ⟨(oAll P).toArray, lf⟩
set_option maxHeartbeats 0 in
theorem finH : ∀ w : World, (fun os => PySem.W.topRun treeTable RR.prog w 11 (some (.ref 6)) 2 (PySem.W.SharedT.mk (tr1 w.params) 216 lf (Array.mk []) PySem.W.boot_drawn 467 os).abs ⟨PySem.W.doneF .next, cH, ⟨162, 0, 175, 73⟩, BH⟩) = fun os => some ⟨hE w.params, Array.mk [], PySem.W.boot_drawn, 467, os⟩ := fun w => by kernel_rfl
theorem bodyH : bH = sts0 ++ ([]) := by kernel_rfl
theorem runH (w : World) (os : OsState) : PySem.W.topRun treeTable RR.prog w 11 (some (.ref 6)) (12 + (1 + (1319 + 2))) ⟨PySem.W.boot_heap w.params, Array.mk [], PySem.W.boot_drawn, PySem.W.boot_toks, os⟩ (PySem.W.topStub RR.prog) = some ⟨hE w.params, Array.mk [], PySem.W.boot_drawn, 467, os⟩ := by
 refine PySem.W.go_top (congrFun (preH w) os) (PySem.W.piece_block (congrFun (blockH w) os) ?_)
 rw [bodyH]
 exact PySem.W.piece_app (PySem.W.segRun_of (congrFun (runT0 w) os)) (PySem.W.piece_nil (congrFun (finH w) os))
noncomputable abbrev XtH : Shared → Bool := fun s => PySem.W.xlAt Q [] s && PySem.W.recOk (PySem.W.RowW.records RR) s
set_option maxHeartbeats 0 in
theorem looksH : ∀ w : World, (fun os => ((PySem.W.staticsOk (importedModules RR.prog.main.body) (PySem.W.boot_heap w.params) (hE w.params) && PySem.W.namesBound RR.prog (hE w.params) && PySem.W.gensDone ⟨hE w.params, Array.mk [], PySem.W.boot_drawn, 467, os⟩ && PySem.W.laidKept (PySem.W.boot_heap w.params) (hE w.params)), PySem.W.openSeen Q [] (importedModules RR.prog.main.body) XtH true ⟨hE w.params, Array.mk [], PySem.W.boot_drawn, 467, os⟩, (PySem.W.Hook.obs (PySem.W.kHook K asL asE)) ⟨hE w.params, Array.mk [], PySem.W.boot_drawn, 467, os⟩)) = fun _ => (true, PySem.W.openGood Q [], PySem.W.Hook.val (PySem.W.kHook K asL asE) w) := fun w => by kernel_rfl
theorem openH : PySem.W.opening RR.prog = PySem.W.plainProg RR.prog.main.scope.names := by kernel_rfl
theorem fenceH : ∀ s, fenceModules? RR.prog s = some s := fun s => by kernel_rfl
theorem sizeH : ∀ w : World, ((PySem.W.boot_heap w.params).isNs mainGlobals && (Array.mk ([] : List GenState)).size == 0, (PySem.W.boot_heap w.params).objs.size, (PySem.W.boot_heap w.params).nsMap mainGlobals "__annotations__") = (true, 11, (some (.ref 6))) := fun w => by kernel_rfl
theorem left : PySem.W.LeftO RR.prog Q [] XtH (PySem.W.Hook.obs (PySem.W.kHook K asL asE)) (PySem.W.Hook.val (PySem.W.kHook K asL asE)) 2762 :=
 PySem.W.LeftO.of_pieces (PySem.W.boot_open openH (by decide +kernel) fenceH) sizeH runH (by decide +kernel) looksH
set_option maxHeartbeats 0 in
theorem saidL : PySem.W.OpenLaw.wellSaid PySem.Challenge.rw_waxcloth_k33_whole_charts = true := by kernel_rfl
end Wx
open PySem PySem.W PyProof.Rows
set_option maxHeartbeats 0 in
theorem PySem.Challenge.cw_waxcloth_k33_whole_charts_holds : PySem.Challenge.rw_waxcloth_k33_whole_charts.Holds := by
 w_on; refine PySem.W.holds_law Wx.saidL fun said => ?_
 refine PySem.W.holds_open (q := Wx.Q) (loose := []) (XP := PySem.W.XL Wx.Q []) (YP := PySem.W.Hook.says (PySem.W.kHook Wx.K Wx.asL Wx.asE)) (N := 2762) Wx.left (PySem.W.Hook.of (PySem.W.kHook Wx.K Wx.asL Wx.asE)) (PySem.W.Hook.keeps (PySem.W.kHook Wx.K Wx.asL Wx.asE)) (fun s e => PySem.W.xl_of s (Bool.and_eq_true_iff.mp e).1) PySem.W.XL.keeps (by rfl) (by rfl) (by rfl) (fun s e => PySem.W.recFacts_of (Bool.and_eq_true_iff.mp e).2) (by rfl) (by first | assumption | decide +kernel) (by decide +kernel) ⟨rfl, rfl, rfl, rfl, rfl, by decide +kernel⟩ ?hw ?hc
 (case hw => w_witness2)
 k_fill
 refine L2.walkL (l := PySem.Challenge.rw_waxcloth_k33_whole_charts) (k := 22) (st := Wx.sLaw) rfl rfl ⟨rfl, by decide, by decide⟩ (fun w h Y => PySem.W.kIn_of Y) ?F
 case F =>
  intro w mg fa h KX G hmg
  have HD : ∀ d ∈ Wx.defs, L2.Df (L2.KOf KX) mg d.name d.st d.ps ∧ d.ok Wx.W = true := by
   refine' Wx.hdd ?_ ?_ ?_ ?_ ?_ ?_ ?_ ?_ ?_ ?_ ?_ ?_ ?_ ?_ ?_ ?_ ?_ ?_ ?_ ?_ ?_ ?_ ?_ ?_ ?_ ?_
   all_goals (dsimp only [L2.KOf]; (first | refine' L2.Df.of KX G ?a ?l ?c ?k (fun _ _ _ _ _ _ us hl => match us, hl with | [_], _ => rfl) | refine' L2.Df.of KX G ?a ?l ?c ?k (fun _ _ _ _ _ _ us hl => match us, hl with | [_, _], _ => rfl) | refine' L2.Df.of KX G ?a ?l ?c ?k (fun _ _ _ _ _ _ us hl => match us, hl with | [_, _, _], _ => rfl) | refine' L2.Df.of KX G ?a ?l ?c ?k (fun _ _ _ _ _ _ us hl => match us, hl with | [_, _, _, _], _ => rfl)); (case a => k_is); (case l => k_is); (case c => k_is); (case k => k_is))
  have DB : L2.Df (L2.KOf KX) mg "_law_box" Wx.sBox ["_law_script"] := by
   dsimp only [L2.KOf]
   refine' L2.Df.of KX G ?a ?l ?c ?k (fun _ _ _ _ _ _ us hl => match us, hl with | [_], _ => rfl)
   (case a => k_is); (case l => k_is); (case c => k_is); (case k => k_is)
  have GN0 : ∃ t, mg "MOST_FIGURES" = some (.int 6 t) := by
   refine' Exists.intro _ (Eq.trans (PySem.W.mg_of KX G ?e) ?r)
   (case e => k_is)
   (case r => exact rfl)
  have GN1 : ∃ t, mg "MOST_POTS" = some (.int 12 t) := by
   refine' Exists.intro _ (Eq.trans (PySem.W.mg_of KX G ?e) ?r)
   (case e => k_is)
   (case r => exact rfl)
  have GN2 : ∃ t, mg "MOST_ROWS" = some (.int 999 t) := by
   refine' Exists.intro _ (Eq.trans (PySem.W.mg_of KX G ?e) ?r)
   (case e => k_is)
   (case r => exact rfl)
  have GS0 : ∃ t, mg "FIGURES" = some (.str "0123456789" t) := by
   refine' Exists.intro _ (Eq.trans (PySem.W.mg_of KX G ?e) ?r)
   (case e => k_is)
   (case r => exact rfl)
  have GS1 : ∃ t, mg "NO_SHADES" = some (.str "-" t) := by
   refine' Exists.intro _ (Eq.trans (PySem.W.mg_of KX G ?e) ?r)
   (case e => k_is)
   (case r => exact rfl)
  have GS2 : ∃ t, mg "NO_WAX" = some (.str "." t) := by
   refine' Exists.intro _ (Eq.trans (PySem.W.mg_of KX G ?e) ?r)
   (case e => k_is)
   (case r => exact rfl)
  have GS3 : ∃ t, mg "WAX" = some (.str "*" t) := by
   refine' Exists.intro _ (Eq.trans (PySem.W.mg_of KX G ?e) ?r)
   (case e => k_is)
   (case r => exact rfl)
  have B : Wx.Bi mg := by
   refine' Wx.Bi.of KX G ?_ ?_ ?_ ?_ ?_ ?_ ?_ ?_ ?_ ?_ ?_
   all_goals k_is
  have L : L2.Dl (L2.KOf KX) "law" Wx.sLaw fa "_law_script" := by
   dsimp only [L2.KOf]
   refine' L2.Dl.of KX G hmg ?a ?l ?c ?k ?b
   (case a => k_is); (case l => k_is); (case c => k_is); (case k => k_is)
   (case b => exact fun s u => .of_eq rfl)
  have HX := by
   refine' Wx.hexm KX G ?n0 ?x0 ?r0_0
   (case n0 => k_is)
   (case x0 => kernel_rfl)
   (case r0_0 => kernel_rfl)
  refine ⟨L, fun fd Ff base => ?_⟩
  exact L3.law_ok Ff Wx.okS (Wx.kn_box DB B) (by decide) (L3.wk_all HD Wx.hfl (Wx.hbi B) (Wx.hgi GN0 GN1 GN2) (Wx.hgs GS0 GS1 GS2 GS3) Wx.hfx HX.1 HX.2 Wx.hgd 20) (by decide) rfl rfl rfl rfl (by first | exact Or.inl rfl | exact Or.inr rfl) rfl Wx.okLaw (fun cells i l t s hi => Wx.law_run _ (Wx.ok33 0) cells i l t s hi)
