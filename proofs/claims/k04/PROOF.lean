import PyProof.Rows.All
import Wide.All
import OpenK.AllK
import Wide.FinOn
import Lean
import PyProof.EqAt
import PyProof.EqKinds
import PyProof.TupleCall
import PyProof.NeData
import PySem.Challenge.RW_waxcloth_k04_boiled
set_option Elab.async false
set_option linter.all false
set_option maxRecDepth 100000
/-! THE HAND LAYER, for ints, bools, texts, own classes, LISTS and tuples (index, slices, in, append, pop ..), calls, loops. Paste it whole ahead of your own text; what your proof does not reach may be deleted. -/
namespace L2
open PySem PySem.Spec PyProof.Rows

/-- a key: an int or a str -/
abbrev Key := Sum Int Str
def keyIs : Key → Value → Bool
  | .inl k, v => Value.isInt k v
  | .inr x, v => Value.isStrOf x v
def keyH (w : World) : Key → Int
  | .inl k => hashInt k
  | .inr x => hashStr w x
theorem keyIs_shape : ∀ {k : Key} {v : Value}, keyIs k v = true → (∃ i t, k = Sum.inl i ∧ v = Value.int i t) ∨ (∃ x t, k = Sum.inr x ∧ v = Value.str x t)
  | .inl i, v, h => by
    obtain ⟨t, e⟩ := Value.isInt_shape (k := i) (v := v) h
    exact .inl ⟨i, t, rfl, e⟩
  | .inr x, v, h => by
    obtain ⟨t, e⟩ := Value.isStrOf_shape (x := x) (v := v) h
    exact .inr ⟨x, t, rfl, e⟩
theorem keyIs_int (i : Int) (t : Tok) : keyIs (.inl i) (.int i t) = true := by simp [keyIs, Value.isInt]
theorem keyIs_str (x : Str) (t : Tok) : keyIs (.inr x) (.str x t) = true := by simp [keyIs, Value.isStrOf]
theorem key_ll (a b : Int) : decide ((Sum.inl a : Key) = Sum.inl b) = (a == b) := by
  by_cases e : a = b
  · subst e; simp
  · have h : ¬ (Sum.inl a : Key) = Sum.inl b := fun q => e (Sum.inl.inj q)
    rw [decide_eq_false h]
    exact (beq_eq_false_iff_ne.mpr e).symm
theorem key_rr (a b : Str) : decide ((Sum.inr a : Key) = Sum.inr b) = decide (a = b) := by
  by_cases e : a = b
  · subst e; simp
  · have h : ¬ (Sum.inr a : Key) = Sum.inr b := fun q => e (Sum.inr.inj q)
    rw [decide_eq_false h, decide_eq_false e]
theorem key_lr (a : Int) (b : Str) : decide ((Sum.inl a : Key) = Sum.inr b) = false := decide_eq_false (fun q => nomatch q)
theorem key_rl (a : Str) (b : Int) : decide ((Sum.inr a : Key) = Sum.inl b) = false := decide_eq_false (fun q => nomatch q)

def mixKind (prog : Program) (w : World) : PySem.KeyKind prog w Key where
  is := keyIs
  hash := keyH w
  inj := fun v a b ha hb => by
    rcases keyIs_shape ha with ⟨i, t, rfl, rfl⟩ | ⟨x, t, rfl, rfl⟩
    · rcases keyIs_shape hb with ⟨j, u, rfl, e⟩ | ⟨y, u, rfl, e⟩
      · injection e with e1 _; rw [e1]
      · exact nomatch e
    · rcases keyIs_shape hb with ⟨j, u, rfl, e⟩ | ⟨y, u, rfl, e⟩
      · exact nomatch e
      · injection e with e1 _; rw [e1]
  byValue := fun k v h => by
    rcases keyIs_shape h with ⟨i, t, rfl, rfl⟩ | ⟨x, t, rfl, rfl⟩ <;> rfl
  pyHash := fun hv h => by
    rcases keyIs_shape hv with ⟨i, t, rfl, rfl⟩ | ⟨x, t, rfl, rfl⟩
    · exact wpAny_pyHash_int h
    · exact wpAny_pyHash_str h
  eqBool := fun hu hv h => by
    rcases keyIs_shape hu with ⟨i, t, rfl, rfl⟩ | ⟨x, t, rfl, rfl⟩
    · rcases keyIs_shape hv with ⟨j, u, rfl, rfl⟩ | ⟨y, u, rfl, rfl⟩
      · rw [key_ll] at h; exact wpAny_eqBool_int h
      · rw [key_lr] at h; exact SeqAt.EqAt.int_str i t y u _ _ _ _ h
    · rcases keyIs_shape hv with ⟨j, u, rfl, rfl⟩ | ⟨y, u, rfl, rfl⟩
      · rw [key_rl] at h; exact SeqAt.EqAt.str_int x t j u _ _ _ _ h
      · rw [key_rr] at h; exact wpAny_eqBool_str h
  «strs» := fun k x t v h => by
    rcases keyIs_shape h with ⟨i, u, rfl, e⟩ | ⟨y, u, rfl, e⟩
    · exact nomatch e
    · injection e with e1 _
      subst e1
      cases v <;> rfl

theorem mixKind_is (prog : Program) (w : World) (k : Key) (v : Value) : (mixKind prog w).is k v = keyIs k v := rfl
theorem mixKind_int (prog : Program) (w : World) (i : Int) (t : Tok) : (mixKind prog w).is (.inl i) (.int i t) = true := keyIs_int i t
theorem mixKind_str (prog : Program) (w : World) (x : Str) (t : Tok) : (mixKind prog w).is (.inr x) (.str x t) = true := keyIs_str x t
end L2

namespace L2
open PySem PySem.Spec PyProof.Rows

/-- a value, without the heap -/
inductive V where
  | non | bl (b : Bool) | int (i : Int) | str (x : Str) | byt (b : Array UInt8) | flt (b : UInt64) | ref (a : Addr) | ty (n : String)
  deriving DecidableEq

def RelV : V → Value → Prop
  | .non, u => u = Value.none
  | .bl b, u => u = Value.bool b
  | .int i, u => ∃ t, u = Value.int i t
  | .str x, u => ∃ t, u = Value.str x t
  | .byt b, u => ∃ t, u = Value.bytes b t
  | .flt b, u => ∃ t, u = Value.float b t
  | .ref a, u => u = Value.ref a
  | .ty n, u => u = Value.type n

abbrev Vals : List V → List Value → Prop := Paired RelV
theorem Vals.length {xs : List V} {us : List Value} (r : Vals xs us) : xs.length = us.length := Paired.length r
theorem Vals.get : ∀ {xs : List V} {us : List Value} {i : Nat} {x : V}, Vals xs us → xs[i]? = some x → ∃ u, us[i]? = some u ∧ RelV x u
  | _, _, _, _, .nil, e => by simp at e
  | _, _, 0, _, .cons r _, e => by simp at e; subst e; exact ⟨_, rfl, r⟩
  | _, _, i + 1, x, .cons _ t, e => by
    obtain ⟨u, h1, h2⟩ := Vals.get (i := i) (x := x) t (by simpa using e)
    exact ⟨u, by simpa using h1, h2⟩
theorem Vals.set {x : V} {u : Value} (r : RelV x u) : ∀ {xs : List V} {us : List Value} (i : Nat), Vals xs us → Vals (xs.set i x) (us.set i u)
  | _, _, _, .nil => .nil
  | _, _, 0, .cons _ t => .cons r t
  | _, _, i + 1, .cons q t => .cons q (Vals.set r i t)
theorem Vals.append : ∀ {xs ys : List V} {us ws : List Value}, Vals xs us → Vals ys ws → Vals (xs ++ ys) (us ++ ws)
  | _, _, _, _, .nil, s => s
  | _, _, _, _, .cons r t, s => .cons r (Vals.append t s)
theorem Vals.take : ∀ {xs : List V} {us : List Value} (n : Nat), Vals xs us → Vals (xs.take n) (us.take n)
  | _, _, 0, _ => .nil
  | _, _, _ + 1, .nil => .nil
  | _, _, n + 1, .cons r t => .cons r (Vals.take n t)
theorem Vals.drop : ∀ {xs : List V} {us : List Value} (n : Nat), Vals xs us → Vals (xs.drop n) (us.drop n)
  | _, _, 0, r => r
  | _, _, _ + 1, .nil => .nil
  | _, _, n + 1, .cons _ t => Vals.drop n t
theorem Vals.none_of : ∀ {xs : List V} {us : List Value} {i : Nat}, Vals xs us → xs[i]? = none → us[i]? = none := fun {xs us i} r e => by
  have h1 := r.length
  have h2 : xs.length ≤ i := List.getElem?_eq_none_iff.mp e
  exact List.getElem?_eq_none_iff.mpr (by omega)

def RelO : Option V → Option Value → Prop
  | some v, some u => RelV v u
  | none, none => True
  | _, _ => False
def KV {κ : Type} : List (κ × V) → List (κ × Value) → Prop := Paired fun (p : κ × V) (q : κ × Value) => p.1 = q.1 ∧ RelV p.2 q.2

/-- a key of a dict (00_mix): an int or a text -/
def kV : Key → V
  | .inl i => .int i
  | .inr x => .str x

/-- what stands at a tracked address -/
inductive HO where
  /-- a list -/
  | lst (xs : List V)
  /-- a tuple (never changes) -/
  | tup (xs : List V)
  /-- a dict whose keys are ints and texts; one whose keys are tuples of ints and texts (the empty one is both) -/
  | dK (kvs : List (Key × V)) | dT (kvs : List (List Key × V))
  /-- a set of ints: its members, its size -/
  | set (S : Int → Bool) (n : Nat)
  /-- an instance of the class at C, its dict at dx, its attributes -/
  | ins (C dx : Addr) (fs : List (Str × V))
  /-- the dict of the instance at x -/
  | own (x : Addr)
  /-- the dict of an exception -/
  | xd (fs : List (Str × V))
  /-- a bound method, f of x -/
  | met (f x : Addr)
  /-- a range object lo, lo + 1, .. below hi -/
  | rng (lo hi : Int)
  /-- a thing that is known to the object (the script; a dict while a loop walks it): read, never written while it is so -/
  | frz (o : Obj) (u : HO)
  /-- a code object's table -/
  | tbl (ps : Array Value)
  /-- any other thing, by what is true of its one object (a def of one's own: SetO a S n := HO.ext fun h => ..) -/
  | ext (φ : Heap → Prop)

abbrev Hp := Addr → Option HO
def upd (H : Hp) (a : Addr) (o : HO) : Hp := fun b => if b = a then some o else H b
theorem upd_same {H : Hp} {a : Addr} {o : HO} : upd H a o a = some o := by unfold upd; rw [if_pos rfl]
theorem upd_ne {H : Hp} {a b : Addr} {o : HO} (h : b ≠ a) : upd H a o b = H b := by unfold upd; rw [if_neg h]
theorem upd_upd {H : Hp} {a : Addr} {o u : HO} : upd (upd H a o) a u = upd H a u := by
  funext b; unfold upd; split <;> rfl
/-- two objects of different content stand apart -/
theorem ne_of {H : Hp} {a b : Addr} {o u : HO} (h : H a = some o) (h' : H b = some u) (d : o ≠ u) : a ≠ b := by
  intro e; subst e; rw [h] at h'; exact d (Option.some.inj h')
theorem ne_of_none {H : Hp} {a b : Addr} {o : HO} (h : H a = some o) (h' : H b = none) : a ≠ b := by
  intro e; subst e; rw [h] at h'; cases h'

section
variable (P : Program) (w : World)
def ObjOk (H : Hp) (h : Heap) (a : Addr) : HO → Prop
  | .lst xs => xs.length ≤ sizeLine ∧ ∃ (its : List Value) (n : Nat), Vals xs its ∧ h.get? a = some { cls := .type "list", data := .seq its.toArray n }
  | .tup xs => xs.length ≤ sizeLine ∧ ∃ its : List Value, Vals xs its ∧ IsTup h a its.toArray
  | .dK kvs => kvs.length ≤ sizeLine ∧ (a == sysModules) = false ∧ ∃ vs, KV kvs vs ∧ h.DictOf (mixKind P w) a vs
  | .dT kvs => kvs.length ≤ sizeLine ∧ (a == sysModules) = false ∧ ∃ xs : List (List Key × Addr × Value),
      Paired (fun (p : List Key × V) (q : List Key × Addr × Value) => p.1 = q.1 ∧ H q.2.1 = some (.tup (p.1.map kV)) ∧ RelV p.2 q.2.2) kvs xs ∧
      ∃ o es ep, h.get? a = some o ∧ o.ExactDict ∧ o.data = .dict es ep ∧ es.toList = xs.map (entryOfKey (tupleKind (mixKind P w))) ∧ (xs.map (·.1)).Nodup
  | .set S n => h.SetOf (intKind P w) a S n
  | .ins C dx fs => H dx = some (.own a) ∧ fs.length ≤ 1000 ∧ dx ≠ a ∧ h.get? a = some (PySem.W.instObj C dx) ∧
      ∃ mA, h.Ns1 dx mA ∧ (∀ f, RelO (fs.lookup f) (mA f)) ∧ PySem.Within mA (fs.map (·.1))
  | .own _ => ∃ o, h.get? a = some o
  | .xd fs => ∃ mA, h.Ns1 a mA ∧ ∀ f, RelO (fs.lookup f) (mA f)
  | .rng lo hi => ∃ t u v, h.get? a = some { cls := .type "range", data := .fields #[.int lo t, .int hi u, .int 1 v] }
  | .frz o u => h.get? a = some o ∧ ObjOk H h a u
  | .tbl ps => h.get? a = some { cls := .none, data := .fields ps }
  | .met f x => h.get? a = some (PySem.W.methodObj (.ref f) (.ref x))
  | .ext φ => φ h ∧ (∃ o, h.get? a = some o) ∧ ∀ h1 h2 : Heap, φ h1 → (∀ o, h1.get? a = some o → h2.get? a = some o) → φ h2
/-- the abstract heap is held -/
def HOk (H : Hp) (h : Heap) : Prop := ∀ a o, H a = some o → ObjOk P w H h a o
end

section
variable {P : Program} {w : World} {H H' : Hp} {h h' : Heap} {a : Addr} {o : HO}
theorem ObjOk.lt (x : ObjOk P w H h a o) : a < h.objs.size := by
  cases o with
  | lst xs => obtain ⟨_, _, _, _, e⟩ := x; exact Heap.lt_size e
  | tup xs => obtain ⟨_, _, _, p⟩ := x; exact p.lt
  | dK kvs => obtain ⟨_, _, _, _, o, _, _, e, _⟩ := x; exact Heap.lt_size e
  | dT kvs => obtain ⟨_, _, _, _, o, _, _, e, _⟩ := x; exact Heap.lt_size e
  | set S n => obtain ⟨o, _, _, _, e, _⟩ := x; exact Heap.lt_size e
  | ins C dx fs => obtain ⟨_, _, _, e, _⟩ := x; exact Heap.lt_size e
  | own y => obtain ⟨_, e⟩ := x; exact Heap.lt_size e
  | xd fs => obtain ⟨_, ⟨_, _, _, e, _⟩, _⟩ := x; exact Heap.lt_size e
  | rng lo hi => obtain ⟨_, _, _, e⟩ := x; exact Heap.lt_size e
  | frz ob u => obtain ⟨e, _⟩ := x; exact Heap.lt_size e
  | tbl ps => exact Heap.lt_size (show h.get? a = some _ from x)
  | met f y => exact Heap.lt_size (show h.get? a = some _ from x)
  | ext φ => obtain ⟨_, ⟨_, e⟩, _⟩ := x; exact Heap.lt_size e
theorem Paired.mapP {α β : Type} {F G : α → β → Prop} : ∀ {l₁ : List α} {l₂ : List β}, Paired F l₁ l₂ → (∀ a b, F a b → G a b) → Paired G l₁ l₂
  | _, _, .nil, _ => .nil
  | _, _, .cons r t, f => .cons (f _ _ r) (Paired.mapP t f)
theorem Paired.imp' {α β : Type} {F G : α → β → Prop} (f : ∀ a b, F a b → G a b) {l₁ : List α} {l₂ : List β} (r : Paired F l₁ l₂) : Paired G l₁ l₂ := Paired.mapP r f
/-- what an object's description leans on: its own object, its own dict, the tuples -/
theorem ObjOk.stay (x : ObjOk P w H h a o) (k : ∀ b u, (b = a ∨ H b = some (.own a)) → h.get? b = some u → h'.get? b = some u)
    (ho : ∀ b, H b = some (.own a) → H' b = some (.own a)) (ht : ∀ b xs, H b = some (.tup xs) → H' b = some (.tup xs)) : ObjOk P w H' h' a o := by
  induction o with
  | lst xs => obtain ⟨z, its, n, r, e⟩ := x; exact ⟨z, its, n, r, k _ _ (.inl rfl) e⟩
  | tup xs => obtain ⟨z, its, r, ob, e, c⟩ := x; exact ⟨z, its, r, ob, k _ _ (.inl rfl) e, c⟩
  | dK kvs => obtain ⟨z, y, vs, r, ob, es, ep, e, c⟩ := x; exact ⟨z, y, vs, r, ob, es, ep, k _ _ (.inl rfl) e, c⟩
  | dT kvs =>
    obtain ⟨z, y, xs, r, ob, es, ep, e, c⟩ := x
    exact ⟨z, y, xs, Paired.mapP r fun p q z => ⟨z.1, ht _ _ z.2.1, z.2.2⟩, ob, es, ep, k _ _ (.inl rfl) e, c⟩
  | set S n => obtain ⟨ob, es, ep, t, e, c⟩ := x; exact ⟨ob, es, ep, t, k _ _ (.inl rfl) e, c⟩
  | ins C dx fs =>
    obtain ⟨d, z, ne, e, mA, ⟨od, es, ep, e2, c⟩, r⟩ := x
    exact ⟨ho _ d, z, ne, k _ _ (.inl rfl) e, mA, ⟨od, es, ep, k _ _ (.inr d) e2, c⟩, r⟩
  | own y => obtain ⟨ob, e⟩ := x; exact ⟨ob, k _ _ (.inl rfl) e⟩
  | xd fs => obtain ⟨mA, ⟨od, es, ep, e, c⟩, r⟩ := x; exact ⟨mA, ⟨od, es, ep, k _ _ (.inl rfl) e, c⟩, r⟩
  | rng lo hi => obtain ⟨t, u, v, e⟩ := x; exact ⟨t, u, v, k _ _ (.inl rfl) e⟩
  | frz ob u ih => obtain ⟨e, q⟩ := x; exact ⟨k _ _ (.inl rfl) e, ih q⟩
  | tbl ps =>
    have e : h.get? a = some { cls := .none, data := .fields ps } := x
    show h'.get? a = some { cls := .none, data := .fields ps }
    exact k a _ (.inl rfl) e
  | met f y =>
    have e : h.get? a = some (PySem.W.methodObj (.ref f) (.ref y)) := x
    show h'.get? a = some (PySem.W.methodObj (.ref f) (.ref y))
    exact k a _ (.inl rfl) e
  | ext φ => obtain ⟨p, ⟨o, e⟩, st⟩ := x; exact ⟨st _ _ p fun o q => k _ _ (.inl rfl) q, ⟨o, k _ _ (.inl rfl) e⟩, st⟩
theorem HOk.lt (x : HOk P w H h) (e : H a = some o) : a < h.objs.size := (x a o e).lt
theorem HOk.fresh (x : HOk P w H h) (e : h.objs.size ≤ a) : H a = none := by
  cases q : H a with
  | none => rfl
  | some u => exact absurd (Nat.lt_of_lt_of_le (x.lt q) e) (Nat.lt_irrefl _)
/-- every object of the heap is kept -/
theorem HOk.kept (x : HOk P w H h) (k : ∀ b u, h.get? b = some u → h'.get? b = some u) : HOk P w H h' := fun a o e =>
  (x a o e).stay (fun b u _ q => k b u q) (fun _ q => q) fun _ _ q => q
/-- a new object is laid and tracked -/
theorem HOk.laid (x : HOk P w H h) (k : ∀ b u, h.get? b = some u → h'.get? b = some u) (hp : h.objs.size ≤ a) (new : ObjOk P w (upd H a o) h' a o) : HOk P w (upd H a o) h' := fun b u e => by
  have hn := x.fresh hp
  by_cases hb : b = a
  · subst hb; rw [upd_same] at e; cases e; exact new
  · rw [upd_ne hb] at e
    exact (x b u e).stay (fun c v _ q => k c v q) (fun c q => by rw [upd_ne (ne_of_none q hn)]; exact q) fun c xs q => by rw [upd_ne (ne_of_none q hn)]; exact q
end

/-- what may be read as u: it is u, or a known u -/
def Rd (H : Hp) (a : Addr) (u : HO) : Prop := H a = some u ∨ ∃ o, H a = some (.frz o u)
theorem Rd.of {H : Hp} {a : Addr} {u : HO} (h : H a = some u) : Rd H a u := .inl h
theorem Rd.ok {P : Program} {w : World} {H : Hp} {h : Heap} {a : Addr} {u : HO} (r : Rd H a u) (x : HOk P w H h) : ObjOk P w H h a u := by
  rcases r with r | ⟨o, r⟩
  · exact x a u r
  · obtain ⟨_, q⟩ := x a _ r
    exact q
/-- what may be written -/
def Mut : Option HO → Prop
  | some (.lst _) => True
  | some (.dK _) => True
  | some (.dT _) => True
  | some (.set _ _) => True
  | some (.ins _ _ _) => True
  | some (.ext _) => True
  | _ => False
section
variable {P : Program} {w : World} {H : Hp} {h h' : Heap} {x e : Addr} {o' : HO}
/-- the object at e is changed: x itself, or the dict of the instance x -/
theorem HOk.write (ok : HOk P w H h) (mu : Mut (H x)) (he : e = x ∨ H e = some (.own x)) (k : ∀ b u, b ≠ e → h.get? b = some u → h'.get? b = some u) (heo : ∃ u, h'.get? e = some u)
    (new : ObjOk P w (upd H x o') h' x o') : HOk P w (upd H x o') h' := fun b u q => by
  have nown : ∀ c y, H c = some (.own y) → c ≠ x := fun c y r z => by subst z; rw [r] at mu; exact mu
  have ntup : ∀ c xs, H c = some (.tup xs) → c ≠ x := fun c xs r z => by subst z; rw [r] at mu; exact mu
  by_cases hb : b = x
  · subst hb; rw [upd_same] at q; cases q; exact new
  · rw [upd_ne hb] at q
    by_cases hbe : b = e
    · have q' : H b = some (.own x) := by
        rcases he with z | z
        · exact absurd (hbe.trans z) hb
        · rw [hbe]; exact z
      rw [q] at q'; cases q'
      obtain ⟨v, hv⟩ := heo
      exact ⟨v, by rw [hbe]; exact hv⟩
    · refine (ok b u q).stay (fun c v hc r => k c v ?_ r) (fun c r => by rw [upd_ne (nown c b r)]; exact r) fun c xs r => by rw [upd_ne (ntup c xs r)]; exact r
      rcases hc with rfl | hc
      · exact hbe
      · rintro rfl
        rcases he with z | z
        · exact nown c b hc z
        · rw [hc] at z; cases z; exact hb rfl
end

/-! ### kept unless tracked; of the frames at fs (the callers') the slots may change (an exception that passes writes there); of the records at ex (iterators) nothing is said -/
structure Un (fs ex : List Addr) (H H' : Hp) (h h' : Heap) : Prop where
  keep : ∀ b o, h.get? b = some o → H b = none → b ∉ fs → b ∉ ex → h'.get? b = some o
  slot : ∀ b o, h.get? b = some o → H b = none → b ∈ fs → b ∉ ex → ∃ sl, h'.get? b = some { o with slots := sl }
  free : ∀ b o, h.get? b = some o → H b = none → b ∉ ex → H' b = none
  there : ∀ b o, h.get? b = some o → b ∉ ex → ∃ o', h'.get? b = some o'
  tups : ∀ b xs, H b = some (.tup xs) → H' b = some (.tup xs)
  frzs : ∀ b o u, H b = some (.frz o u) → H' b = some (.frz o u)
  tbls : ∀ b ps, H b = some (.tbl ps) → ∃ more, H' b = some (.tbl (ps ++ more))
section
variable {fs fs' ex ex' : List Addr} {H H1 H2 : Hp} {h h1 h2 h' : Heap} {a x e : Addr} {o : HO}
theorem Un.any (u : Un fs ex H H1 h h1) {b : Addr} {ob : Obj} (q : h.get? b = some ob) (n : H b = none) (hx : b ∉ ex) : ∃ sl, h1.get? b = some { ob with slots := sl } := by
  by_cases hb : b ∈ fs
  · exact u.slot b ob q n hb hx
  · exact ⟨ob.slots, u.keep b ob q n hb hx⟩
theorem Un.trans (a : Un fs ex H H1 h h1) (b : Un fs ex H1 H2 h1 h2) : Un fs ex H H2 h h2 where
  keep := fun c ob q n hc hx => b.keep c ob (a.keep c ob q n hc hx) (a.free c ob q n hx) hc hx
  slot := fun c ob q n hc hx => by
    obtain ⟨sl, e1⟩ := a.slot c ob q n hc hx
    obtain ⟨sl', e2⟩ := b.slot c _ e1 (a.free c ob q n hx) hc hx
    exact ⟨sl', e2⟩
  free := fun c ob q n hx => by
    obtain ⟨o', e1⟩ := a.there c ob q hx
    exact b.free c o' e1 (a.free c ob q n hx) hx
  there := fun c ob q hx => by
    obtain ⟨o', e1⟩ := a.there c ob q hx
    exact b.there c o' e1 hx
  tups := fun c xs q => b.tups c xs (a.tups c xs q)
  frzs := fun c ob xs q => b.frzs c ob xs (a.frzs c ob xs q)
  tbls := fun c ps q => by
    obtain ⟨m1, e1⟩ := a.tbls c ps q
    obtain ⟨m2, e2⟩ := b.tbls c _ e1
    exact ⟨m1 ++ m2, by rw [e2, Array.append_assoc]⟩
theorem Un.kept (k : ∀ b u, h.get? b = some u → h'.get? b = some u) : Un fs ex H H h h' :=
  ⟨fun b ob q _ _ _ => k b ob q, fun b ob q _ _ _ => ⟨ob.slots, k b ob q⟩, fun _ _ _ n _ => n, fun b ob q _ => ⟨ob, k b ob q⟩, fun _ _ q => q, fun _ _ _ q => q, fun _ ps q => ⟨#[], by rw [q]; simp⟩⟩
theorem Un.refl : Un fs ex H H h h := Un.kept fun _ _ q => q
theorem Un.laid (k : ∀ b u, h.get? b = some u → h'.get? b = some u) (hp : h.objs.size ≤ a) (hn : H a = none) : Un fs ex H (upd H a o) h h' where
  keep := fun b u q _ _ _ => k b u q
  slot := fun b u q _ _ _ => ⟨u.slots, k b u q⟩
  free := fun b u q n _ => by rw [upd_ne (Nat.ne_of_lt (Nat.lt_of_lt_of_le (Heap.lt_size q) hp))]; exact n
  there := fun b u q _ => ⟨u, k b u q⟩
  tups := fun b xs q => by rw [upd_ne (ne_of_none q hn)]; exact q
  frzs := fun b u xs q => by rw [upd_ne (ne_of_none q hn)]; exact q
  tbls := fun b ps q => ⟨#[], by rw [upd_ne (ne_of_none q hn), q]; simp⟩
theorem Un.write (mu : Mut (H x)) (he : e = x ∨ H e = some (.own x)) (k : ∀ b u, b ≠ e → h.get? b = some u → h'.get? b = some u) (heo : ∃ u, h'.get? e = some u) : Un fs ex H (upd H x o) h h' := by
  have hx : ∀ b, H b = none → b ≠ x := fun b n z => by subst z; rw [n] at mu; exact mu
  have hb : ∀ b, H b = none → b ≠ e := fun b n z => by
    subst z
    rcases he with r | r
    · exact hx b n r
    · rw [n] at r; cases r
  have hm : ∀ b u, H b = some u → ¬ Mut (some u) → b ≠ x := fun b u q nm z => by subst z; rw [q] at mu; exact nm mu
  refine ⟨fun b u q n _ _ => k b u (hb b n) q, fun b u q n _ _ => ⟨u.slots, k b u (hb b n) q⟩, fun b u q n _ => by rw [upd_ne (hx b n)]; exact n, fun b u q _ => ?_,
    fun b xs q => by rw [upd_ne (hm b _ q fun z => z)]; exact q, fun b u xs q => by rw [upd_ne (hm b _ q fun z => z)]; exact q, fun b ps q => ⟨#[], by rw [upd_ne (hm b _ q fun z => z), q]; simp⟩⟩
  by_cases hbe : b = e
  · subst hbe; exact heo
  · exact ⟨u, k b u hbe q⟩
theorem Un.mono (u : Un fs ex H H1 h h1) (hs : ∀ b ∈ fs, b ∈ fs') (hx : ∀ b ∈ ex, b ∈ ex') : Un fs' ex' H H1 h h1 :=
  ⟨fun b ob q n hb he => u.keep b ob q n (fun z => hb (hs b z)) fun z => he (hx b z), fun _ _ q n _ he => u.any q n fun z => he (hx _ z), fun b ob q n he => u.free b ob q n fun z => he (hx b z), fun b ob q he => u.there b ob q fun z => he (hx b z), u.tups, u.frzs, u.tbls⟩
end

/-! ### the heap without what is tracked -/
def trk (h : Heap) (H : Hp) : List Addr := (List.range h.objs.size).filter fun a => (H a).isSome
def hidT (h : Heap) (H : Hp) : Heap := PySem.W.hideAll h (trk h H)
theorem hidT_size (h : Heap) (H : Hp) : (hidT h H).objs.size = h.objs.size := PySem.W.hideAll_size _ _
theorem hidT_get {h : Heap} {H : Hp} {b : Addr} {o : Obj} (e : h.get? b = some o) (n : H b = none) : (hidT h H).get? b = some o :=
  PySem.W.hideAll_get _ e fun hm => by
    have q : (H b).isSome = true := (List.mem_filter.mp hm).2
    rw [n] at q; simp at q
theorem of_hidT {h : Heap} {H : Hp} {b : Addr} {o : Obj} (e : (hidT h H).get? b = some o) : h.get? b = some o ∧ H b = none := by
  have e' : h.get? b = some o := PySem.W.of_hideAll (trk h H) e
  refine ⟨e', ?_⟩
  cases q : H b with
  | none => rfl
  | some x =>
    have hm : b ∈ trk h H := List.mem_filter.mpr ⟨List.mem_range.mpr (Heap.lt_size e'), by simp [q]⟩
    have z : (hidT h H).get? b = none := PySem.W.hideAll_none (trk h H) hm
    rw [z] at e; cases e

/-! ### OpenK's ledger, filled with every new object but one -/
def allNews (g h : Heap) (L : Addr) : List (Addr × Obj) := (List.range h.objs.size).filterMap fun a => if a = L ∨ (g.get? a).isSome = true then none else (h.get? a).map fun o => (a, o)
theorem mem_allNews {g h : Heap} {L a : Addr} {o : Obj} (h1 : a ≠ L) (h2 : g.get? a = none) (h3 : h.get? a = some o) : (a, o) ∈ allNews g h L :=
  List.mem_filterMap.mpr ⟨a, List.mem_range.mpr (Heap.lt_size h3), by simp [h1, h2, h3]⟩
theorem of_mem_allNews {g h : Heap} {L : Addr} {p : Addr × Obj} (hp : p ∈ allNews g h L) : p.1 ≠ L ∧ g.get? p.1 = none ∧ h.get? p.1 = some p.2 := by
  obtain ⟨b, _, e⟩ := List.mem_filterMap.mp hp
  split at e
  · cases e
  · rename_i hn
    cases q : h.get? b with
    | none => rw [q] at e; simp at e
    | some u =>
      rw [q] at e
      simp only [Option.map_some, Option.some.injEq] at e
      subst e
      refine ⟨fun z => hn (.inl z), ?_, q⟩
      show g.get? b = none
      cases r : g.get? b with
      | none => rfl
      | some v => exact (hn (.inr (by simp [r]))).elim
def rest (g h : Heap) (L d : Addr) : List (Addr × Obj) := (allNews g h L).filter fun p => decide (p.1 ≠ d)
theorem rest_ne {g h : Heap} {L d : Addr} : ∀ p ∈ rest g h L d, p.1 ≠ d := fun p hp => of_decide_eq_true (List.mem_filter.mp hp).2
theorem mem_rest {g h : Heap} {L d a : Addr} {o : Obj} (h1 : a ≠ L) (h2 : g.get? a = none) (h3 : h.get? a = some o) (h4 : a ≠ d) : (a, o) ∈ rest g h L d :=
  List.mem_filter.mpr ⟨mem_allNews h1 h2 h3, decide_eq_true h4⟩
theorem news_all {g h : Heap} {L : Addr} : News g L h (allNews g h L) := fun p hp => let ⟨a, b, c⟩ := of_mem_allNews hp; ⟨c, a, b⟩
theorem news_at {g h : Heap} {L d : Addr} {o : Obj} (h1 : d ≠ L) (h2 : g.get? d = none) (h3 : h.get? d = some o) : News g L h ((d, o) :: rest g h L d) := fun p hp => by
  rcases List.mem_cons.mp hp with rfl | hp
  · exact ⟨h3, h1, h2⟩
  · exact news_all p (List.mem_filter.mp hp).1
/-- behind a rule that changed d alone: all else but the frame is kept -/
theorem kept_of_news {g h h' : Heap} {L d : Addr} {m : Str → Option Value} (k : ∀ b o, g.get? b = some o → h.get? b = some o) (F : Fr g L h' m) (N : News g L h' (rest g h L d)) :
    ∀ b o, b ≠ L → b ≠ d → h.get? b = some o → h'.get? b = some o := fun b o h1 h2 e => by
  cases q : g.get? b with
  | some u =>
    have := k b u q
    rw [e] at this; cases this
    exact F.keep b _ q
  | none => exact (N (b, o) (mem_rest h1 q e h2)).1
end L2

namespace L2
open PySem PySem.Spec PyProof.Rows

/-- the module's facts, over the base: the heap at the law's entry without what is tracked there -/
structure Mod (K : PySem.W.Frag) (mg : Str → Option Value) (base : Heap) : Prop where
  kin : K.In base
  glob : base.Ns mainGlobals mg
  blt : ∃ mb, base.Ns builtinsNs mb ∧ ∀ x : Str, x ≠ "__name__" → mb x = bootBuiltins x
  nolimit : base.NoLimit

/-- the context: a def's body (or a comprehension's block) running. base: fixed through the whole law; s₀, H₀: the entry; outer: the frames whose slots others may change (a def's callers); stack: all frames that run;
   ex: iterators that were made ahead of the entry and are walked here (a comprehension's); fn: the names whose cells were made at the entry (a def: all; a comprehension's block: its own); calm: not within an except suite; pn: pins that every state bears; xe: what is wanted of an exception that leaves the code -/
structure Cx where
  prog : Program
  w : World
  K : PySem.W.Frag
  mg : Str → Option Value
  base : Heap
  A : Around
  N : List Str
  s₀ : Shared
  H₀ : Hp
  env : Env
  outer : List Env
  stack : List Env
  ex : List Addr
  fn : Str → Bool
  calm : Bool
  pn : List (Addr × Obj)
  xe : Value → Shared → Prop
/-- the callers' frames -/
def frs (l : List Env) : List Addr := l.filterMap (·.frame)
abbrev Cx.fs (X : Cx) : List Addr := frs X.outer

def Vis (sc : Scope) (x : Str) : Prop := sc.names.lookup x = some .local ∨ sc.names.lookup x = some .cell ∨ sc.names.lookup x = some .free
def Loc (sc : Scope) (x : Str) : Prop := sc.names.lookup x = some .local ∨ sc.names.lookup x = some .cell
def Look (env : Env) (h : Heap) (m : Str → Option Value) (x : Str) (u : Value) : Prop :=
  (env.kindOf x = some .local ∧ m x = some u) ∨ ((env.kindOf x = some .cell ∨ env.kindOf x = some .free) ∧ ∃ c, env.cells.lookup x = some c ∧ h.IsCell c (some u))

structure Cx.Ok (X : Cx) : Prop where
  mod : Mod X.K X.mg X.base
  kind : X.env.scope.kind = .function
  glob : X.env.globals = mainGlobals
  blt : X.env.builtins = builtinsNs
  above : X.s₀.heap.objs.size ≤ X.env.locals
  inj : ∀ x y c, X.env.cells.lookup x = some c → X.env.cells.lookup y = some c → x = y
  has : ∀ x, (X.env.kindOf x = some .cell ∨ X.env.kindOf x = some .free) → ∃ c, X.env.cells.lookup x = some c
  cab : ∀ x c, X.fn x = true → X.env.cells.lookup x = some c → X.s₀.heap.objs.size ≤ c
  hd : X.calm = true → X.A.handled = none
  frames : X.A.frames = some X.stack
  stk : X.stack = X.outer ∨ (X.stack = X.env :: X.outer ∧ X.env.frame = some X.env.locals)
  exf : ∀ b ∈ X.ex, b ≠ X.env.locals ∧ ∀ x c, X.env.cells.lookup x = some c → c ≠ b
  bs : ∀ b o, X.base.get? b = some o → X.s₀.heap.get? b = some o ∧ X.H₀ b = none
  bsz : X.base.objs.size ≤ X.s₀.heap.objs.size
  noex : ∀ b o, X.base.get? b = some o → b ∉ X.ex
  exfs : ∀ b ∈ X.ex, b ∉ X.fs
  funs : X.s₀.heap.FunFrames X.base X.outer
  frf : ∀ b ∈ X.fs, X.H₀ b = none

structure Inv (X : Cx) (pins : List (Addr × Obj)) (σ : List (Option V)) (H : Hp) (s : Shared) : Prop where
  ok : X.Ok
  os : s.os = X.s₀.os
  bare : AllBare s.gens
  base : Un X.fs X.ex X.H₀ H X.s₀.heap s.heap
  loc : ∃ m, s.heap.Ns X.env.locals m ∧ ∀ (i : Nat) (x : Str) (v : V), X.N[i]? = some x → σ[i]? = some (some v) → Vis X.env.scope x → ∃ u, RelV v u ∧ Look X.env s.heap m x u
  cell : ∀ x c, X.env.cells.lookup x = some c → ∃ v, s.heap.IsCell c v
  free : H X.env.locals = none
  freeC : ∀ x c, X.env.cells.lookup x = some c → H c = none
  pin : ∀ p ∈ X.pn ++ pins, s.heap.get? p.1 = some p.2 ∧ H p.1 = none ∧ p.1 ≠ X.env.locals ∧ p.1 ∉ X.fs ∧ ∀ v, p.2.data ≠ .cell v
  hok : HOk X.prog X.w H s.heap
  len : σ.length = X.N.length

section
variable {X : Cx} {pins : List (Addr × Obj)} {σ : List (Option V)} {H H' : Hp} {s : Shared} {h' : Heap}

theorem Cx.Ok.nofr (ok : X.Ok) {b : Addr} {o : Obj} (e : X.base.get? b = some o) : b ∉ X.fs := fun hb => by
  have := (ok.funs.mem hb).1
  rw [e] at this; cases this
theorem Inv.bs (I : Inv X pins σ H s) : ∀ b o, X.base.get? b = some o → s.heap.get? b = some o ∧ H b = none := fun b o e =>
  ⟨I.base.keep b o (I.ok.bs b o e).1 (I.ok.bs b o e).2 (I.ok.nofr e) (I.ok.noex b o e), I.base.free b o (I.ok.bs b o e).1 (I.ok.bs b o e).2 (I.ok.noex b o e)⟩
theorem Inv.bk (I : Inv X pins σ H s) : ∀ b o, X.base.get? b = some o → s.heap.get? b = some o := fun b o e => (I.bs b o e).1
theorem Inv.mod (I : Inv X pins σ H s) : Mod X.K X.mg X.base := I.ok.mod
theorem Inv.kIn (I : Inv X pins σ H s) : X.K.In s.heap := I.ok.mod.kin.keeps I.bk
theorem Inv.nolimit (I : Inv X pins σ H s) : s.heap.NoLimit := I.ok.mod.nolimit.keeps I.bk
/-- the frame over the base: for OpenK's rules (K.In X.base is I.mod.kin) -/
theorem Inv.fr (I : Inv X pins σ H s) : ∃ m, Fr X.base X.env.locals s.heap m :=
  let ⟨m, hn, _⟩ := I.loc
  ⟨m, hn, I.bk, Nat.le_trans I.ok.bsz I.ok.above⟩
theorem Inv.lt (I : Inv X pins σ H s) : X.env.locals < s.heap.objs.size := let ⟨_, hn, _⟩ := I.loc; hn.lt
theorem Inv.sz (I : Inv X pins σ H s) : X.s₀.heap.objs.size ≤ s.heap.objs.size := Nat.le_trans I.ok.above (Nat.le_of_lt I.lt)
theorem Inv.nofs (I : Inv X pins σ H s) {a : Addr} (h : s.heap.objs.size ≤ a) : a ∉ X.fs := fun hb => by
  obtain ⟨_, o, ho, _⟩ := I.ok.funs.mem hb
  exact absurd (Nat.lt_of_lt_of_le (Heap.lt_size ho) (Nat.le_trans I.sz h)) (Nat.lt_irrefl _)
theorem Inv.cne (I : Inv X pins σ H s) : ∀ x c, X.env.cells.lookup x = some c → c ≠ X.env.locals := fun x c e z => by
  obtain ⟨v, o, ho, hd⟩ := I.cell x c e
  obtain ⟨m, ⟨o', es, ep, ho', hd', _⟩, _⟩ := I.loc
  rw [z, ho'] at ho; cases ho; rw [hd'] at hd; cases hd
theorem Inv.funs (I : Inv X pins σ H s) : s.heap.FunFrames X.base X.outer := by
  have all : ∀ (l : List Env), (∀ b ∈ frs l, b ∈ X.fs) → X.s₀.heap.FunFrames X.base l → s.heap.FunFrames X.base l := by
    intro l
    induction l with
    | nil => intro _ _; trivial
    | cons env r ih =>
      intro hs hl
      obtain ⟨hk, ⟨L, o, hf, hn, ho, hd⟩, hr⟩ := hl
      have hL : L ∈ X.fs := hs L (by unfold frs; rw [List.filterMap_cons, hf]; exact List.mem_cons_self)
      obtain ⟨sl, e⟩ := I.base.slot L o ho (I.ok.frf L hL) hL fun z => I.ok.exfs L z hL
      exact ⟨hk, ⟨L, _, hf, hn, e, hd⟩, ih (fun b hb => hs b (by unfold frs; rw [List.filterMap_cons, hf]; exact List.mem_cons_of_mem _ hb)) hr⟩
  exact all X.outer (fun _ hb => hb) I.ok.funs

/-- the frames that run, for a call -/
theorem Inv.stack (I : Inv X pins σ H s) : s.heap.FunFrames X.base X.stack := by
  rcases I.ok.stk with e | ⟨e, hf⟩
  · rw [e]; exact I.funs
  · rw [e]
    obtain ⟨m, hn, _⟩ := I.loc
    refine .cons (by rw [I.ok.kind]; decide) hf hn ?_ I.funs
    exact Heap.get?_none_of_le (Nat.le_trans I.ok.bsz I.ok.above)
theorem Inv.stkSub (I : Inv X pins σ H s) : ∀ b ∈ frs X.stack, b ∈ X.env.locals :: X.fs := fun b hb => by
  rcases I.ok.stk with e | ⟨e, hf⟩
  · rw [e] at hb; exact List.mem_cons_of_mem _ hb
  · rw [e] at hb
    unfold frs at hb
    rw [List.filterMap_cons, hf] at hb
    exact hb
theorem Inv.stkFree (I : Inv X pins σ H s) : ∀ b ∈ frs X.stack, H b = none := fun b hb => by
  rcases List.mem_cons.mp (I.stkSub b hb) with e | hb
  · rw [e]; exact I.free
  · obtain ⟨_, o, ho, _⟩ := I.ok.funs.mem hb
    exact I.base.free b o ho (I.ok.frf b hb) fun z => I.ok.exfs b z hb

/-- THE STEP: the untracked objects but the frame and the records at ch are kept (the callers' frames up to slots), the frame's map is kept, the new abstract heap is held -/
theorem Inv.step {g' : Array GenState} {t' : Nat} {d' : Drawn} {ch : List Addr} (I : Inv X pins σ H s)
    (hch : ∀ b ∈ ch, (b ∈ X.ex ∨ X.s₀.heap.objs.size ≤ b) ∧ b ≠ X.env.locals ∧ (∀ x c, X.env.cells.lookup x = some c → c ≠ b) ∧ ∀ p ∈ X.pn ++ pins, p.1 ≠ b)
    (keep : ∀ b o, b ≠ X.env.locals → b ∉ X.fs → b ∉ ch → s.heap.get? b = some o → H b = none → h'.get? b = some o)
    (slot : ∀ b o, b ≠ X.env.locals → b ∈ X.fs → b ∉ ch → s.heap.get? b = some o → H b = none → ∃ sl, h'.get? b = some { o with slots := sl }) (free : ∀ b o, b ∉ ch → s.heap.get? b = some o → H b = none → H' b = none)
    (there : ∀ b o, b ∉ ch → s.heap.get? b = some o → ∃ o', h'.get? b = some o')
    (tups : ∀ b xs, H b = some (.tup xs) → H' b = some (.tup xs)) (frzs : ∀ b o u, H b = some (.frz o u) → H' b = some (.frz o u)) (tbls : ∀ b ps, H b = some (.tbl ps) → ∃ more, H' b = some (.tbl (ps ++ more)))
    (ns : ∀ m, s.heap.Ns X.env.locals m → h'.Ns X.env.locals m) (hok : HOk X.prog X.w H' h') (hg : AllBare g') :
    Inv X pins σ H' { s with heap := h', gens := g', drawn := d', toks := t' } := by
  have neL : ∀ b o, X.s₀.heap.get? b = some o → b ≠ X.env.locals := fun b o e => Nat.ne_of_lt (Nat.lt_of_lt_of_le (Heap.lt_size e) I.ok.above)
  have neC : ∀ b o, X.s₀.heap.get? b = some o → b ∉ X.ex → b ∉ ch := fun b o e hx hb => by
    rcases (hch b hb).1 with z | z
    · exact hx z
    · exact absurd (Nat.lt_of_lt_of_le (Heap.lt_size e) z) (Nat.lt_irrefl _)
  have cellK : ∀ x c, X.env.cells.lookup x = some c → ∀ v, s.heap.IsCell c v → h'.IsCell c v := fun x c e v ⟨o, ho, hd⟩ => by
    have nch : c ∉ ch := fun z => (hch c z).2.2.1 x c e rfl
    by_cases hc : c ∈ X.fs
    · obtain ⟨sl, q⟩ := slot c o (I.cne x c e) hc nch ho (I.freeC x c e)
      exact ⟨_, q, hd⟩
    · exact ⟨o, keep c o (I.cne x c e) hc nch ho (I.freeC x c e), hd⟩
  refine ⟨I.ok, I.os, hg, ⟨fun b o e n hb hx => ?_, fun b o e n hb hx => ?_, fun b o e n hx => ?_, fun b o e hx => ?_, fun b xs e => tups b xs (I.base.tups b xs e), fun b o xs e => frzs b o xs (I.base.frzs b o xs e), fun b ps e => ?_⟩, ?_, fun x c e => ?_, ?_, fun x c e => ?_, fun p hp => ?_, hok, I.len⟩
  · exact keep b o (neL b o e) hb (neC b o e hx) (I.base.keep b o e n hb hx) (I.base.free b o e n hx)
  · obtain ⟨sl, e1⟩ := I.base.slot b o e n hb hx
    obtain ⟨sl', e2⟩ := slot b _ (neL b o e) hb (neC b o e hx) e1 (I.base.free b o e n hx)
    exact ⟨sl', e2⟩
  · obtain ⟨o', e1⟩ := I.base.there b o e hx
    exact free b o' (neC b o e hx) e1 (I.base.free b o e n hx)
  · obtain ⟨o', e1⟩ := I.base.there b o e hx
    exact there b o' (neC b o e hx) e1
  · obtain ⟨m1, e1⟩ := I.base.tbls b ps e
    obtain ⟨m2, e2⟩ := tbls b _ e1
    exact ⟨m1 ++ m2, by rw [e2, Array.append_assoc]⟩
  · obtain ⟨m, hn, hl⟩ := I.loc
    refine ⟨m, ns m hn, fun i x v e1 e2 e3 => ?_⟩
    obtain ⟨u, r, l⟩ := hl i x v e1 e2 e3
    refine ⟨u, r, ?_⟩
    rcases l with l | ⟨k, c, e, z⟩
    · exact .inl l
    · exact .inr ⟨k, c, e, cellK x c e _ z⟩
  · obtain ⟨v, z⟩ := I.cell x c e
    exact ⟨v, cellK x c e v z⟩
  · obtain ⟨m, ⟨o, _, _, ho, _⟩, _⟩ := I.loc
    exact free _ o (fun z => (hch _ z).2.1 rfl) ho I.free
  · obtain ⟨v, o, ho, hd⟩ := I.cell x c e
    exact free c o (fun z => (hch c z).2.2.1 x c e rfl) ho (I.freeC x c e)
  · obtain ⟨e, n, ne, nf, d⟩ := I.pin p hp
    have nch : p.1 ∉ ch := fun z => (hch p.1 z).2.2.2 p hp rfl
    exact ⟨keep p.1 p.2 ne nf nch e n, free p.1 p.2 nch e n, ne, nf, d⟩
/-- .. where the frame's own object is kept too -/
theorem Inv.un {t' : Nat} (I : Inv X pins σ H s) (u : Un X.fs [] H H' s.heap h') (hok : HOk X.prog X.w H' h') : Inv X pins σ H' { s with heap := h', toks := t' } := by
  obtain ⟨m, ⟨o, es, ep, ho, r⟩, _⟩ := id I.loc
  obtain ⟨sl, hL⟩ := u.any ho I.free (by simp)
  exact I.step (g' := s.gens) (d' := s.drawn) (ch := []) (fun _ z => nomatch z) (fun b o _ hb _ e n => u.keep b o e n hb (by simp)) (fun b o _ hb _ e n => u.slot b o e n hb (by simp)) (fun b o _ e n => u.free b o e n (by simp)) (fun b o _ e => u.there b o e (by simp)) u.tups u.frzs u.tbls (fun m' hm => by
    obtain ⟨o', es', ep', ho', r'⟩ := hm
    rw [ho] at ho'; cases ho'
    exact ⟨_, es', ep', hL, r'⟩) hok I.bare
/-- behind a call (or a comprehension's block): the slots of this frame may have changed too, the records at ch may have turned -/
theorem Inv.call {g' : Array GenState} {t' : Nat} {d' : Drawn} {ch : List Addr} (I : Inv X pins σ H s) (u : Un (frs X.stack) ch H H' s.heap h') (hok : HOk X.prog X.w H' h') (hg : AllBare g')
    (hch : ∀ b ∈ ch, (b ∈ X.ex ∨ X.s₀.heap.objs.size ≤ b) ∧ b ≠ X.env.locals ∧ (∀ x c, X.env.cells.lookup x = some c → c ≠ b) ∧ ∀ p ∈ X.pn ++ pins, p.1 ≠ b) :
    Inv X pins σ H' { s with heap := h', gens := g', drawn := d', toks := t' } := by
  obtain ⟨m, ⟨o, es, ep, ho, r⟩, _⟩ := id I.loc
  obtain ⟨sl, hL⟩ := u.any ho I.free fun z => (hch _ z).2.1 rfl
  exact I.step (ch := ch) hch (fun b o hL hb hc e n => u.keep b o e n (fun z => (List.mem_cons.mp (I.stkSub b z)).elim hL hb) hc) (fun b o _ _ hc e n => u.any e n hc) (fun b o hc e n => u.free b o e n hc) (fun b o hc e => u.there b o e hc) u.tups u.frzs u.tbls (fun m' hm => by
    obtain ⟨o', es', ep', ho', r'⟩ := hm
    rw [ho] at ho'; cases ho'
    exact ⟨_, es', ep', hL, r'⟩) hok hg
/-- an untracked record of ours (an iterator) has turned -/
theorem Inv.turned {t' : Nat} {it : Addr} (I : Inv X pins σ H s) (k : ∀ b o, b ≠ it → s.heap.get? b = some o → h'.get? b = some o) (hn : H it = none) (hL : it ≠ X.env.locals)
    (h1 : it ∈ X.ex ∨ X.s₀.heap.objs.size ≤ it) (h2 : ∀ x c, X.env.cells.lookup x = some c → c ≠ it) (h3 : ∀ p ∈ X.pn ++ pins, p.1 ≠ it) : Inv X pins σ H { s with heap := h', toks := t' } := by
  have nit : ∀ b u, H b = some u → b ≠ it := fun b u e z => by rw [z, hn] at e; cases e
  refine I.step (g' := s.gens) (d' := s.drawn) (ch := [it]) (fun b hb => ?_) (fun b o _ _ hc e _ => k b o (fun z => hc (by simp [z])) e) (fun b o _ _ hc e _ => ⟨o.slots, k b o (fun z => hc (by simp [z])) e⟩) (fun _ _ _ _ n => n)
    (fun b o hc e => ⟨o, k b o (fun z => hc (by simp [z])) e⟩) (fun _ _ e => e) (fun _ _ _ e => e) (fun b ps e => ⟨#[], by rw [e]; simp⟩) (fun m hm => ?_) (fun b u e => ?_) I.bare
  · have e : b = it := by simpa using hb
    subst e
    exact ⟨h1, hL, h2, h3⟩
  · obtain ⟨o, es, ep, ho, r⟩ := hm
    exact ⟨o, es, ep, k _ o (Ne.symm hL) ho, r⟩
  · refine (I.hok b u e).stay (fun c v hc q => k c v ?_ q) (fun _ q => q) fun _ _ q => q
    rcases hc with z | z
    · rw [z]; exact nit b u e
    · exact nit c _ z
theorem Inv.tok (I : Inv X pins σ H s) (t : Nat) : Inv X pins σ H { s with toks := t } := I.un (h' := s.heap) (t' := t) Un.refl I.hok
/-- all objects kept -/
theorem Inv.kept {t' : Nat} (I : Inv X pins σ H s) (k : ∀ b u, s.heap.get? b = some u → h'.get? b = some u) : Inv X pins σ H { s with heap := h', toks := t' } := I.un (Un.kept k) (I.hok.kept k)
/-- a new object laid and tracked -/
theorem Inv.laid {a : Addr} {o : HO} {t' : Nat} (I : Inv X pins σ H s) (k : ∀ b u, s.heap.get? b = some u → h'.get? b = some u) (hp : s.heap.objs.size ≤ a) (new : ObjOk X.prog X.w (upd H a o) h' a o) :
    Inv X pins σ (upd H a o) { s with heap := h', toks := t' } := I.un (Un.laid k hp (I.hok.fresh hp)) (I.hok.laid k hp new)
/-- an object written -/
theorem Inv.write {x e : Addr} {o : HO} {t' : Nat} (I : Inv X pins σ H s) (mu : Mut (H x)) (he : e = x ∨ H e = some (.own x)) (k : ∀ b u, b ≠ e → s.heap.get? b = some u → h'.get? b = some u) (heo : ∃ u, h'.get? e = some u)
    (new : ObjOk X.prog X.w (upd H x o) h' x o) : Inv X pins σ (upd H x o) { s with heap := h', toks := t' } := I.un (Un.write mu he k heo) (I.hok.write mu he k heo new)
/-- forgetting slots, pins -/
theorem Inv.weak {σ' : List (Option V)} (I : Inv X pins σ H s) (hl : σ'.length = σ.length) (w : ∀ (i : Nat) v, σ'[i]? = some (some v) → σ[i]? = some (some v)) : Inv X pins σ' H s :=
  ⟨I.ok, I.os, I.bare, I.base, let ⟨m, hn, hl'⟩ := I.loc; ⟨m, hn, fun i x v e1 e2 e3 => hl' i x v e1 (w i v e2) e3⟩, I.cell, I.free, I.freeC, I.pin, I.hok, hl.trans I.len⟩
theorem Inv.pins_of {pins' : List (Addr × Obj)} (I : Inv X pins σ H s) (h : ∀ p ∈ pins', s.heap.get? p.1 = some p.2 ∧ H p.1 = none ∧ p.1 ≠ X.env.locals ∧ p.1 ∉ X.fs ∧ ∀ v, p.2.data ≠ .cell v) : Inv X pins' σ H s :=
  ⟨I.ok, I.os, I.bare, I.base, I.loc, I.cell, I.free, I.freeC, fun p hp => (List.mem_append.mp hp).elim (fun z => I.pin p (List.mem_append_left _ z)) (h p), I.hok, I.len⟩

theorem nodup_ix {N : List Str} (hN : N.Nodup) {i j : Nat} {x : Str} (a : N[i]? = some x) (b : N[j]? = some x) : i = j := by
  obtain ⟨h1, e1⟩ := List.getElem?_eq_some_iff.mp a
  obtain ⟨h2, e2⟩ := List.getElem?_eq_some_iff.mp b
  exact (List.getElem_inj hN).mp (e1.trans e2.symm)

/-- a name is stored; what changed -/
theorem store_ok2 {M : Model} {A : Around} {E : Value → Shared → Prop} {i : Nat} {x : Str} {v : V} {u : Value} {Q : Unit → Shared → Prop} (I : Inv X pins σ H s) (hN : X.N.Nodup) (hi : X.N[i]? = some x) (hx : Loc X.env.scope x) (r : RelV v u)
    (h : ∀ s', Inv X pins (σ.set i (some v)) H s' → (∃ a, Heap.SameBut a s.heap s'.heap ∧ (a = X.env.locals ∨ X.env.cells.lookup x = some a)) → Q () s') (hf : X.fn x = true ∨ X.env.scope.names.lookup x = some .local := by first | exact .inl rfl | exact .inr rfl | assumption) : wpAny M A (storeName X.env x u) Q E s := by
  obtain ⟨m, hn, hl⟩ := id I.loc
  have hcls : (X.env.scope.kind == .class || (X.env.scope.kind == .module && X.env.locals != X.env.globals)) = false := by rw [I.ok.kind]; rfl
  have hiσ : i < σ.length := by rw [I.len]; exact (List.getElem?_eq_some_iff.mp hi).1
  have cne := I.cne
  have tracked : ∀ {a : Addr} {h' : Heap}, (∃ o, s.heap.get? a = some o ∧ H a = none) → Heap.SameBut a s.heap h' → HOk X.prog X.w H h' := fun {a h'} ha hs b ob e => by
    obtain ⟨_, _, hfree⟩ := ha
    refine (I.hok b ob e).stay (fun c w' hc q => (hs.2 c ?_).trans q) (fun _ q => q) fun _ _ q => q
    rintro rfl
    rcases hc with rfl | hc
    · rw [hfree] at e; cases e
    · rw [hfree] at hc; cases hc
  rcases hx with hk | hk
  · refine wpAny_storeName_local hk hn (fun h' hn' hs => ?_) hcls
    obtain ⟨oL, _, _, hoL, _⟩ := id hn
    refine h _ ⟨I.ok, I.os, I.bare, ⟨fun b o e n hb hx => ?_, fun b o e n hb hx => ?_, I.base.free, fun b o e hx => ?_, I.base.tups, I.base.frzs, I.base.tbls⟩, ⟨_, hn', fun j y v' e1 e2 e3 => ?_⟩, fun y c e => ?_, I.free, I.freeC, fun p hp => ?_, tracked ⟨oL, hoL, I.free⟩ hs, by simpa using I.len⟩ ⟨_, hs, .inl rfl⟩
    · exact (hs.2 b (Nat.ne_of_lt (Nat.lt_of_lt_of_le (Heap.lt_size e) I.ok.above))).trans (I.base.keep b o e n hb hx)
    · obtain ⟨sl, e1⟩ := I.base.slot b o e n hb hx
      exact ⟨sl, (hs.2 b (Nat.ne_of_lt (Nat.lt_of_lt_of_le (Heap.lt_size e) I.ok.above))).trans e1⟩
    · obtain ⟨o', e1⟩ := I.base.there b o e hx
      exact ⟨o', (hs.2 b (Nat.ne_of_lt (Nat.lt_of_lt_of_le (Heap.lt_size e) I.ok.above))).trans e1⟩
    · by_cases hj : j = i
      · subst hj
        rw [hi] at e1; cases e1
        rw [List.getElem?_set_self hiσ] at e2
        cases e2
        exact ⟨u, r, .inl ⟨hk, by simp⟩⟩
      · rw [List.getElem?_set_ne (Ne.symm hj)] at e2
        obtain ⟨u', r', q⟩ := hl j y v' e1 e2 e3
        refine ⟨u', r', ?_⟩
        rcases q with ⟨k, e⟩ | ⟨k, c, e, z⟩
        · refine .inl ⟨k, ?_⟩
          have : y ≠ x := fun e => hj (nodup_ix hN e1 (e ▸ hi))
          simp [this, e]
        · exact .inr ⟨k, c, e, z.sameBut hs (cne y c e)⟩
    · obtain ⟨w', z⟩ := I.cell y c e
      exact ⟨w', z.sameBut hs (cne y c e)⟩
    · obtain ⟨e, n, ne, nf, d⟩ := I.pin p hp
      exact ⟨(hs.2 p.1 ne).trans e, n, ne, nf, d⟩
  · have hfn : X.fn x = true := by
      rcases hf with z | z
      · exact z
      · rw [z] at hk; cases hk
    obtain ⟨c, hc⟩ := I.ok.has x (.inl hk)
    obtain ⟨w', z⟩ := I.cell x c hc
    refine wpAny_storeName_cell I.ok.kind hk hc z (fun h' hc' hs => ?_)
    obtain ⟨oc, hoc, hocd⟩ := id z
    refine h { s with heap := h' } ⟨I.ok, I.os, I.bare, ⟨fun b o e n hb hx => ?_, fun b o e n hb hx => ?_, I.base.free, fun b o e hx => ?_, I.base.tups, I.base.frzs, I.base.tbls⟩, ⟨m, hn.sameBut hs (Ne.symm (cne x c hc)), fun j y v' e1 e2 e3 => ?_⟩, fun y c' e => ?_, I.free, I.freeC, fun p hp => ?_, tracked ⟨oc, hoc, I.freeC x c hc⟩ hs, by simpa using I.len⟩ ⟨c, hs, .inr hc⟩
    · exact (hs.2 b (Nat.ne_of_lt (Nat.lt_of_lt_of_le (Heap.lt_size e) (I.ok.cab x c hfn hc)))).trans (I.base.keep b o e n hb hx)
    · obtain ⟨sl, e1⟩ := I.base.slot b o e n hb hx
      exact ⟨sl, (hs.2 b (Nat.ne_of_lt (Nat.lt_of_lt_of_le (Heap.lt_size e) (I.ok.cab x c hfn hc)))).trans e1⟩
    · obtain ⟨o', e1⟩ := I.base.there b o e hx
      exact ⟨o', (hs.2 b (Nat.ne_of_lt (Nat.lt_of_lt_of_le (Heap.lt_size e) (I.ok.cab x c hfn hc)))).trans e1⟩
    · by_cases hj : j = i
      · subst hj
        rw [hi] at e1; cases e1
        rw [List.getElem?_set_self hiσ] at e2
        cases e2
        exact ⟨u, r, .inr ⟨.inl hk, c, hc, hc'⟩⟩
      · rw [List.getElem?_set_ne (Ne.symm hj)] at e2
        obtain ⟨u', r', q⟩ := hl j y v' e1 e2 e3
        refine ⟨u', r', ?_⟩
        rcases q with q | ⟨k, c', e, z'⟩
        · exact .inl q
        · refine .inr ⟨k, c', e, z'.sameBut hs ?_⟩
          rintro rfl
          exact hj (nodup_ix hN e1 (I.ok.inj _ _ _ e hc ▸ hi))
    · by_cases hcc : c' = c
      · subst hcc; exact ⟨_, hc'⟩
      · obtain ⟨w2, z2⟩ := I.cell y c' e
        exact ⟨w2, z2.sameBut hs hcc⟩
    · obtain ⟨e, n, ne, nf, d⟩ := I.pin p hp
      refine ⟨(hs.2 p.1 ?_).trans e, n, ne, nf, d⟩
      intro q
      rw [q, hoc] at e
      have q' : oc = p.2 := Option.some.inj e
      exact d w' (by rw [← q']; exact hocd)
theorem store_ok {M : Model} {A : Around} {E : Value → Shared → Prop} {i : Nat} {x : Str} {v : V} {u : Value} {Q : Unit → Shared → Prop} (I : Inv X pins σ H s) (hN : X.N.Nodup) (hi : X.N[i]? = some x) (hx : Loc X.env.scope x) (r : RelV v u)
    (h : ∀ s', Inv X pins (σ.set i (some v)) H s' → Q () s') (hf : X.fn x = true ∨ X.env.scope.names.lookup x = some .local := by first | exact .inl rfl | exact .inr rfl | assumption) : wpAny M A (storeName X.env x u) Q E s :=
  store_ok2 I hN hi hx r (fun s' I' _ => h s' I') hf
/-- behind a call or a block, the state as it is -/
theorem Inv.call' {s' : Shared} {ch : List Addr} (I : Inv X pins σ H s) (ho : s'.os = s.os) (u : Un (frs X.stack) ch H H' s.heap s'.heap) (hok : HOk X.prog X.w H' s'.heap) (hg : AllBare s'.gens)
    (hch : ∀ b ∈ ch, (b ∈ X.ex ∨ X.s₀.heap.objs.size ≤ b) ∧ b ≠ X.env.locals ∧ (∀ x c, X.env.cells.lookup x = some c → c ≠ b) ∧ ∀ p ∈ X.pn ++ pins, p.1 ≠ b) : Inv X pins σ H' s' := by
  obtain ⟨h', g', d', t', o'⟩ := s'
  have e : o' = s.os := ho
  subst e
  exact I.call (g' := g') (t' := t') (d' := d') u hok hg hch
end

/-! ### the judgements -/
/-- an exception: its class, its own dict's address (where it has one), the abstract heap behind it -/
abbrev XK := Value → Option Addr → Hp → Prop
abbrev St := List (Option V)
abbrev VK := V → Hp → Prop
/-- an expression's reading; a test's; an argument list's -/
abbrev TE := St → Hp → VK → Prop
abbrev TT := St → Hp → (Bool → Hp → Prop) → Prop
abbrev TA := St → Hp → (List V → Hp → Prop) → Prop
/-- what is wanted behind a statement -/
structure Ends where
  nx : St → Hp → Prop
  rt : VK
  bk : St → Hp → Prop := fun _ _ => False
  ct : St → Hp → Prop := fun _ _ => False
abbrev TS := Ends → St → Hp → Prop

def EP (X : Cx) (pins : List (Addr × Obj)) (σ : St) (Q : VK) (u : Value) (s' : Shared) : Prop := ∃ v H', Inv X pins σ H' s' ∧ RelV v u ∧ Q v H'
def TP (X : Cx) (pins : List (Addr × Obj)) (σ : St) (Q : Bool → Hp → Prop) (b : Bool) (s' : Shared) : Prop := ∃ H', Inv X pins σ H' s' ∧ Q b H'
def AP (X : Cx) (pins : List (Addr × Obj)) (σ : St) (Q : List V → Hp → Prop) (us : List Value) (s' : Shared) : Prop := ∃ vs H', Inv X pins σ H' s' ∧ Vals vs us ∧ Q vs H'
def SP (X : Cx) (pins : List (Addr × Obj)) (D : Ends) (f : Flow) (s' : Shared) : Prop :=
  match f with
  | .next => ∃ σ' H', Inv X pins σ' H' s' ∧ D.nx σ' H'
  | .brk => ∃ σ' H', Inv X pins σ' H' s' ∧ D.bk σ' H'
  | .cont => ∃ σ' H', Inv X pins σ' H' s' ∧ D.ct σ' H'
  | .ret u => ∃ v σ' H', Inv X pins σ' H' s' ∧ RelV v u ∧ D.rt v H'

def PE (X : Cx) (e : Expr) (t : TE) : Prop :=
  ∀ (pins : List (Addr × Obj)) (s : Shared) (σ : St) (H : Hp) (Q : VK), Inv X pins σ H s → t σ H Q → wpAny (model X.prog X.w) X.A (eval e X.env) (EP X pins σ Q) X.xe s
def PT (X : Cx) (e : Expr) (t : TT) : Prop :=
  ∀ (pins : List (Addr × Obj)) (s : Shared) (σ : St) (H : Hp) (Q : Bool → Hp → Prop), Inv X pins σ H s → t σ H Q → wpAny (model X.prog X.w) X.A (isTrue e X.env (eval e X.env)) (TP X pins σ Q) X.xe s
/-- a test whatever its 'whole' is (and, or) -/
def PW (X : Cx) (e : Expr) (t : TT) : Prop :=
  ∀ (whole : Sem Value) (pins : List (Addr × Obj)) (s : Shared) (σ : St) (H : Hp) (Q : Bool → Hp → Prop), Inv X pins σ H s → t σ H Q → wpAny (model X.prog X.w) X.A (isTrue e X.env whole) (TP X pins σ Q) X.xe s
theorem PW.pt {X : Cx} {e : Expr} {t : TT} (h : PW X e t) : PT X e t := h _
/-- an argument list (no star), from the left -/
def PA (X : Cx) (es : List Expr) (t : TA) : Prop :=
  ∀ (pos : Pos) (pins : List (Addr × Obj)) (s : Shared) (σ : St) (H : Hp) (Q : List V → Hp → Prop), Inv X pins σ H s → t σ H Q → wpAny (model X.prog X.w) X.A (spliced (backTo pos (starEach es X.env))) (AP X pins σ Q) X.xe s
def PS (X : Cx) (st : Stmt) (t : TS) : Prop :=
  ∀ (pins : List (Addr × Obj)) (s : Shared) (σ : St) (H : Hp) (D : Ends), Inv X pins σ H s → t D σ H → wpAny (model X.prog X.w) X.A (exec st X.env) (SP X pins D) X.xe s
def PSs (X : Cx) (st : List Stmt) (t : TS) : Prop :=
  ∀ (pins : List (Addr × Obj)) (s : Shared) (σ : St) (H : Hp) (D : Ends), Inv X pins σ H s → t D σ H → wpAny (model X.prog X.w) X.A (execs st X.env) (SP X pins D) X.xe s
/-- weaken the end -/
theorem thn {α : Type} {t : Sem α} {Q Q' : α → Shared → Prop} {M : Model} {A : Around} {E : Value → Shared → Prop} {s : Shared} (h : wpAny M A t Q E s) (hQ : ∀ a s, Q a s → Q' a s) : wpAny M A t Q' E s := wpAny_mono h hQ fun _ _ x => x
end L2

namespace L2
open PySem PySem.Spec PyProof.Rows
section
variable {X : Cx}

/-- two expressions in a row -/
theorem bin {a b : Expr} {ta tb : TE} (ha : PE X a ta) (hb : PE X b tb) {pins : List (Addr × Obj)} {s : Shared} {σ : St} {H : Hp} {R : V → V → Hp → Prop} (I : Inv X pins σ H s) (h : ta σ H fun x H1 => tb σ H1 fun y H2 => R x y H2)
    {α : Type} {Q : α → Shared → Prop} {f : Value → Value → Sem α}
    (hf : ∀ v u s2 x y H2, Inv X pins σ H2 s2 → RelV x v → RelV y u → R x y H2 → wpAny (model X.prog X.w) X.A (f v u) Q X.xe s2) :
    wpAny (model X.prog X.w) X.A (eval a X.env) (fun v s₁ => wpAny (model X.prog X.w) X.A (eval b X.env) (fun u s₂ => wpAny (model X.prog X.w) X.A (f v u) Q X.xe s₂) X.xe s₁) X.xe s := by
  refine thn (ha pins s σ H _ I h) fun v s1 ⟨x, H1, I1, r1, q1⟩ => ?_
  refine thn (hb pins s1 σ H1 _ I1 q1) fun u s2 ⟨y, H2, I2, r2, q2⟩ => ?_
  exact hf v u s2 x y H2 I2 r1 r2 q2

/-! ### names and constants -/
def tVar (i : Nat) : TE := fun σ H Q => ∃ v, σ[i]? = some (some v) ∧ Q v H
def tC (v : V) : TE := fun _ H Q => Q v H
theorem pe_var {i : Nat} {x : Str} {pos : Pos} (hN : X.N[i]? = some x) (hv : Vis X.env.scope x) (hd : (x == ("__debug__" : Str)) = false := by decide) (hcd : (x == ("__classdict__" : Str)) = false := by decide) : PE X (.Name x pos) (tVar i) := by
  intro pins s σ H Q I h
  obtain ⟨v, e, h⟩ := h
  obtain ⟨m, hn, hl⟩ := I.loc
  obtain ⟨u, r, l⟩ := hl i x v hN e hv
  have fin : EP X pins σ Q u s := ⟨v, H, I, r, h⟩
  rcases l with ⟨hk, hm⟩ | ⟨hk, c, hc, hcell⟩
  · exact wpAny_Name (wpAny_loadName_local I.ok.kind hk hn hm fin) hd
  · rcases hk with hk | hk
    · exact wpAny_Name (wpAny_loadName_cell I.ok.kind hk hc hcell fin) hd
    · exact wpAny_Name (wpAny_loadName_free I.ok.kind hk hc hcell fin hcd) hd
theorem pe_int {i j pos} : PE X (.Constant (.int i) j pos) (tC (.int i)) := fun _ _ _ H _ I h => wpAny_Constant_int ⟨.int i, H, I.tok _, ⟨_, rfl⟩, h⟩
theorem pe_bl {b j pos} : PE X (.Constant (.bool b) j pos) (tC (.bl b)) := fun _ _ _ H _ I h => Constant_bool ⟨.bl b, H, I, rfl, h⟩
theorem pe_non {j pos} : PE X (.Constant .none j pos) (tC .non) := fun _ _ _ H _ I h => Constant_none ⟨.non, H, I, rfl, h⟩
theorem pe_str {x j pos} : PE X (.Constant (.str x) j pos) (tC (.str x)) := fun _ _ _ H _ I h => Calls.Constant_str ⟨.str x, H, I.tok _, ⟨_, rfl⟩, h⟩

/-- a global name of the def -/
def Gl (X : Cx) (x : Str) : Prop := X.env.kindOf x = some .globalImplicit
theorem ld_glob {E : Value → Shared → Prop} {pins : List (Addr × Obj)} {s : Shared} {σ : St} {H : Hp} {x : Str} {u : Value} {pos : Pos} {Q : Value → Shared → Prop} (I : Inv X pins σ H s) (hg : Gl X x) (hm : X.mg x = some u) (h : Q u s)
    (hd : (x == ("__debug__" : Str)) = false := by decide) : wpAny (model X.prog X.w) X.A (eval (.Name x pos) X.env) Q E s :=
  Calls.Name_function_global I.ok.kind hg (Calls.loadGlobal_global (by rw [I.ok.glob]; exact I.mod.glob.keeps I.bk) hm h) hd
theorem ld_blt {E : Value → Shared → Prop} {pins : List (Addr × Obj)} {s : Shared} {σ : St} {H : Hp} {x : Str} {u : Value} {pos : Pos} {Q : Value → Shared → Prop} (I : Inv X pins σ H s) (hg : Gl X x) (hm : X.mg x = none) (hv : bootBuiltins x = some u) (h : Q u s)
    (hn : x ≠ "__name__" := by decide) (hd : (x == ("__debug__" : Str)) = false := by decide) : wpAny (model X.prog X.w) X.A (eval (.Name x pos) X.env) Q E s := by
  obtain ⟨mb, h1, h2⟩ := I.mod.blt
  exact Calls.Name_function_global I.ok.kind hg (Calls.loadGlobal_builtin (by rw [I.ok.glob]; exact I.mod.glob.keeps I.bk) hm (by rw [I.ok.blt]; exact h1.keeps I.bk) ((h2 x hn).trans hv) h) hd
/-- a module's constant, a class, a function, as a value -/
theorem pe_glob {x : Str} {v : V} {u : Value} {pos : Pos} (hg : Gl X x) (hm : X.mg x = some u) (r : RelV v u) (hd : (x == ("__debug__" : Str)) = false := by decide) : PE X (.Name x pos) (tC v) :=
  fun _ _ _ H _ I h => ld_glob I hg hm ⟨v, H, I, r, h⟩ hd
theorem pe_bltn {x : Str} {v : V} {u : Value} {pos : Pos} (hg : Gl X x) (hm : X.mg x = none) (hv : bootBuiltins x = some u) (r : RelV v u) (hn : x ≠ "__name__" := by decide) (hd : (x == ("__debug__" : Str)) = false := by decide) : PE X (.Name x pos) (tC v) :=
  fun _ _ _ H _ I h => ld_blt I hg hm hv ⟨v, H, I, r, h⟩ hn hd

/-! ### arithmetic -/
/-- two ints -/
def t2I (ta tb : TE) (k : Int → Int → Hp → Prop) : St → Hp → Prop := fun σ H => ta σ H fun x H1 => tb σ H1 fun y H2 => ∃ i j, x = .int i ∧ y = .int j ∧ k i j H2
def tAdd (ta tb : TE) : TE := fun σ H Q => t2I ta tb (fun i j H2 => Q (.int (i + j)) H2) σ H
def tSub (ta tb : TE) : TE := fun σ H Q => t2I ta tb (fun i j H2 => Q (.int (i - j)) H2) σ H
/-- the left factor below 2^64 -/
def tMul (ta tb : TE) : TE := fun σ H Q => t2I ta tb (fun i j H2 => (-(2 ^ 64) < i ∧ i < 2 ^ 64) ∧ Q (.int (i * j)) H2) σ H
variable {a b : Expr} {ta tb : TE} {pos : Pos}
theorem pe_add (ha : PE X a ta) (hb : PE X b tb) : PE X (.BinOp a .Add b pos) (tAdd ta tb) := by
  intro pins s σ H Q I h
  refine wpAny_BinOp (bin ha hb I h fun v u s2 x y H2 I2 rx ry q => ?_)
  obtain ⟨i, j, rfl, rfl, q⟩ := q
  obtain ⟨t, rfl⟩ := rx
  obtain ⟨t', rfl⟩ := ry
  exact add_int ⟨.int _, H2, I2.tok _, ⟨_, rfl⟩, q⟩
theorem pe_sub (ha : PE X a ta) (hb : PE X b tb) : PE X (.BinOp a .Sub b pos) (tSub ta tb) := by
  intro pins s σ H Q I h
  refine wpAny_BinOp (bin ha hb I h fun v u s2 x y H2 I2 rx ry q => ?_)
  obtain ⟨i, j, rfl, rfl, q⟩ := q
  obtain ⟨t, rfl⟩ := rx
  obtain ⟨t', rfl⟩ := ry
  exact sub_int ⟨.int _, H2, I2.tok _, ⟨_, rfl⟩, q⟩
theorem pe_mul (ha : PE X a ta) (hb : PE X b tb) : PE X (.BinOp a .Mult b pos) (tMul ta tb) := by
  intro pins s σ H Q I h
  refine wpAny_BinOp (bin ha hb I h fun v u s2 x y H2 I2 rx ry q => ?_)
  obtain ⟨i, j, rfl, rfl, ⟨q1, q2⟩, q⟩ := q
  obtain ⟨t, rfl⟩ := rx
  obtain ⟨t', rfl⟩ := ry
  exact mul_int ⟨.int _, H2, I2.tok _, ⟨_, rfl⟩, q⟩ (.of_left (intBits_le_64 q1 q2))

/-! ### comparisons -/
def PC (X : Cx) (op : CmpOp) (a b : Expr) (t : TE) : Prop :=
  ∀ (pins : List (Addr × Obj)) (s : Shared) (σ : St) (H : Hp) (Q : VK), Inv X pins σ H s → t σ H Q →
    wpAny (model X.prog X.w) X.A (eval a X.env) (fun v s₁ => wpAny (model X.prog X.w) X.A (eval b X.env) (fun u s₂ => wpAny (model X.prog X.w) X.A (compareOp op v u) (EP X pins σ Q) X.xe s₂) X.xe s₁) X.xe s
theorem nobehind (b : Expr) {op : CmpOp} (h : op ≠ .In) (h2 : op ≠ .NotIn) : behindInMarks op b = false := by
  have e1 : (op == CmpOp.In) = false := by cases op <;> first | rfl | exact absurd rfl h
  have e2 : (op == CmpOp.NotIn) = false := by cases op <;> first | rfl | exact absurd rfl h2
  cases b <;> simp [behindInMarks, e1, e2]
def tCmp (p : Int → Int → Bool) (ta tb : TE) : TE := fun σ H Q => t2I ta tb (fun i j H2 => Q (.bl (p i j)) H2) σ H
abbrev tLt : TE → TE → TE := tCmp fun i j => decide (i < j)
abbrev tLe : TE → TE → TE := tCmp fun i j => decide (i ≤ j)
abbrev tGt : TE → TE → TE := tCmp fun i j => decide (j < i)
abbrev tGe : TE → TE → TE := tCmp fun i j => decide (j ≤ i)
abbrev tEqI : TE → TE → TE := tCmp fun i j => decide (i = j)
abbrev tNeI : TE → TE → TE := tCmp fun i j => !decide (i = j)
/-- a comparison of two ints, by its rule -/
theorem pc_int {op : CmpOp} {p : Int → Int → Bool} (ha : PE X a ta) (hb : PE X b tb)
    (rule : ∀ (i j : Int) (t u : Tok) (Q : Value → Shared → Prop) (s : Shared), Q (.bool (p i j)) s → wpAny (model X.prog X.w) X.A (compareOp op (.int i t) (.int j u)) Q X.xe s) : PC X op a b (tCmp p ta tb) := by
  intro pins s σ H Q I h
  refine bin ha hb I h fun v u s2 x y H2 I2 rx ry q => ?_
  obtain ⟨i, j, rfl, rfl, q⟩ := q
  obtain ⟨t, rfl⟩ := rx
  obtain ⟨t', rfl⟩ := ry
  exact rule i j t t' _ s2 ⟨.bl _, H2, I2, rfl, q⟩
theorem pc_lt (ha : PE X a ta) (hb : PE X b tb) : PC X .Lt a b (tLt ta tb) := pc_int ha hb fun _ _ _ _ _ _ h => lt_int h
theorem pc_le (ha : PE X a ta) (hb : PE X b tb) : PC X .LtE a b (tLe ta tb) := pc_int ha hb fun _ _ _ _ _ _ h => le_int h
theorem pc_gt (ha : PE X a ta) (hb : PE X b tb) : PC X .Gt a b (tGt ta tb) := pc_int ha hb fun _ _ _ _ _ _ h => gt_int h
theorem pc_ge (ha : PE X a ta) (hb : PE X b tb) : PC X .GtE a b (tGe ta tb) := pc_int ha hb fun _ _ _ _ _ _ h => ge_int h
theorem pc_eqI (ha : PE X a ta) (hb : PE X b tb) : PC X .Eq a b (tEqI ta tb) := pc_int ha hb fun _ _ _ _ _ _ h => eq_int (by rw [Bool.beq_eq_decide_eq]; exact h)
theorem pc_neI (ha : PE X a ta) (hb : PE X b tb) : PC X .NotEq a b (tNeI ta tb) := pc_int ha hb fun _ _ _ _ _ _ h => ne_int (by rw [bne, Bool.beq_eq_decide_eq]; exact h)
/-- is None -/
def tIsN (ta : TE) : TE := fun σ H Q => ta σ H fun x H1 => Q (.bl (decide (x = .non))) H1
def tNotN (ta : TE) : TE := fun σ H Q => ta σ H fun x H1 => Q (.bl (!decide (x = .non))) H1
theorem RelV.none_iff {x : V} {v : Value} (r : RelV x v) : (v == Value.none) = decide (x = .non) := by
  cases x with
  | non => cases r; rfl
  | bl _ => cases r; rfl
  | int _ => obtain ⟨t, rfl⟩ := r; rfl
  | str _ => obtain ⟨t, rfl⟩ := r; rfl
  | byt _ => obtain ⟨t, rfl⟩ := r; rfl
  | flt _ => obtain ⟨t, rfl⟩ := r; rfl
  | ref _ => cases r; rfl
  | ty _ => cases r; rfl
theorem pc_isN {j pos'} (ha : PE X a ta) : PC X .Is a (.Constant .none j pos') (tIsN ta) := by
  intro pins s σ H Q I h
  refine thn (ha pins s σ H _ I h) fun v s1 ⟨x, H1, I1, r1, q1⟩ => ?_
  exact Constant_none (is_none_gen ⟨.bl _, H1, I1, by rw [r1.none_iff]; rfl, q1⟩)
theorem pc_notN {j pos'} (ha : PE X a ta) : PC X .IsNot a (.Constant .none j pos') (tNotN ta) := by
  intro pins s σ H Q I h
  refine thn (ha pins s σ H _ I h) fun v s1 ⟨x, H1, I1, r1, q1⟩ => ?_
  exact Constant_none (isnot_none_gen ⟨.bl _, H1, I1, by rw [r1.none_iff]; rfl, q1⟩)
/-- a comparison as a value, as a test -/
def tB (t : TE) : TT := fun σ H Q => t σ H fun x H1 => ∃ c, x = .bl c ∧ Q c H1
theorem pe_cmp {op : CmpOp} {t : TE} (h : PC X op a b t) (h1 : behindInMarks op b = false := by first | exact nobehind _ (by decide) (by decide) | rfl) : PE X (.Compare a [op] [b] pos) t := fun pins s σ H Q I hw => wpAny_Compare1 (h pins s σ H Q I hw) h1
theorem pt_cmp {op : CmpOp} {t : TE} (h : PC X op a b t) (h1 : behindInMarks op b = false := by first | exact nobehind _ (by decide) (by decide) | rfl) : PT X (.Compare a [op] [b] pos) (tB t) := by
  intro pins s σ H Q I hw
  refine wpAny_isTrue_Compare1 (thn (h pins s σ H _ I hw) fun v s1 h1 => thn h1 fun u s2 h2 => thn h2 fun c s3 ⟨x, H1, I1, r1, q1⟩ => ?_) h1
  obtain ⟨d, rfl, q⟩ := q1
  cases r1
  exact wpAny_truthy_bool ⟨H1, I1, q⟩
/-- an expression whose value is a bool, as a test -/
theorem pt_val {e : Expr} {t : TE} (h : PE X e t) (he : ∀ whole, isTrue e X.env whole = (do let v ← whole; standAt e.pos; holding [v] (truthy v)) := by intro _; rfl) : PT X e (tB t) := by
  intro pins s σ H Q I hw
  refine isTrue_plain (thn (h pins s σ H _ I hw) fun v s1 ⟨x, H1, I1, r1, q1⟩ => ?_) (he _)
  obtain ⟨d, rfl, q⟩ := q1
  cases r1
  exact wpAny_truthy_bool ⟨H1, I1, q⟩

/-! ### and, or, not -/
variable {tA tB' : TT} {rest : List Expr}
def tAnd (t u : TT) : TT := fun σ H Q => t σ H fun c H1 => if c = true then u σ H1 Q else Q false H1
def tOr (t u : TT) : TT := fun σ H Q => t σ H fun c H1 => if c = true then Q true H1 else u σ H1 Q
def tNot (t : TT) : TT := fun σ H Q => t σ H fun c H1 => Q (!c) H1
theorem pw_and1 (ha : PT X a tA) : PW X (.BoolOp .And [a] pos) tA := by
  intro wh pins s σ H Q I h
  refine isTrue_and (thn (ha pins s σ H Q I h) fun c s1 e => ?_)
  cases c with
  | true => exact isTrue_and_nil e
  | false => exact e
theorem pw_or1 (ha : PT X a tA) : PW X (.BoolOp .Or [a] pos) tA := by
  intro wh pins s σ H Q I h
  refine isTrue_or (thn (ha pins s σ H Q I h) fun c s1 e => ?_)
  cases c with
  | false => exact isTrue_or_nil e
  | true => exact e
theorem pw_and (ha : PT X a tA) (hb : PW X (.BoolOp .And (b :: rest) pos) tB') : PW X (.BoolOp .And (a :: b :: rest) pos) (tAnd tA tB') := by
  intro wh pins s σ H Q I h
  refine isTrue_and (thn (ha pins s σ H _ I h) fun c s1 ⟨H1, I1, q1⟩ => ?_)
  cases c with
  | true => exact hb wh pins s1 σ H1 Q I1 q1
  | false => exact ⟨H1, I1, q1⟩
theorem pw_or (ha : PT X a tA) (hb : PW X (.BoolOp .Or (b :: rest) pos) tB') : PW X (.BoolOp .Or (a :: b :: rest) pos) (tOr tA tB') := by
  intro wh pins s σ H Q I h
  refine isTrue_or (thn (ha pins s σ H _ I h) fun c s1 ⟨H1, I1, q1⟩ => ?_)
  cases c with
  | true => exact ⟨H1, I1, q1⟩
  | false => exact hb wh pins s1 σ H1 Q I1 q1
theorem pt_not (ha : PT X a tA) : PT X (.UnaryOp .Not a pos) (tNot tA) := by
  intro pins s σ H Q I h
  exact isTrue_not (ha pins s σ H (fun c H1 => Q (!c) H1) I h)
/-- .. as values (bools) -/
def tAndV (ta tb : TE) : TE := fun σ H Q => ta σ H fun x H1 => ∃ c, x = .bl c ∧ if c = true then tb σ H1 Q else Q (.bl false) H1
def tOrV (ta tb : TE) : TE := fun σ H Q => ta σ H fun x H1 => ∃ c, x = .bl c ∧ if c = true then Q (.bl true) H1 else tb σ H1 Q
def tNotV (ta : TE) : TE := fun σ H Q => ta σ H fun x H1 => ∃ c, x = .bl c ∧ Q (.bl (!c)) H1
theorem pe_one {op} {t : TE} (h : PE X a t) : PE X (.BoolOp op [a] pos) t := fun pins s σ H Q I hw => BoolOp_one (h pins s σ H Q I hw)
theorem pe_and (ha : PE X a ta) (hb : PE X (.BoolOp .And (b :: rest) pos) tb) : PE X (.BoolOp .And (a :: b :: rest) pos) (tAndV ta tb) := by
  intro pins s σ H Q I h
  refine BoolOp_and (thn (ha pins s σ H _ I h) fun v s1 ⟨x, H1, I1, r1, q1⟩ => ?_)
  obtain ⟨c, rfl, q1⟩ := q1
  cases r1
  refine wpAny_truthy_bool ?_
  cases c with
  | true => exact hb pins s1 σ H1 Q I1 q1
  | false => exact ⟨.bl false, H1, I1, rfl, q1⟩
theorem pe_or (ha : PE X a ta) (hb : PE X (.BoolOp .Or (b :: rest) pos) tb) : PE X (.BoolOp .Or (a :: b :: rest) pos) (tOrV ta tb) := by
  intro pins s σ H Q I h
  refine BoolOp_or (thn (ha pins s σ H _ I h) fun v s1 ⟨x, H1, I1, r1, q1⟩ => ?_)
  obtain ⟨c, rfl, q1⟩ := q1
  cases r1
  refine wpAny_truthy_bool ?_
  cases c with
  | false => exact hb pins s1 σ H1 Q I1 q1
  | true => exact ⟨.bl true, H1, I1, rfl, q1⟩
theorem pe_not (ha : PE X a ta) : PE X (.UnaryOp .Not a pos) (tNotV ta) := by
  intro pins s σ H Q I h
  refine UnaryOp_ (thn (ha pins s σ H _ I h) fun v s1 ⟨x, H1, I1, r1, q1⟩ => ?_)
  obtain ⟨c, rfl, q1⟩ := q1
  cases r1
  exact not_of (wpAny_truthy_bool ⟨.bl (!c), H1, I1, rfl, q1⟩)
/-- a if t else b -/
def tIf (t : TT) (ta tb : TE) : TE := fun σ H Q => t σ H fun c H1 => if c = true then ta σ H1 Q else tb σ H1 Q
theorem pe_ifExp {c : Expr} (hc : PT X c tA) (ha : PE X a ta) (hb : PE X b tb) : PE X (.IfExp c a b pos) (tIf tA ta tb) := by
  intro pins s σ H Q I h
  refine wpAny_IfExp (thn (hc pins s σ H _ I h) fun d s1 ⟨H1, I1, q1⟩ => ?_)
  cases d with
  | true => exact ha pins s1 σ H1 Q I1 q1
  | false => exact hb pins s1 σ H1 Q I1 q1
end
end L2

namespace L2
open PySem PySem.Spec PyProof.Rows

/-! ### a list, a tuple that is read: tracked, frozen, or an object of the module -/
def SqL (K : PySem.W.Frag) (H : Hp) (a : Addr) (xs : List V) : Prop :=
  Rd H a (.lst xs) ∨
    ∃ (o : Obj) (its : Array Value) (n : Nat), K.lookup a = some o ∧ o.cls = .type "list" ∧ o.dict = none ∧ o.data = .seq its n ∧ its.size ≤ sizeLine ∧ Vals xs its.toList
def SqT (K : PySem.W.Frag) (H : Hp) (a : Addr) (xs : List V) : Prop :=
  Rd H a (.tup xs) ∨
    ∃ (o : Obj) (its : Array Value) (n : Nat), K.lookup a = some o ∧ o.cls = .type "tuple" ∧ o.data = .seq its n ∧ its.size ≤ sizeLine ∧ Vals xs its.toList
def absV : Value → Option V
  | .none => some .non
  | .bool b => some (.bl b)
  | .int i _ => some (.int i)
  | .str x _ => some (.str x)
  | .bytes b _ => some (.byt b)
  | .float b _ => some (.flt b)
  | .ref a => some (.ref a)
  | .type n => some (.ty n)
  | _ => none
theorem RelV.abs {x : V} {u : Value} (r : RelV x u) : absV u = some x := by
  cases x with
  | non => cases r; rfl
  | bl _ => cases r; rfl
  | int _ => obtain ⟨t, rfl⟩ := r; rfl
  | str _ => obtain ⟨t, rfl⟩ := r; rfl
  | byt _ => obtain ⟨t, rfl⟩ := r; rfl
  | flt _ => obtain ⟨t, rfl⟩ := r; rfl
  | ref _ => cases r; rfl
  | ty _ => cases r; rfl
theorem RelV.inj {x y : V} {u : Value} (r : RelV x u) (q : RelV y u) : x = y := Option.some.inj (r.abs.symm.trans q.abs)
theorem Vals.inj : ∀ {xs ys : List V} {us : List Value}, Vals xs us → Vals ys us → xs = ys
  | _, _, _, .nil, .nil => rfl
  | _, _, _, .cons r t, .cons r' t' => by rw [r.inj r', Vals.inj t t']
section
variable {X : Cx} {pins : List (Addr × Obj)} {σ : St} {H : Hp} {s : Shared} {a : Addr} {xs ys : List V}
theorem SqL.of {K : PySem.W.Frag} (h : H a = some (.lst xs)) : SqL K H a xs := .inl (.inl h)
theorem SqT.of {K : PySem.W.Frag} (h : H a = some (.tup xs)) : SqT K H a xs := .inl (.inl h)
theorem Inv.list (I : Inv X pins σ H s) (h : SqL X.K H a xs) : ∃ its : List Value, Vals xs its ∧ PlainL s.heap a its.toArray ∧ xs.length ≤ sizeLine := by
  rcases h with h | ⟨o, its, n, hk, hc, hd, hs, hz, r⟩
  · obtain ⟨z, its, n, r, e⟩ := h.ok I.hok
    exact ⟨its, r, ⟨_, n, e, rfl, rfl, rfl⟩, z⟩
  · refine ⟨its.toList, r, ⟨o, n, I.kIn a o hk, hc, hd, by simpa using hs⟩, ?_⟩
    have e := r.length
    simp only [Array.length_toList] at e
    omega
theorem Inv.tuple (I : Inv X pins σ H s) (h : SqT X.K H a xs) : ∃ its : List Value, Vals xs its ∧ IsTup s.heap a its.toArray ∧ xs.length ≤ sizeLine := by
  rcases h with h | ⟨o, its, n, hk, hc, hs, hz, r⟩
  · obtain ⟨z, its, r, p⟩ := h.ok I.hok
    exact ⟨its, r, p, z⟩
  · refine ⟨its.toList, r, ⟨o, I.kIn a o hk, hc, n, by simpa using hs⟩, ?_⟩
    have e := r.length
    simp only [Array.length_toList] at e
    omega
theorem Inv.list_inj (I : Inv X pins σ H s) (h : SqL X.K H a xs) (h' : SqL X.K H a ys) : xs = ys := by
  obtain ⟨its, r, ⟨o, n, e, _, _, d⟩, _⟩ := I.list h
  obtain ⟨its', r', ⟨o', n', e', _, _, d'⟩, _⟩ := I.list h'
  rw [e] at e'; cases e'
  rw [d] at d'
  injection d' with d1 _
  have : its = its' := by simpa using congrArg Array.toList d1
  subst this
  exact r.inj r'
theorem Inv.tuple_inj (I : Inv X pins σ H s) (h : SqT X.K H a xs) (h' : SqT X.K H a ys) : xs = ys := by
  obtain ⟨its, r, ⟨o, e, _, n, d⟩, _⟩ := I.tuple h
  obtain ⟨its', r', ⟨o', e', _, n', d'⟩, _⟩ := I.tuple h'
  rw [e] at e'; cases e'
  rw [d] at d'
  injection d' with d1 _
  have : its = its' := by simpa using congrArg Array.toList d1
  subst this
  exact r.inj r'
end

/-! ### another wish about exceptions -/
abbrev Cx.wish (X : Cx) (E : Value → Shared → Prop) : Cx := { X with xe := E }
/-- no exception leaves -/
abbrev Cx.nox (X : Cx) : Cx := X.wish fun _ _ => False
theorem Cx.Ok.wish {X : Cx} (ok : X.Ok) (E : Value → Shared → Prop) : (X.wish E).Ok :=
  ⟨ok.mod, ok.kind, ok.glob, ok.blt, ok.above, ok.inj, ok.has, ok.cab, ok.hd, ok.frames, ok.stk, ok.exf, ok.bs, ok.bsz, ok.noex, ok.exfs, ok.funs, ok.frf⟩
theorem Cx.Ok.unwish {X : Cx} {E : Value → Shared → Prop} (ok : (X.wish E).Ok) : X.Ok :=
  ⟨ok.mod, ok.kind, ok.glob, ok.blt, ok.above, ok.inj, ok.has, ok.cab, ok.hd, ok.frames, ok.stk, ok.exf, ok.bs, ok.bsz, ok.noex, ok.exfs, ok.funs, ok.frf⟩
section
variable {X : Cx} {pins : List (Addr × Obj)} {σ : St} {H : Hp} {s : Shared} {E : Value → Shared → Prop}
theorem Inv.wish (I : Inv X pins σ H s) (E : Value → Shared → Prop) : Inv (X.wish E) pins σ H s := ⟨I.ok.wish E, I.os, I.bare, I.base, I.loc, I.cell, I.free, I.freeC, I.pin, I.hok, I.len⟩
theorem Inv.unwish (I : Inv (X.wish E) pins σ H s) : Inv X pins σ H s := ⟨I.ok.unwish, I.os, I.bare, I.base, I.loc, I.cell, I.free, I.freeC, I.pin, I.hok, I.len⟩
theorem SP.unwish {D : Ends} {f : Flow} {s' : Shared} (h : SP (X.wish E) pins D f s') : SP X pins D f s' := by
  cases f with
  | next => obtain ⟨σ', H', I, q⟩ := h; exact ⟨σ', H', I.unwish, q⟩
  | brk => obtain ⟨σ', H', I, q⟩ := h; exact ⟨σ', H', I.unwish, q⟩
  | cont => obtain ⟨σ', H', I, q⟩ := h; exact ⟨σ', H', I.unwish, q⟩
  | ret u => obtain ⟨v, σ', H', I, r, q⟩ := h; exact ⟨v, σ', H', I.unwish, r, q⟩
theorem PE.nox {e : Expr} {t : TE} (h : PE X.nox e t) : PE X e t := fun pins s σ H Q I hw =>
  wpAny_mono (h pins s σ H Q (I.wish _) hw) (fun _ _ ⟨v, H', I', r, q⟩ => ⟨v, H', I'.unwish, r, q⟩) fun _ _ z => False.elim z
theorem PT.nox {e : Expr} {t : TT} (h : PT X.nox e t) : PT X e t := fun pins s σ H Q I hw =>
  wpAny_mono (h pins s σ H Q (I.wish _) hw) (fun _ _ ⟨H', I', q⟩ => ⟨H', I'.unwish, q⟩) fun _ _ z => False.elim z
theorem PSs.nox {st : List Stmt} {t : TS} (h : PSs X.nox st t) : PSs X st t := fun pins s σ H D I hw =>
  wpAny_mono (h pins s σ H D (I.wish _) hw) (fun _ _ q => q.unwish) fun _ _ z => False.elim z
end

/-! ### blocks and small statements -/
section
variable {X : Cx} {st : Stmt} {rest : List Stmt} {t u : TS} {e : Expr} {te : TE} {pos : Pos}
def tNext : TS := fun D σ H => D.nx σ H
def tSeq (t u : TS) : TS := fun D σ H => t { D with nx := u D } σ H
theorem pss_nil : PSs X [] tNext := fun _ _ σ H _ I h => wpAny_execs_nil ⟨σ, H, I, h⟩
theorem pss_cons (h1 : PS X st t) (h2 : PSs X rest u) : PSs X (st :: rest) (tSeq t u) := by
  intro pins s σ H D I h
  refine wpAny_execs_cons (thn (h1 pins s σ H { D with nx := u D } I h) fun f s1 q => ?_)
  cases f with
  | next =>
    obtain ⟨σ', H', I', q⟩ := q
    exact h2 pins s1 σ' H' D I' q
  | ret v => exact q
  | brk => exact q
  | cont => exact q
theorem pss_one (h1 : PS X st t) : PSs X [st] t := by
  intro pins s σ H D I h
  refine wpAny_execs_cons (thn (h1 pins s σ H D I h) fun f s1 q => ?_)
  cases f with
  | next => exact wpAny_execs_nil q
  | ret v => exact q
  | brk => exact q
  | cont => exact q
def tBreak : TS := fun D σ H => D.bk σ H
def tCont : TS := fun D σ H => D.ct σ H
theorem ps_pass : PS X (.Pass pos) tNext := fun _ _ σ H _ I h => wpAny_Pass ⟨σ, H, I, h⟩
theorem ps_break : PS X (.Break pos) tBreak := fun _ _ σ H _ I h => wpAny_Break ⟨σ, H, I, h⟩
theorem ps_continue : PS X (.Continue pos) tCont := fun _ _ σ H _ I h => wpAny_Continue ⟨σ, H, I, h⟩
/-- in a def's body nothing is shown -/
theorem Inv.quiet {pins : List (Addr × Obj)} {σ : St} {H : Hp} {s : Shared} (I : Inv X pins σ H s) : interactive X.env = false := by simp [interactive, I.ok.kind]
/-- a docstring -/
theorem ps_doc {x j pos pos'} : PS X (.Expr (.Constant (.str x) j pos) pos') tNext := fun _ s σ H _ I h => wpAny_Expr (Calls.Constant_str (show SP X _ _ .next { s with toks := s.toks + 1 } from ⟨σ, H, I.tok _, h⟩)) I.quiet
/-- an expression whose value is dropped -/
def tDrop (te : TE) : TS := fun D σ H => te σ H fun _ H1 => D.nx σ H1
theorem ps_expr (he : PE X e te) (hs : swapsWith e none pos.line X.env = pure false := by rfl) : PS X (.Expr e pos) (tDrop te) := by
  intro pins s σ H D I h
  exact wpAny_Expr_any (thn (he pins s σ H _ I h) fun v s1 ⟨x, H1, I1, r1, q1⟩ => ⟨σ, H1, I1, q1⟩) I.quiet hs
def tRet (te : TE) : TS := fun D σ H => te σ H D.rt
theorem ps_ret (he : PE X e te) : PS X (.Return (some e) pos) (tRet te) := by
  intro pins s σ H D I h
  exact wpAny_Return_some (thn (he pins s σ H _ I h) fun v s1 ⟨x, H1, I1, r1, q1⟩ => ⟨x, σ, H1, I1, r1, q1⟩)
def tRetN : TS := fun D _ H => D.rt .non H
theorem ps_retN : PS X (.Return none pos) tRetN := fun _ _ σ H _ I h => wpAny_Return_none ⟨.non, σ, H, I, rfl, h⟩
def tIfS (c : TT) (t u : TS) : TS := fun D σ H => c σ H fun b H1 => if b = true then t D σ H1 else u D σ H1
theorem ps_if {c : Expr} {a b : List Stmt} {tc : TT} (hc : PT X c tc) (ha : PSs X a t) (hb : PSs X b u) : PS X (.If c a b pos) (tIfS tc t u) := by
  intro pins s σ H D I h
  refine wpAny_If (thn (hc pins s σ H _ I h) fun d s1 ⟨H1, I1, q1⟩ => ?_)
  cases d with
  | true => exact ha pins s1 σ H1 D I1 q1
  | false => exact hb pins s1 σ H1 D I1 q1
/-- code that the proof never comes to -/
def tNever : TS := fun _ _ _ => False
theorem ps_never : PS X st tNever := fun _ _ _ _ _ _ h => h.elim
theorem pss_never {sts : List Stmt} : PSs X sts tNever := fun _ _ _ _ _ _ h => h.elim
end

/-! ### targets -/
abbrev TG := V → St → Hp → (St → Hp → Prop) → Prop
abbrev TGs := List V → St → Hp → (St → Hp → Prop) → Prop
def PG (X : Cx) (target : Expr) (t : TG) : Prop :=
  ∀ (pins : List (Addr × Obj)) (s : Shared) (σ : St) (H : Hp) (v : V) (u : Value) (Q : St → Hp → Prop), Inv X pins σ H s → RelV v u → t v σ H Q →
    wpAny (model X.prog X.w) X.A (assign target X.env u) (fun _ s' => ∃ σ' H', Inv X pins σ' H' s' ∧ Q σ' H') X.xe s
/-- several targets, one after another -/
def PGs (X : Cx) (ts : List Expr) (t : TGs) : Prop :=
  ∀ (pins : List (Addr × Obj)) (s : Shared) (σ : St) (H : Hp) (vs : List V) (us : List Value) (Q : St → Hp → Prop), Inv X pins σ H s → Vals vs us → t vs σ H Q →
    wpAny (model X.prog X.w) X.A (assignInOrder ((assignEach ts X.env).map (·.2)) us) (fun _ s' => ∃ σ' H', Inv X pins σ' H' s' ∧ Q σ' H') X.xe s
/-- o[i] = v, by values -/
abbrev TSet := V → V → V → Hp → (Hp → Prop) → Prop
def PSet (X : Cx) (t : TSet) : Prop :=
  ∀ (pins : List (Addr × Obj)) (s : Shared) (σ : St) (H : Hp) (o i v : V) (ov iv u : Value) (Q : Hp → Prop), Inv X pins σ H s → RelV o ov → RelV i iv → RelV v u → t o i v H Q →
    wpAny (model X.prog X.w) X.A (setItem ov iv u) (fun _ s' => ∃ H', Inv X pins σ H' s' ∧ Q H') X.xe s
/-- a op= b, by values -/
abbrev TIp := V → V → Hp → VK → Prop
def PIp (X : Cx) (op : Operator) (t : TIp) : Prop :=
  ∀ (pins : List (Addr × Obj)) (s : Shared) (σ : St) (H : Hp) (x y : V) (v u : Value) (Q : VK), Inv X pins σ H s → RelV x v → RelV y u → t x y H Q →
    wpAny (model X.prog X.w) X.A (inplaceOp op v u) (EP X pins σ Q) X.xe s
section
variable {X : Cx} {pos : Pos}
def gName (i : Nat) : TG := fun v σ H Q => Q (σ.set i (some v)) H
theorem pg_name {i : Nat} {x : Str} (hN : X.N.Nodup) (hi : X.N[i]? = some x) (hx : Loc X.env.scope x) (hf : X.fn x = true ∨ X.env.scope.names.lookup x = some .local := by first | exact .inl rfl | exact .inr rfl | assumption) : PG X (.Name x pos) (gName i) := by
  intro pins s σ H v u Q I r h
  exact wpAny_assign_Name (store_ok I hN hi hx r (fun s' I' => ⟨_, H, I', h⟩) hf)
def gNil : TGs := fun vs σ H Q => vs = [] ∧ Q σ H
def gCons (t : TG) (u : TGs) : TGs := fun vs σ H Q => ∃ v r, vs = v :: r ∧ t v σ H fun σ' H' => u r σ' H' Q
theorem pgs_nil : PGs X [] gNil := by
  intro pins s σ H vs us Q I r h
  obtain ⟨e, h⟩ := h
  subst e
  cases r
  exact assignInOrder_nil ⟨σ, H, I, h⟩
theorem pgs_cons {e : Expr} {es : List Expr} {t : TG} {u : TGs} (h1 : PG X e t) (h2 : PGs X es u)
    (hs : (assignEach (e :: es) X.env).map (·.2) = assign e X.env :: (assignEach es X.env).map (·.2) := by rfl) : PGs X (e :: es) (gCons t u) := by
  intro pins s σ H vs us Q I r h
  obtain ⟨v, vr, e1, h⟩ := h
  subst e1
  cases r with
  | cons r rr =>
    rw [hs]
    refine assignInOrder_cons (thn (h1 pins s σ H _ _ _ I r h) fun _ s1 ⟨σ1, H1, I1, q1⟩ => ?_)
    exact h2 pins s1 σ1 H1 _ _ Q I1 rr q1
/-- (a, b, ..) = a tuple of that length -/
def gTup (K : PySem.W.Frag) (n : Nat) (t : TGs) : TG := fun v σ H Q => ∃ a xs, v = .ref a ∧ SqT K H a xs ∧ xs.length = n ∧ t xs σ H Q
theorem pg_tup {es : List Expr} {k : Nat} {t : TGs} {n : Nat} (hc : X.calm = true) (h : PGs X es t)
    (hn : (assignEach es X.env).length = n := by rfl) (hst : (assignEach es X.env).findIdx? (·.1) = none := by rfl) : PG X (.Tuple es k pos) (gTup X.K n t) := by
  intro pins s σ H v u Q I r hw
  obtain ⟨a, xs, e1, hq, hl, hw⟩ := hw
  subst e1
  cases r
  obtain ⟨its, rv, ht, hz⟩ := I.tuple hq
  refine assign_Tuple_tuple (I.ok.hd hc) ht (by simp [hn, ← hl, rv.length]) hst fun h' hx => ?_
  have I1 : Inv X pins σ H { s with heap := h' } := I.kept (t' := s.toks) fun b o e => hx b o (Nat.ne_of_lt (Heap.lt_size e)) e
  exact h pins _ σ H xs _ Q I1 (by simpa using rv) hw
/-- o[i] = .. -/
def gSub (to ti : TE) (t : TSet) : TG := fun v σ H Q => to σ H fun o H1 => ti σ H1 fun i H2 => t o i v H2 fun H3 => Q σ H3
theorem pg_sub {o i : Expr} {to ti : TE} {t : TSet} (ho : PE X o to) (hi : PE X i ti) (hs : PSet X t)
    (ha : ∀ v, assign (.Subscript o i pos) X.env v = (do
      let ov ← holding [v] (eval o X.env)
      let iv ← holding [v, ov] (eval i X.env)
      standAt pos
      holding [v, ov, iv] (setItem ov iv v)
      release [v, ov, iv] []) := by intro _; rfl) : PG X (.Subscript o i pos) (gSub to ti t) := by
  intro pins s σ H v u Q I r h
  rw [ha]
  refine wpAny_bind (wpAny_holding (thn (ho pins s σ H _ I h) fun ov s1 ⟨x, H1, I1, r1, q1⟩ => ?_))
  refine wpAny_bind (wpAny_holding (thn (hi pins s1 σ H1 _ I1 q1) fun iv s2 ⟨y, H2, I2, r2, q2⟩ => ?_))
  refine wpAny_bind (wpAny_standAt (wpAny_bind (wpAny_holding (thn (hs pins s2 σ H2 x y v ov iv u _ I2 r1 r2 r q2) fun _ s3 ⟨H3, I3, q3⟩ => ?_))))
  exact wpAny_release ⟨σ, H3, I3, q3⟩
/-- target = value -/
def tAsg (te : TE) (g : TG) : TS := fun D σ H => te σ H fun x H1 => g x σ H1 D.nx
theorem ps_asg {tg e : Expr} {te : TE} {g : TG} (he : PE X e te) (hg : PG X tg g) (hs : swapsWithSole [tg] e pos.line X.env = pure false := by rfl) (hw : swappedStores [tg] e X.env = pure none := by rfl)
    (h1 : (assignEach [tg] X.env).map (·.2) = [assign tg X.env] := by rfl) : PS X (.Assign [tg] e pos) (tAsg te g) := by
  intro pins s σ H D I h
  refine wpAny_Assign_stores (thn (he pins s σ H _ I h) fun v s1 ⟨x, H1, I1, r1, q1⟩ => ?_) hs hw
  rw [h1]
  exact thn (hg pins s1 σ H1 x v _ I1 r1 q1) fun _ s2 q => q
/-- name = value -/
theorem ps_set {i : Nat} {x : Str} {e : Expr} {te : TE} {pos' : Pos} (hN : X.N.Nodup) (hi : X.N[i]? = some x) (hx : Loc X.env.scope x) (he : PE X e te) (hs : swapsWith e (some (.Name x pos')) pos.line X.env = pure false := by rfl) (hf : X.fn x = true ∨ X.env.scope.names.lookup x = some .local := by first | exact .inl rfl | exact .inr rfl | assumption) :
    PS X (.Assign [.Name x pos'] e pos) (tAsg te (gName i)) := by
  intro pins s σ H D I h
  refine wpAny_Assign_Name (thn (he pins s σ H _ I h) fun v s1 ⟨y, H1, I1, r1, q1⟩ => ?_) hs
  exact store_ok I1 hN hi hx r1 (fun s2 I2 => ⟨_, H1, I2, q1⟩) hf
/-- a, b = x, y with plain local names: stored from the right; the pair itself is not tracked (the opening rows as in PyProof/Rows/TupAssign.lean:23) -/
def tPar (i j : Nat) (ta : TA) : TS := fun D σ H => ta σ H fun vs H1 => ∃ v w, vs = [v, w] ∧ D.nx ((σ.set i (some v)).set j (some w)) H1
theorem ps_par {i j : Nat} {x y : Str} {a b : Expr} {ta : TA} {px py pt : Pos} {kt k2 pt2} (hc : X.calm = true) (hN : X.N.Nodup) (hi : X.N[i]? = some x) (hj : X.N[j]? = some y) (hij : i ≠ j)
    (hx : X.env.scope.names.lookup x = some .local) (hy : X.env.scope.names.lookup y = some .local) (ha : PA X [a, b] ta)
    (hw : swappedStores [.Tuple [.Name x px, .Name y py] kt pt] (.Tuple [a, b] k2 pt2) X.env = pure (some [x, y]))
    (hs : swapsWithSole [.Tuple [.Name x px, .Name y py] kt pt] (.Tuple [a, b] k2 pt2) pos.line X.env = pure false := by rfl) :
    PS X (.Assign [.Tuple [.Name x px, .Name y py] kt pt] (.Tuple [a, b] k2 pt2) pos) (tPar i j ta) := by
  intro pins s σ H D I h
  rw [exec_Assign_arm]
  refine wpAny_bind (wpAny_standAt ?_)
  rw [hs]
  refine wpAny_bind (wpAny_pure ?_)
  rw [if_neg (by decide)]
  refine wpAny_bind (Tuple_ (thn (ha _ pins s σ H _ I h) fun us s1 ⟨vs, H1, I1, r1, q1⟩ => ?_))
  obtain ⟨v, w, e1, q1⟩ := q1
  subst e1
  obtain ⟨u1, u2, rfl, rv, rw'⟩ : ∃ u1 u2, us = [u1, u2] ∧ RelV v u1 ∧ RelV w u2 := by
    cases r1 with
    | cons p q =>
      cases q with
      | cons p' q' =>
        cases q'
        exact ⟨_, _, rfl, p, p'⟩
  refine wpAny_newObj_type ?_ (by show 2 ≤ sizeLine; decide)
  have I2 : Inv X pins σ H1 { s1 with heap := s1.heap.push { cls := .type "tuple", data := .seq [u1, u2].toArray } } := I1.kept (t' := s1.toks) fun b o e => Heap.get?_push_of_some _ e
  rw [hw]
  refine wpAny_bind (wpAny_pure ?_)
  show wpAny (model X.prog X.w) X.A (do rule "assign.swapped-stores"; let items ← unpackItems (.ref s1.heap.objs.size) 2 none; assignInOrder [fun v => bindName X.env y v, fun v => bindName X.env x v] items.reverse; pure Flow.next) _ _ _
  refine wpAny_bind (wpAny_rule (wpAny_bind (unpackItems_tuple (items := #[u1, u2]) (I.ok.hd hc) (IsTup.new s1.heap _) fun h' hx' => ?_)))
  have I3 := I2.kept (h' := h') (t' := s1.toks) fun b o e => hx' b o (Nat.ne_of_lt (Heap.lt_size e)) e
  show wpAny _ _ (assignInOrder [fun v => bindName X.env y v, fun v => bindName X.env x v] [u2, u1] >>= fun _ => pure Flow.next) _ _ _
  refine wpAny_bind (assignInOrder_cons (wpAny_bindName (store_ok I3 hN hj (.inl hy) rw' (fun s2 I4 => ?_) (.inr hy))))
  refine assignInOrder_cons (wpAny_bindName (store_ok I4 hN hi (.inl hx) rv (fun s3 I5 => assignInOrder_nil (wpAny_pure ?_)) (.inr hx)))
  rw [List.set_comm _ _ (Ne.symm hij)] at I5
  exact ⟨_, H1, I5, q1⟩
/-- name op= e -/
def tAug (i : Nat) (te : TE) (ti : TIp) : TS := fun D σ H => ∃ x, σ[i]? = some (some x) ∧ te σ H fun y H1 => ti x y H1 fun z H2 => D.nx (σ.set i (some z)) H2
theorem ps_aug {i : Nat} {x : Str} {e : Expr} {te : TE} {op : Operator} {ti : TIp} {pos' : Pos} (hN : X.N.Nodup) (hi : X.N[i]? = some x) (hx : Loc X.env.scope x) (he : PE X e te) (ho : PIp X op ti) (hf : X.fn x = true ∨ X.env.scope.names.lookup x = some .local := by first | exact .inl rfl | exact .inr rfl | assumption) :
    PS X (.AugAssign (.Name x pos') op e pos) (tAug i te ti) := by
  intro pins s σ H D I h
  obtain ⟨v, e1, h⟩ := h
  obtain ⟨m, hn, hl⟩ := I.loc
  have vis : Vis X.env.scope x := by rcases hx with k | k; exact .inl k; exact .inr (.inl k)
  obtain ⟨u, r, l⟩ := hl i x v hi e1 vis
  refine wpAny_AugAssign_Name ?_
  have go : wpAny (model X.prog X.w) X.A (eval e X.env) (fun w s₂ => wpAny (model X.prog X.w) X.A (inplaceOp op u w) (fun r s₃ => wpAny (model X.prog X.w) X.A (storeName X.env x r) (fun _ => SP X pins D .next) X.xe s₃) X.xe s₂) X.xe s := by
    refine thn (he pins s σ H _ I h) fun w s1 ⟨y, H1, I1, r1, q1⟩ => ?_
    refine thn (ho pins s1 σ H1 v y u w _ I1 r r1 q1) fun z s2 ⟨zv, H2, I2, r2, q2⟩ => ?_
    exact store_ok I2 hN hi hx r2 (fun s3 I3 => ⟨_, H2, I3, q2⟩) hf
  rcases l with ⟨hk, hm⟩ | ⟨hk, c, hc, hcell⟩
  · exact wpAny_loadName_local I.ok.kind hk hn hm go
  · rcases hk with hk | hk
    · exact wpAny_loadName_cell I.ok.kind hk hc hcell go
    · rcases hx with k | k
      · have : X.env.scope.names.lookup x = some .free := hk
        rw [k] at this; cases this
      · have : X.env.scope.names.lookup x = some .free := hk
        rw [k] at this; cases this
/-- o[i] op= e -/
def tAugS (to ti te : TE) (tget : V → V → Hp → VK → Prop) (tip : TIp) (tset : TSet) : TS := fun D σ H => to σ H fun o H1 => ti σ H1 fun i H2 => tget o i H2 fun x H3 => te σ H3 fun y H4 => tip x y H4 fun z H5 => tset o i z H5 fun H6 => D.nx σ H6
/-- o[i], by values -/
def PGet (X : Cx) (t : V → V → Hp → VK → Prop) : Prop :=
  ∀ (pins : List (Addr × Obj)) (s : Shared) (σ : St) (H : Hp) (o i : V) (ov iv : Value) (Q : VK), Inv X pins σ H s → RelV o ov → RelV i iv → t o i H Q →
    wpAny (model X.prog X.w) X.A (getItem ov iv) (EP X pins σ Q) X.xe s
theorem ps_augS {o i e : Expr} {to ti te : TE} {tget : V → V → Hp → VK → Prop} {tip : TIp} {tset : TSet} {op : Operator} {tpos : Pos} (ho : PE X o to) (hi : PE X i ti) (hg : PGet X tget) (he : PE X e te) (hp : PIp X op tip) (hs : PSet X tset)
    (ha : ∀ ov iv new, augStore i ov iv new = (do holding [new, ov, iv] (setItem ov iv new); release [new, ov, iv] []; pure .next) := by intros; rfl) : PS X (.AugAssign (.Subscript o i tpos) op e pos) (tAugS to ti te tget tip tset) := by
  intro pins s σ H D I h
  refine wpAny_AugAssign_SubscriptAny (thn (ho pins s σ H _ I h) fun ov s1 ⟨x1, H1, I1, r1, q1⟩ => ?_) ha
  refine thn (hi pins s1 σ H1 _ I1 q1) fun iv s2 ⟨x2, H2, I2, r2, q2⟩ => ?_
  refine thn (hg pins s2 σ H2 x1 x2 ov iv _ I2 r1 r2 q2) fun old s3 ⟨x3, H3, I3, r3, q3⟩ => ?_
  refine thn (he pins s3 σ H3 _ I3 q3) fun v s4 ⟨x4, H4, I4, r4, q4⟩ => ?_
  refine thn (hp pins s4 σ H4 x3 x4 old v _ I4 r3 r4 q4) fun new s5 ⟨x5, H5, I5, r5, q5⟩ => ?_
  exact thn (hs pins s5 σ H5 x1 x2 x5 ov iv new _ I5 r1 r2 r5 q5) fun _ s6 ⟨H6, I6, q6⟩ => ⟨σ, H6, I6, q6⟩
/-- ints -/
def ipI (f : Int → Int → Int) : TIp := fun x y H Q => ∃ i j, x = .int i ∧ y = .int j ∧ Q (.int (f i j)) H
theorem ip_add : PIp X .Add (ipI fun i j => i + j) := by
  intro pins s σ H x y v u Q I r1 r2 h
  obtain ⟨i, j, e1, e2, q⟩ := h
  subst e1; subst e2
  obtain ⟨t, rfl⟩ := r1
  obtain ⟨t', rfl⟩ := r2
  exact iadd_int ⟨.int _, H, I.tok _, ⟨_, rfl⟩, q⟩
theorem ip_sub : PIp X .Sub (ipI fun i j => i - j) := by
  intro pins s σ H x y v u Q I r1 r2 h
  obtain ⟨i, j, e1, e2, q⟩ := h
  subst e1; subst e2
  obtain ⟨t, rfl⟩ := r1
  obtain ⟨t', rfl⟩ := r2
  exact isub_int ⟨.int _, H, I.tok _, ⟨_, rfl⟩, q⟩
end

/-! ### while -/
section
variable {X : Cx} {pos : Pos}
/-- the invariant W with its measure -/
def tWhile (c : TT) (tb : TS) : TS := fun D σ H => ∃ W : Nat → St → Hp → Prop, (∃ m, W m σ H) ∧ ∀ m σ H, W m σ H →
  c σ H fun b H1 => if b = true then ∃ N : St → Hp → Prop, (∀ σ' H', N σ' H' → ∃ m', m' < m ∧ W m' σ' H') ∧ tb { D with nx := N, ct := N, bk := D.nx } σ H1 else D.nx σ H1
theorem ps_while {c : Expr} {body : List Stmt} {tc : TT} {tb : TS} (hp : PassesOwn (model X.prog X.w) X.A X.env X.xe) (hc : PT X c tc) (hb : PSs X body tb) : PS X (.While c body [] pos) (tWhile tc tb) := by
  intro pins s σ H D I h
  obtain ⟨W, ⟨m0, w0⟩, turn⟩ := h
  refine wpAny_While (codeAny_whileLoop (fun n s' => ∃ σ' H', Inv X pins σ' H' s' ∧ W n σ' H') ?_ m0 ⟨σ, H, I, w0⟩)
  rintro n s1 ⟨σ1, H1, I1, w1⟩
  refine wpAny_passesOwn hp (thn (hc pins s1 σ1 H1 _ I1 (turn n σ1 H1 w1)) fun b s2 ⟨H2, I2, q2⟩ => ?_)
  cases b with
  | true =>
    obtain ⟨N, hN, q2⟩ := q2
    rw [if_pos rfl]
    refine wpAny_passesOwn hp (thn (hb pins s2 σ1 H2 _ I2 q2) fun f s3 q3 => ?_)
    cases f with
    | next =>
      obtain ⟨σ3, H3, I3, n3⟩ := q3
      obtain ⟨m', hm, w3⟩ := hN σ3 H3 n3
      exact ⟨m', hm, σ3, H3, I3, w3⟩
    | cont =>
      obtain ⟨σ3, H3, I3, n3⟩ := q3
      obtain ⟨m', hm, w3⟩ := hN σ3 H3 n3
      exact ⟨m', hm, σ3, H3, I3, w3⟩
    | brk => exact q3
    | ret v => exact q3
  | false =>
    rw [if_neg Bool.false_ne_true]
    exact wpAny_execs_nil ⟨σ1, H2, I2, q2⟩
end

/-! ### what a loop or a comprehension walks -/
/-- at turn i: it yields x (the heap may grow), or it stops -/
structure It where
  go : Nat → Hp → Prop
  yld : Nat → Hp → V → Hp → Prop
  stop : Nat → Hp → Prop
/-- the iterator's own objects may turn: they are not the frame's, not pinned, younger than the entry (or a comprehension's own) -/
def FpOk (X : Cx) (pins : List (Addr × Obj)) (H : Hp) (b : Addr) : Prop :=
  H b = none ∧ b ≠ X.env.locals ∧ b ∉ X.fs ∧ (b ∈ X.ex ∨ X.s₀.heap.objs.size ≤ b) ∧ (∀ x c, X.env.cells.lookup x = some c → c ≠ b) ∧ ∀ p ∈ X.pn ++ pins, p.1 ≠ b
theorem Inv.fpOk {X : Cx} {pins : List (Addr × Obj)} {σ : St} {H H' : Hp} {s : Shared} {b : Addr} (I : Inv X pins σ H s) (hb : s.heap.objs.size ≤ b) (hn : H' b = none) : FpOk X pins H' b := by
  refine ⟨hn, Nat.ne_of_gt (Nat.lt_of_lt_of_le I.lt hb), I.nofs hb, .inr (Nat.le_trans I.sz hb), fun x c e z => ?_, fun p hp z => ?_⟩
  · obtain ⟨v, q⟩ := I.cell x c e
    exact absurd (Nat.lt_of_lt_of_le q.lt (by rw [z]; exact hb)) (Nat.lt_irrefl _)
  · exact absurd (Nat.lt_of_lt_of_le (Heap.lt_size (I.pin p hp).1) (by rw [z]; exact hb)) (Nat.lt_irrefl _)
structure Turn (P : Program) (w : World) (K : PySem.W.Frag) (tg : Expr) (J : It) (fp : List Addr) (it : Addr) (tn : Nat → Heap → Prop) : Prop where
  mem : it ∈ fp
  obj : ∀ i h, tn i h → ∀ b ∈ fp, ∃ o, h.get? b = some o ∧ ∀ v, o.data ≠ .cell v
  keep : ∀ i h h', tn i h → (∀ b ∈ fp, ∀ o, h.get? b = some o → h'.get? b = some o) → tn i h'
  item : ∀ (X : Cx), X.prog = P → X.w = w → X.K = K → X.calm = true → ∀ (i : Nat) (pins : List (Addr × Obj)) (s : Shared) (σ : St) (H : Hp) (E : Value → Shared → Prop), Inv X pins σ H s → (∀ b ∈ fp, FpOk X pins H b) → tn i s.heap → J.go i H →
    wpAny (model P w) X.A (pyNext (.ref it)) (fun r s1 => ∃ u, r = some u ∧
      wpAny (model P w) X.A (letOwnedTupleGo tg (.ref it) u) (fun _ s2 => ∃ x H', Inv X pins σ H' s2 ∧ RelV x u ∧ J.yld i H x H' ∧ tn (i + 1) s2.heap ∧ ∀ b ∈ fp, H' b = none) E s1) E s
  done : ∀ (X : Cx), X.prog = P → X.w = w → X.K = K → X.calm = true → ∀ (i : Nat) (pins : List (Addr × Obj)) (s : Shared) (σ : St) (H : Hp) (E : Value → Shared → Prop), Inv X pins σ H s → (∀ b ∈ fp, FpOk X pins H b) → tn i s.heap → J.stop i H →
    wpAny (model P w) X.A (pyNext (.ref it)) (fun r s1 => r = none ∧ Inv X pins σ H s1) E s
  self : ∀ (A : Around) (i : Nat) (s : Shared) (Q : Value → Shared → Prop) (E : Value → Shared → Prop), tn i s.heap → Q (.ref it) s → wpAny (model P w) A (pyIter (.ref it)) Q E s
abbrev TI := St → Hp → (It → Hp → Prop) → Prop
/-- an iterator has come -/
def PIE (X : Cx) (pins : List (Addr × Obj)) (σ : St) (tg : Expr) (R : It → Hp → Prop) (itv : Value) (s2 : Shared) : Prop :=
  ∃ (it : Addr) (fp : List Addr) (tn : Nat → Heap → Prop) (J : It) (H' : Hp), itv = .ref it ∧ Inv X pins σ H' s2 ∧ Turn X.prog X.w X.K tg J fp it tn ∧ tn 0 s2.heap ∧ (∀ b ∈ fp, FpOk X pins H' b) ∧ R J H'
def PI (X : Cx) (tg iter : Expr) (wi : TI) : Prop :=
  ∀ (pins : List (Addr × Obj)) (s : Shared) (σ : St) (H : Hp) (R : It → Hp → Prop), Inv X pins σ H s → wi σ H R →
    wpAny (model X.prog X.w) X.A (eval iter X.env) (fun v s1 => wpAny (model X.prog X.w) X.A (pyIter v) (PIE X pins σ tg R) X.xe s1) X.xe s

/-- the step ahead of the store is nothing for an iterator that keeps no tuple -/
theorem go_of {M : Model} {A : Around} {E : Value → Shared → Prop} {s : Shared} {tg : Expr} {it : Addr} {u : Value} {o : Obj} {n : String} {vs : Array Value} {Q : Unit → Shared → Prop} (ho : s.heap.get? it = some o) (hc : o.cls = .type n) (hd : o.data = .fields vs)
    (hn : ["enumerate", "zip", "dict_itemiterator", "dict_reverseitemiterator", "odict_iterator", "itertools.zip_longest", "itertools.pairwise"].contains n = false) (hQ : Q () s) : wpAny M A (letOwnedTupleGo tg (.ref it) u) Q E s := by
  unfold letOwnedTupleGo
  cases tg <;> first
    | exact wpAny_pure hQ
    | (cases u <;> first
        | exact wpAny_pure hQ
        | (refine wpAny_bind (wpAny_load ho ?_)
           rw [hc, hd]
           show wpAny M A (if (["enumerate", "zip", "dict_itemiterator", "dict_reverseitemiterator", "odict_iterator", "itertools.zip_longest", "itertools.pairwise"].contains n && vs[0]? == some (rawInt _)) = true then _ else _) Q E s
           rw [if_neg (by intro h; rw [hn, Bool.false_and] at h; cases h)]
           exact wpAny_pure hQ))

/-- the list at a, as it stands at each turn (a loop may append to it) -/
def Itl (K : PySem.W.Frag) (a : Addr) : It :=
  ⟨fun i H => ∃ xs x, SqL K H a xs ∧ xs[i]? = some x, fun i H x H' => H' = H ∧ ∀ xs, SqL K H a xs → xs[i]? = some x, fun i H => ∃ xs, SqL K H a xs ∧ xs.length ≤ i⟩
def Itt (K : PySem.W.Frag) (a : Addr) : It :=
  ⟨fun i H => ∃ xs x, SqT K H a xs ∧ xs[i]? = some x, fun i H x H' => H' = H ∧ ∀ xs, SqT K H a xs → xs[i]? = some x, fun i H => ∃ xs, SqT K H a xs ∧ xs.length ≤ i⟩
/-- lo, lo + 1, .. (n of them) -/
def Itr (lo : Int) (n : Nat) : It := ⟨fun i _ => i < n, fun i H x H' => H' = H ∧ x = .int (lo + i), fun i _ => n ≤ i⟩
theorem turn_list {P : Program} {w : World} {K : PySem.W.Frag} {tg : Expr} (a it : Addr) : Turn P w K tg (Itl K a) [it] it (fun i h => h.IsListIter it a i) where
  mem := by simp
  obj := fun i h st b hb => by
    have e : b = it := by simpa using hb
    subst e
    obtain ⟨o, e, c, d⟩ := st
    exact ⟨o, e, fun v z => by rw [d] at z; cases z⟩
  keep := fun i h h' st k => st.at fun o e => k it (by simp) o e
  item := by
    intro X hP hw hK hc i pins s σ H E I hf st hg
    subst hP hw hK
    obtain ⟨xs, x, hq, hx⟩ := hg
    obtain ⟨its, rv, p, hz⟩ := I.list hq
    obtain ⟨u, hu, ru⟩ := rv.get hx
    obtain ⟨f0, f1, f2, f3, f4, f5⟩ := hf it (by simp)
    refine wpAny_pyNext_list_item st p.isList (x := u) (by simpa using hu) fun h' st' sb => ?_
    have I1 : Inv X pins σ H { s with heap := h' } := I.turned (t' := s.toks) (fun b o hb e => (sb.2 b hb).trans e) f0 f1 f3 f4 f5
    obtain ⟨o, e, c, d⟩ := id st'
    exact ⟨u, rfl, go_of (s := { s with heap := h' }) e c d (by decide) ⟨x, H, I1, ru, ⟨rfl, fun ys hy => by rw [I.list_inj hy hq]; exact hx⟩, st', fun b hb => (hf b hb).1⟩⟩
  done := by
    intro X hP hw hK hc i pins s σ H E I hf st hg
    subst hP hw hK
    obtain ⟨xs, hq, hx⟩ := hg
    obtain ⟨its, rv, p, hz⟩ := I.list hq
    obtain ⟨f0, f1, f2, f3, f4, f5⟩ := hf it (by simp)
    have hl := rv.length
    exact wpAny_pyNext_list_end (I.ok.hd hc) st p.isList (by simp; omega) fun h' eb => ⟨rfl, I.turned (t' := s.toks) (fun b o hb e => eb b o hb e) f0 f1 f3 f4 f5⟩
  self := fun _ _ _ _ _ st h => wpAny_pyIter_listiter st h
theorem turn_tuple {P : Program} {w : World} {K : PySem.W.Frag} {tg : Expr} (a it : Addr) : Turn P w K tg (Itt K a) [it] it (fun i h => h.IsTupleIter it a i) where
  mem := by simp
  obj := fun i h st b hb => by
    have e : b = it := by simpa using hb
    subst e
    obtain ⟨o, e, c, d⟩ := st
    exact ⟨o, e, fun v z => by rw [d] at z; cases z⟩
  keep := fun i h h' st k => st.at fun o e => k it (by simp) o e
  item := by
    intro X hP hw hK hc i pins s σ H E I hf st hg
    subst hP hw hK
    obtain ⟨xs, x, hq, hx⟩ := hg
    obtain ⟨its, rv, p, hz⟩ := I.tuple hq
    obtain ⟨u, hu, ru⟩ := rv.get hx
    obtain ⟨f0, f1, f2, f3, f4, f5⟩ := hf it (by simp)
    refine wpAny_pyNext_tuple_item st (show s.heap.IsTuple a its.toArray from p) (x := u) (by simpa using hu) fun h' st' sb => ?_
    have I1 : Inv X pins σ H { s with heap := h' } := I.turned (t' := s.toks) (fun b o hb e => (sb.2 b hb).trans e) f0 f1 f3 f4 f5
    obtain ⟨o, e, c, d⟩ := id st'
    exact ⟨u, rfl, go_of (s := { s with heap := h' }) e c d (by decide) ⟨x, H, I1, ru, ⟨rfl, fun ys hy => by rw [I.tuple_inj hy hq]; exact hx⟩, st', fun b hb => (hf b hb).1⟩⟩
  done := by
    intro X hP hw hK hc i pins s σ H E I hf st hg
    subst hP hw hK
    obtain ⟨xs, hq, hx⟩ := hg
    obtain ⟨its, rv, p, hz⟩ := I.tuple hq
    obtain ⟨f0, f1, f2, f3, f4, f5⟩ := hf it (by simp)
    have hl := rv.length
    exact wpAny_pyNext_tuple_end (I.ok.hd hc) st (show s.heap.IsTuple a its.toArray from p) (by simp; omega) fun h' eb => ⟨rfl, I.turned (t' := s.toks) (fun b o hb e => eb b o hb e) f0 f1 f3 f4 f5⟩
  self := fun _ _ _ _ _ st h => wpAny_pyIter_tupleiter st h
theorem turn_range {P : Program} {w : World} {K : PySem.W.Frag} {tg : Expr} (it : Addr) (lo : Int) (n : Nat) : Turn P w K tg (Itr lo n) [it] it (fun i h => IsRangeIter h it (lo + (i : Nat) * 1) ((n : Int) - (i : Nat)) 1) where
  mem := by simp
  obj := fun i h st b hb => by
    have e : b = it := by simpa using hb
    subst e
    exact ⟨_, st, fun v z => by
      have z' : Data.fields _ = Data.cell v := z
      cases z'⟩
  keep := fun i h h' st k => k it (by simp) _ st
  item := by
    intro X hP hw hK hc i pins s σ H E I hf st hg
    subst hP hw hK
    obtain ⟨f0, f1, f2, f3, f4, f5⟩ := hf it (by simp)
    have W := Walks.range (prog := X.prog) (w := X.w) (I.ok.hd hc) it lo 1 n
    refine W.item i s _ _ hg st fun v h' tk hv st' kk => ?_
    obtain ⟨t, rfl⟩ := hv
    have I1 : Inv X pins σ H { s with heap := h', toks := tk } := I.turned (fun b o hb e => kk b o (by simpa using hb) e) f0 f1 f3 f4 f5
    refine ⟨_, rfl, go_of (s := { s with heap := h', toks := tk }) (n := "range_iterator") st' rfl rfl (by decide) ⟨.int (lo + i), H, I1, ⟨t, ?_⟩, ⟨rfl, rfl⟩, st', fun b hb => (hf b hb).1⟩⟩
    rw [Int.mul_one]
  done := by
    intro X hP hw hK hc i pins s σ H E I hf st hg
    subst hP hw hK
    obtain ⟨f0, f1, f2, f3, f4, f5⟩ := hf it (by simp)
    exact wpAny_pyNext_range_end (I.ok.hd hc) st (by have : n ≤ i := hg; omega) fun h' eb => ⟨rfl, I.turned (t' := s.toks) (fun b o hb e => eb b o hb e) f0 f1 f3 f4 f5⟩
  self := fun _ _ _ _ _ st h => wpAny_pyIter_rangeiter st h
end L2

namespace L2
open PySem PySem.Spec PyProof.Rows
section
variable {X : Cx} {tg : Expr}
def iList (K : PySem.W.Frag) (tl : TE) : TI := fun σ H R => tl σ H fun x H1 => ∃ a, x = .ref a ∧ (∃ xs, SqL K H1 a xs) ∧ R (Itl K a) H1
def iTup (K : PySem.W.Frag) (tl : TE) : TI := fun σ H R => tl σ H fun x H1 => ∃ a, x = .ref a ∧ (∃ xs, SqT K H1 a xs) ∧ R (Itt K a) H1
theorem pi_list {l : Expr} {tl : TE} (hl : PE X l tl) : PI X tg l (iList X.K tl) := by
  intro pins s σ H R I h
  refine thn (hl pins s σ H _ I h) fun v s1 ⟨x, H1, I1, r1, q1⟩ => ?_
  obtain ⟨a, e, ⟨xs, hq⟩, q⟩ := q1
  subst e
  cases r1
  obtain ⟨its, rv, p, hz⟩ := I1.list hq
  refine wpAny_pyIter_list p.isList ?_
  refine ⟨s1.heap.objs.size, [s1.heap.objs.size], _, _, H1, rfl, I1.kept (t' := s1.toks) fun b o e => Heap.get?_push_of_some _ e, turn_list a _, ⟨_, Heap.get?_push_size _ rfl, rfl, rfl⟩, fun b hb => ?_, q⟩
  have e : b = s1.heap.objs.size := by simpa using hb
  subst e
  exact I1.fpOk (Nat.le_refl _) (I1.hok.fresh (Nat.le_refl _))
theorem pi_tup {l : Expr} {tl : TE} (hl : PE X l tl) : PI X tg l (iTup X.K tl) := by
  intro pins s σ H R I h
  refine thn (hl pins s σ H _ I h) fun v s1 ⟨x, H1, I1, r1, q1⟩ => ?_
  obtain ⟨a, e, ⟨xs, hq⟩, q⟩ := q1
  subst e
  cases r1
  obtain ⟨its, rv, p, hz⟩ := I1.tuple hq
  refine wpAny_pyIter_tuple (show s1.heap.IsTuple a its.toArray from p) ?_
  refine ⟨s1.heap.objs.size, [s1.heap.objs.size], _, _, H1, rfl, I1.kept (t' := s1.toks) fun b o e => Heap.get?_push_of_some _ e, turn_tuple a _, ⟨_, Heap.get?_push_size _ rfl, rfl, rfl⟩, fun b hb => ?_, q⟩
  have e : b = s1.heap.objs.size := by simpa using hb
  subst e
  exact I1.fpOk (Nat.le_refl _) (I1.hok.fresh (Nat.le_refl _))
/-- a range object just made, walked -/
theorem range_it {pins : List (Addr × Obj)} {σ : St} {H : Hp} {s : Shared} {R : It → Hp → Prop} {E : Value → Shared → Prop} {lo hi : Int} {t u v : Tok} {tk : Nat} (I : Inv X pins σ H s) (h1 : -(2 ^ 62) ≤ lo) (h2 : lo < 2 ^ 62) (h3 : -(2 ^ 62) ≤ hi) (h4 : hi < 2 ^ 62)
    (q : R (Itr lo (hi - lo).toNat) H) : wpAny (model X.prog X.w) X.A (pyIter (.ref s.heap.objs.size)) (PIE X pins σ tg R) E { s with heap := s.heap.push { cls := .type "range", data := .fields #[.int lo t, .int hi u, .int 1 v] }, toks := tk } := by
  refine wpAny_pyIter_range (IsRange.new ..) (small_one h1 h2 h3 h4) ?_
  have I1 : Inv X pins σ H { s with heap := s.heap.push { cls := .type "range", data := .fields #[.int lo t, .int hi u, .int 1 v] }, toks := tk } := I.kept fun b o e => Heap.get?_push_of_some _ e
  refine ⟨(s.heap.push { cls := .type "range", data := .fields #[.int lo t, .int hi u, .int 1 v] }).objs.size, [(s.heap.push { cls := .type "range", data := .fields #[.int lo t, .int hi u, .int 1 v] }).objs.size], _, _, H, rfl,
    I1.kept (t' := tk) fun b o e => Heap.get?_push_of_some _ e, turn_range _ lo (hi - lo).toNat, ?_, fun b hb => ?_, q⟩
  · have e1 : lo + ((0 : Nat) : Int) * 1 = lo := by simp
    have e2 : (((hi - lo).toNat : Nat) : Int) - ((0 : Nat) : Int) = Builtin.Range.rangeSize lo hi 1 := by rw [rangeSize_one]; split <;> omega
    show IsRangeIter _ _ (lo + ((0 : Nat) : Int) * 1) ((((hi - lo).toNat : Nat) : Int) - ((0 : Nat) : Int)) 1
    rw [e1, e2]
    exact Heap.get?_push_size _ rfl
  · have e : b = (s.heap.push { cls := .type "range", data := .fields #[.int lo t, .int hi u, .int 1 v] }).objs.size := by simpa using hb
    subst e
    exact I1.fpOk (Nat.le_refl _) (I1.hok.fresh (Nat.le_refl _))
def iRng1 (ta : TA) : TI := fun σ H R => ta σ H fun vs H1 => ∃ j : Int, vs = [.int j] ∧ -(2 ^ 62) ≤ j ∧ j < 2 ^ 62 ∧ R (Itr 0 j.toNat) H1
def iRng2 (ta : TA) : TI := fun σ H R => ta σ H fun vs H1 => ∃ i j : Int, vs = [.int i, .int j] ∧ (-(2 ^ 62) ≤ i ∧ i < 2 ^ 62 ∧ -(2 ^ 62) ≤ j ∧ j < 2 ^ 62) ∧ R (Itr i (j - i).toNat) H1
theorem pi_range1 {a : Expr} {ta : TA} {p pos : Pos} (hg : Gl X "range") (hm : X.mg "range" = none) (ha : PA X [a] ta) (hs : starEach [a] X.env = [(false, eval a X.env)] := by rfl) : PI X tg (.Call (.Name "range" p) [a] [] pos) (iRng1 ta) := by
  intro pins s σ H R I h
  refine Call_ (ld_blt I hg hm boot_range (PyProof.Rows.callWith_type1 (thn (ha pos pins s σ H _ I h) fun us s1 ⟨vs, H1, I1, r1, q1⟩ => ?_) hs rfl))
  obtain ⟨j, e, q1, q2, q⟩ := q1
  subst e
  cases r1 with
  | cons r rr =>
    cases rr
    obtain ⟨t, rfl⟩ := r
    exact call_range_1 (range_it I1 (by omega) (by omega) q1 q2 (by simpa using q))
theorem pi_range2 {a b : Expr} {ta : TA} {p pos : Pos} (hg : Gl X "range") (hm : X.mg "range" = none) (ha : PA X [a, b] ta) (hs : starEach [a, b] X.env = [(false, eval a X.env), (false, eval b X.env)] := by rfl) (hs2 : starEach [b] X.env = [(false, eval b X.env)] := by rfl) :
    PI X tg (.Call (.Name "range" p) [a, b] [] pos) (iRng2 ta) := by
  intro pins s σ H R I h
  refine Call_ (ld_blt I hg hm boot_range (PyProof.Rows.callWith_type1 (thn (ha pos pins s σ H _ I h) fun us s1 ⟨vs, H1, I1, r1, q1⟩ => ?_) (by rw [hs, hs2]) (by rw [hs2]; rfl)))
  obtain ⟨i, j, e, ⟨q1, q2, q3, q4⟩, q⟩ := q1
  subst e
  cases r1 with
  | cons r rr =>
    cases rr with
    | cons r' rr =>
      cases rr
      obtain ⟨t, rfl⟩ := r
      obtain ⟨t', rfl⟩ := r'
      exact call_range_2 (range_it I1 q1 q2 q3 q4 q)

/-! ### for -/
/-- W: the invariant by the turn and a measure; N: what the body is to reach -/
def tFor (wi : TI) (g : TG) (tb : TS) : TS := fun D σ H => wi σ H fun J H1 => ∃ W : Nat → Nat → St → Hp → Prop, (∃ m, W 0 m σ H1) ∧ ∀ i m σ H, W i m σ H →
  (J.stop i H ∧ D.nx σ H) ∨ (J.go i H ∧ ∃ N : St → Hp → Prop, (∀ σ' H', N σ' H' → ∃ m', m' < m ∧ W (i + 1) m' σ' H') ∧ ∀ x H', J.yld i H x H' → g x σ H' fun σ2 H2 => tb { D with nx := N, ct := N, bk := D.nx } σ2 H2)
/-- the records at fp as they stand -/
def pinsAt (fp : List Addr) (h : Heap) : List (Addr × Obj) := fp.filterMap fun b => (h.get? b).map fun o => (b, o)
theorem mem_pinsAt {fp : List Addr} {h : Heap} {b : Addr} {o : Obj} (hb : b ∈ fp) (e : h.get? b = some o) : (b, o) ∈ pinsAt fp h := List.mem_filterMap.mpr ⟨b, hb, by rw [e]; rfl⟩
theorem of_pinsAt {fp : List Addr} {h : Heap} {p : Addr × Obj} (hp : p ∈ pinsAt fp h) : p.1 ∈ fp ∧ h.get? p.1 = some p.2 := by
  obtain ⟨b, hb, e⟩ := List.mem_filterMap.mp hp
  cases q : h.get? b with
  | none => rw [q] at e; cases e
  | some o =>
    rw [q] at e
    have e' : (b, o) = p := Option.some.inj e
    subst e'
    exact ⟨hb, q⟩
theorem Inv.pinned {pins : List (Addr × Obj)} {σ : St} {H : Hp} {s : Shared} {fp : List Addr} (I : Inv X pins σ H s) (hf : ∀ b ∈ fp, FpOk X pins H b) (ho : ∀ b ∈ fp, ∃ o, s.heap.get? b = some o ∧ ∀ v, o.data ≠ .cell v) : Inv X (pins ++ pinsAt fp s.heap) σ H s :=
  I.pins_of fun p hp => (List.mem_append.mp hp).elim (fun z => I.pin p (List.mem_append_right _ z)) fun z => by
    obtain ⟨hb, e⟩ := of_pinsAt z
    obtain ⟨f0, f1, f2, _⟩ := hf p.1 hb
    obtain ⟨o, e', d⟩ := ho p.1 hb
    rw [e] at e'; cases e'
    exact ⟨e, f0, f1, f2, d⟩
theorem Inv.unpinned {pins pl : List (Addr × Obj)} {σ : St} {H : Hp} {s : Shared} (I : Inv X (pins ++ pl) σ H s) : Inv X pins σ H s := I.pins_of fun p hp => I.pin p (List.mem_append_right _ (List.mem_append_left _ hp))
theorem ps_for {iter : Expr} {body : List Stmt} {wi : TI} {g : TG} {tb : TS} {pos : Pos} (hp : PassesOwn (model X.prog X.w) X.A X.env X.xe) (hc : X.calm = true) (hi : PI X tg iter wi) (hg : PG X tg g) (hb : PSs X body tb)
    (hs : ∀ x, foldedSetIterable iter X.env x = pure x := by intro _; rfl) : PS X (.For tg iter body [] pos) (tFor wi g tb) := by
  intro pins s σ H D I h
  refine wpAny_For (thn (hi pins s σ H _ I h) fun v s1 h1 => thn h1 fun itv s2 h2 => ?_) hs
  obtain ⟨it, fp, tn, J, H2, e, I2, T, st2, f2, W, ⟨m0, w0⟩, turn⟩ := h2
  subst e
  -- what stays true of the iterator's objects through the loop
  have stat : ∀ {H' : Hp}, (∀ b ∈ fp, H' b = none) → ∀ b ∈ fp, FpOk X pins H' b := fun hn b hb => ⟨hn b hb, (f2 b hb).2⟩
  refine codeAny_forLoop_any (fun n s' => ∃ i σ' H', Inv X pins σ' H' s' ∧ tn i s'.heap ∧ (∀ b ∈ fp, H' b = none) ∧ W i n σ' H') ?_ m0 ⟨0, σ, H2, I2, st2, fun b hb => (f2 b hb).1, w0⟩
  rintro n s3 ⟨i, σ3, H3, I3, st3, fr3, w3⟩
  rcases turn i n σ3 H3 w3 with ⟨stop, qn⟩ | ⟨go, N, hN, step⟩
  · refine wpAny_passesOwn hp (thn (T.done X rfl rfl rfl hc i pins s3 σ3 H3 X.xe I3 (stat fr3) st3 stop) fun r s4 ⟨hr, I4⟩ => ?_)
    subst hr
    exact wpAny_execs_nil ⟨σ3, H3, I4, qn⟩
  · refine wpAny_passesOwn hp (thn (T.item X rfl rfl rfl hc i pins s3 σ3 H3 X.xe I3 (stat fr3) st3 go) fun r s4 ⟨u, hr, h4⟩ => ?_)
    subst hr
    refine wpAny_passesOwn hp (thn h4 fun _ s5 ⟨x, H5, I5, r5, y5, st5, fr5⟩ => ?_)
    have I5' := I5.pinned (stat fr5) (T.obj _ _ st5)
    refine wpAny_passesOwn hp (thn (hg _ s5 σ3 H5 x u _ I5' r5 (step x H5 y5)) fun _ s6 ⟨σ6, H6, I6, q6⟩ => ?_)
    refine wpAny_passesOwn hp (thn (hb _ s6 σ6 H6 _ I6 q6) fun f s7 q7 => ?_)
    have again : ∀ {σ7 : St} {H7 : Hp}, Inv X (pins ++ pinsAt fp s5.heap) σ7 H7 s7 → N σ7 H7 → ∃ m, m < n ∧ ∃ i σ' H', Inv X pins σ' H' s7 ∧ tn i s7.heap ∧ (∀ b ∈ fp, H' b = none) ∧ W i m σ' H' := fun {σ7 H7} I7 n7 => by
      obtain ⟨m', hm, w7⟩ := hN σ7 H7 n7
      refine ⟨m', hm, i + 1, σ7, H7, I7.unpinned, T.keep _ _ _ st5 fun b hb o e => (I7.pin (b, o) (List.mem_append_right _ (List.mem_append_right _ (mem_pinsAt hb e)))).1, fun b hb => ?_, w7⟩
      obtain ⟨o, e, d⟩ := T.obj _ _ st5 b hb
      exact (I7.pin (b, o) (List.mem_append_right _ (List.mem_append_right _ (mem_pinsAt hb e)))).2.1
    cases f with
    | next => obtain ⟨σ7, H7, I7, n7⟩ := q7; exact again I7 n7
    | cont => obtain ⟨σ7, H7, I7, n7⟩ := q7; exact again I7 n7
    | brk => obtain ⟨σ7, H7, I7, q7⟩ := q7; exact ⟨σ7, H7, I7.unpinned, q7⟩
    | ret v => obtain ⟨x7, σ7, H7, I7, r7, q7⟩ := q7; exact ⟨x7, σ7, H7, I7.unpinned, r7, q7⟩
end

/-! ### the forms one uses -/
/-- over a list that the body leaves as it is -/
theorem for_list {K : PySem.W.Frag} {a : Addr} {xs : List V} {g : TG} {tb : TS} {D : Ends} {σ : St} {H : Hp} (Pv : Nat → St → Hp → Prop) (h0 : Pv 0 σ H) (hl : ∀ i σ H, i ≤ xs.length → Pv i σ H → SqL K H a xs)
    (hs : ∀ i x σ H, xs[i]? = some x → Pv i σ H → g x σ H fun σ2 H2 => tb { D with nx := Pv (i + 1), ct := Pv (i + 1), bk := D.nx } σ2 H2) (hd : ∀ σ H, Pv xs.length σ H → D.nx σ H) :
    ∃ W : Nat → Nat → St → Hp → Prop, (∃ m, W 0 m σ H) ∧ ∀ i m σ H, W i m σ H →
      ((Itl K a).stop i H ∧ D.nx σ H) ∨ ((Itl K a).go i H ∧ ∃ N : St → Hp → Prop, (∀ σ' H', N σ' H' → ∃ m', m' < m ∧ W (i + 1) m' σ' H') ∧ ∀ x H', (Itl K a).yld i H x H' → g x σ H' fun σ2 H2 => tb { D with nx := N, ct := N, bk := D.nx } σ2 H2) := by
  refine ⟨fun i m σ H => m = xs.length - i ∧ i ≤ xs.length ∧ Pv i σ H, ⟨xs.length, by simp, Nat.zero_le _, h0⟩, ?_⟩
  rintro i m σ H ⟨rfl, hi, p⟩
  have q := hl i σ H hi p
  by_cases hlt : i < xs.length
  · refine .inr ⟨⟨xs, xs[i], q, by simp [hlt]⟩, Pv (i + 1), fun σ' H' p' => ⟨xs.length - (i + 1), by omega, rfl, hlt, p'⟩, fun x H' y => ?_⟩
    obtain ⟨e, y⟩ := y
    subst e
    exact hs i x σ _ (y xs q) p
  · have e : i = xs.length := by omega
    subst e
    exact .inl ⟨⟨xs, q, Nat.le_refl _⟩, hd σ H p⟩
theorem for_tup {K : PySem.W.Frag} {a : Addr} {xs : List V} {g : TG} {tb : TS} {D : Ends} {σ : St} {H : Hp} (Pv : Nat → St → Hp → Prop) (h0 : Pv 0 σ H) (hl : ∀ i σ H, i ≤ xs.length → Pv i σ H → SqT K H a xs)
    (hs : ∀ i x σ H, xs[i]? = some x → Pv i σ H → g x σ H fun σ2 H2 => tb { D with nx := Pv (i + 1), ct := Pv (i + 1), bk := D.nx } σ2 H2) (hd : ∀ σ H, Pv xs.length σ H → D.nx σ H) :
    ∃ W : Nat → Nat → St → Hp → Prop, (∃ m, W 0 m σ H) ∧ ∀ i m σ H, W i m σ H →
      ((Itt K a).stop i H ∧ D.nx σ H) ∨ ((Itt K a).go i H ∧ ∃ N : St → Hp → Prop, (∀ σ' H', N σ' H' → ∃ m', m' < m ∧ W (i + 1) m' σ' H') ∧ ∀ x H', (Itt K a).yld i H x H' → g x σ H' fun σ2 H2 => tb { D with nx := N, ct := N, bk := D.nx } σ2 H2) := by
  refine ⟨fun i m σ H => m = xs.length - i ∧ i ≤ xs.length ∧ Pv i σ H, ⟨xs.length, by simp, Nat.zero_le _, h0⟩, ?_⟩
  rintro i m σ H ⟨rfl, hi, p⟩
  have q := hl i σ H hi p
  by_cases hlt : i < xs.length
  · refine .inr ⟨⟨xs, xs[i], q, by simp [hlt]⟩, Pv (i + 1), fun σ' H' p' => ⟨xs.length - (i + 1), by omega, rfl, hlt, p'⟩, fun x H' y => ?_⟩
    obtain ⟨e, y⟩ := y
    subst e
    exact hs i x σ _ (y xs q) p
  · have e : i = xs.length := by omega
    subst e
    exact .inl ⟨⟨xs, q, Nat.le_refl _⟩, hd σ H p⟩
theorem for_range {lo : Int} {n : Nat} {g : TG} {tb : TS} {D : Ends} {σ : St} {H : Hp} (Pv : Nat → St → Hp → Prop) (h0 : Pv 0 σ H)
    (hs : ∀ i σ H, i < n → Pv i σ H → g (.int (lo + i)) σ H fun σ2 H2 => tb { D with nx := Pv (i + 1), ct := Pv (i + 1), bk := D.nx } σ2 H2) (hd : ∀ σ H, Pv n σ H → D.nx σ H) :
    ∃ W : Nat → Nat → St → Hp → Prop, (∃ m, W 0 m σ H) ∧ ∀ i m σ H, W i m σ H →
      ((Itr lo n).stop i H ∧ D.nx σ H) ∨ ((Itr lo n).go i H ∧ ∃ N : St → Hp → Prop, (∀ σ' H', N σ' H' → ∃ m', m' < m ∧ W (i + 1) m' σ' H') ∧ ∀ x H', (Itr lo n).yld i H x H' → g x σ H' fun σ2 H2 => tb { D with nx := N, ct := N, bk := D.nx } σ2 H2) := by
  refine ⟨fun i m σ H => m = n - i ∧ i ≤ n ∧ Pv i σ H, ⟨n, by simp, Nat.zero_le _, h0⟩, ?_⟩
  rintro i m σ H ⟨rfl, hi, p⟩
  by_cases hlt : i < n
  · refine .inr ⟨hlt, Pv (i + 1), fun σ' H' p' => ⟨n - (i + 1), by omega, rfl, hlt, p'⟩, fun x H' y => ?_⟩
    obtain ⟨e, y⟩ := y
    subst e y
    exact hs i σ _ hlt p
  · have e : i = n := by omega
    subst e
    exact .inl ⟨Nat.le_refl _, hd σ H p⟩
/-- while, by a word and a measure of the state -/
theorem while_by {c : TT} {tb : TS} {D : Ends} {σ : St} {H : Hp} (Pv : St → Hp → Prop) (μ : St → Hp → Nat) (h0 : Pv σ H)
    (hs : ∀ σ H, Pv σ H → c σ H fun b H1 => if b = true then tb { D with nx := fun σ' H' => Pv σ' H' ∧ μ σ' H' < μ σ H, ct := fun σ' H' => Pv σ' H' ∧ μ σ' H' < μ σ H, bk := D.nx } σ H1 else D.nx σ H1)
    (mono : ∀ σ H Q Q', (∀ b H1, Q b H1 → Q' b H1) → c σ H Q → c σ H Q') : tWhile c tb D σ H := by
  refine ⟨fun m σ H => m = μ σ H ∧ Pv σ H, ⟨_, rfl, h0⟩, ?_⟩
  rintro m σ H ⟨rfl, p⟩
  refine mono σ H _ _ (fun b H1 q => ?_) (hs σ H p)
  cases b with
  | true => exact ⟨_, fun σ' H' ⟨p', l⟩ => ⟨_, l, rfl, p'⟩, q⟩
  | false => exact q
end L2

namespace L2
open PySem PySem.Spec PyProof.Rows

abbrev R2 := V → V → Hp → VK → Prop
/-- a two-place operation on values: f is binaryOp op, inplaceOp op or compareOp op -/
def OpR (X : Cx) (f : Value → Value → Sem Value) (r : R2) : Prop :=
  ∀ (pins : List (Addr × Obj)) (s : Shared) (σ : St) (H : Hp) (x y : V) (v u : Value) (Q : VK), Inv X pins σ H s → RelV x v → RelV y u → r x y H Q →
    wpAny (model X.prog X.w) X.A (f v u) (EP X pins σ Q) X.xe s
/-- a one-place operation -/
def UnR (X : Cx) (f : Value → Sem Value) (r : V → Hp → VK → Prop) : Prop :=
  ∀ (pins : List (Addr × Obj)) (s : Shared) (σ : St) (H : Hp) (x : V) (v : Value) (Q : VK), Inv X pins σ H s → RelV x v → r x H Q →
    wpAny (model X.prog X.w) X.A (f v) (EP X pins σ Q) X.xe s
/-- a call of a value that is known (a builtin, a type) with values -/
def CallR (X : Cx) (f : Value) (r : List V → Hp → VK → Prop) : Prop :=
  ∀ (pins : List (Addr × Obj)) (s : Shared) (σ : St) (H : Hp) (xs : List V) (us : List Value) (Q : VK), Inv X pins σ H s → Vals xs us → r xs H Q →
    wpAny (model X.prog X.w) X.A (call f us) (EP X pins σ Q) X.xe s
/-- a value's truth -/
def TruR (X : Cx) (r : V → Hp → (Bool → Hp → Prop) → Prop) : Prop :=
  ∀ (pins : List (Addr × Obj)) (s : Shared) (σ : St) (H : Hp) (x : V) (v : Value) (Q : Bool → Hp → Prop), Inv X pins σ H s → RelV x v → r x H Q →
    wpAny (model X.prog X.w) X.A (truthy v) (TP X pins σ Q) X.xe s

def tOp (r : R2) (ta tb : TE) : TE := fun σ H Q => ta σ H fun x H1 => tb σ H1 fun y H2 => r x y H2 Q
def tUn (r : V → Hp → VK → Prop) (ta : TE) : TE := fun σ H Q => ta σ H fun x H1 => r x H1 Q
/-- ints in, under C, and a value out -/
def rI (C : Int → Int → Prop) (g : Int → Int → V) : R2 := fun x y H Q => ∃ i j, x = .int i ∧ y = .int j ∧ C i j ∧ Q (g i j) H
def rI0 (g : Int → Int → V) : R2 := fun x y H Q => ∃ i j, x = .int i ∧ y = .int j ∧ Q (g i j) H
def rU (g : Int → V) : V → Hp → VK → Prop := fun x H Q => ∃ i, x = .int i ∧ Q (g i) H

section
variable {X : Cx} {a b c : Expr} {ta tb tc : TE} {pos : Pos}

theorem binT (ha : PE X a ta) (hb : PE X b tb) {pins : List (Addr × Obj)} {s : Shared} {σ : St} {H : Hp} {R : V → V → Hp → Prop} (I : Inv X pins σ H s)
    (h : ta σ H fun x H1 => tb σ H1 fun y H2 => R x y H2) {Q : Value → Shared → Prop} {f : Value → Value → Sem Value}
    (hf : ∀ v u s2 x y H2, Inv X pins σ H2 s2 → RelV x v → RelV y u → R x y H2 → wpAny (model X.prog X.w) X.A (f v u) Q X.xe s2) :
    wpAny (model X.prog X.w) X.A (eval a X.env) (fun v s₁ => wpAny (model X.prog X.w) X.A (eval b X.env) (fun u s₂ => wpAny (model X.prog X.w) X.A (f v u) Q X.xe s₂) X.xe s₁) X.xe s := by
  refine thn (ha pins s σ H _ I h) fun v s1 ⟨x, H1, I1, r1, q1⟩ => ?_
  refine thn (hb pins s1 σ H1 _ I1 q1) fun u s2 ⟨y, H2, I2, r2, q2⟩ => ?_
  exact hf v u s2 x y H2 I2 r1 r2 q2

theorem pe_op {op : Operator} {r : R2} (ho : OpR X (binaryOp op) r) (ha : PE X a ta) (hb : PE X b tb) : PE X (.BinOp a op b pos) (tOp r ta tb) := by
  intro pins s σ H Q I h
  exact wpAny_BinOp (binT ha hb I h fun v u s2 x y H2 I2 rx ry q => ho pins s2 σ H2 x y v u Q I2 rx ry q)
theorem pe_un {op : UnaryOp} {r : V → Hp → VK → Prop} (ho : UnR X (unaryOp op) r) (ha : PE X a ta) : PE X (.UnaryOp op a pos) (tUn r ta) := by
  intro pins s σ H Q I h
  exact UnaryOp_ (thn (ha pins s σ H _ I h) fun v s1 ⟨x, H1, I1, r1, q1⟩ => ho pins s1 σ H1 x v Q I1 r1 q1)
/-- a op= e at a name: the name's slot i -/
theorem augR {op : Operator} {r : R2} (ho : OpR X (inplaceOp op) r) {pins : List (Addr × Obj)} {s : Shared} {σ : St} {H : Hp} {x y : V} {v u : Value} {Q : VK} (I : Inv X pins σ H s)
    (rx : RelV x v) (ry : RelV y u) (q : r x y H Q) : wpAny (model X.prog X.w) X.A (inplaceOp op v u) (EP X pins σ Q) X.xe s := ho pins s σ H x y v u Q I rx ry q

/-! ### ints -/
theorem opI {f : Value → Value → Sem Value} {C : Int → Int → Prop} {g : Int → Int → Int}
    (rule : ∀ (i j : Int) (t u : Tok) (s : Shared) (Q : Value → Shared → Prop) (E : Value → Shared → Prop), C i j → Q (.int (g i j) s.toks) { s with toks := s.toks + 1 } → wpAny (model X.prog X.w) X.A (f (.int i t) (.int j u)) Q E s) :
    OpR X f (rI C fun i j => .int (g i j)) := by
  intro pins s σ H x y v u Q I rx ry h
  obtain ⟨i, j, rfl, rfl, hc, q⟩ := h
  obtain ⟨t, rfl⟩ := rx
  obtain ⟨t', rfl⟩ := ry
  exact rule i j t t' s _ _ hc ⟨.int (g i j), H, I.tok _, ⟨_, rfl⟩, q⟩
theorem opI0 {f : Value → Value → Sem Value} {g : Int → Int → Int}
    (rule : ∀ (i j : Int) (t u : Tok) (s : Shared) (Q : Value → Shared → Prop) (E : Value → Shared → Prop), Q (.int (g i j) s.toks) { s with toks := s.toks + 1 } → wpAny (model X.prog X.w) X.A (f (.int i t) (.int j u)) Q E s) :
    OpR X f (rI0 fun i j => .int (g i j)) := by
  intro pins s σ H x y v u Q I rx ry h
  obtain ⟨i, j, rfl, rfl, q⟩ := h
  obtain ⟨t, rfl⟩ := rx
  obtain ⟨t', rfl⟩ := ry
  exact rule i j t t' s _ _ ⟨.int (g i j), H, I.tok _, ⟨_, rfl⟩, q⟩
theorem opB0 {f : Value → Value → Sem Value} {g : Int → Int → Bool}
    (rule : ∀ (i j : Int) (t u : Tok) (s : Shared) (Q : Value → Shared → Prop) (E : Value → Shared → Prop), Q (.bool (g i j)) s → wpAny (model X.prog X.w) X.A (f (.int i t) (.int j u)) Q E s) :
    OpR X f (rI0 fun i j => .bl (g i j)) := by
  intro pins s σ H x y v u Q I rx ry h
  obtain ⟨i, j, rfl, rfl, q⟩ := h
  obtain ⟨t, rfl⟩ := rx
  obtain ⟨t', rfl⟩ := ry
  exact rule i j t t' s _ _ ⟨.bl (g i j), H, I, rfl, q⟩

def CDiv (i j : Int) : Prop := 0 < j ∧ j < 1073741824
def CDivN (i j : Int) : Prop := j ≠ 0 ∧ j.natAbs < 1073741824
def CPow (i j : Int) : Prop := 0 ≤ j ∧ j ≤ 1000000 ∧ i.natAbs < 2 ^ 64
def CMul (i j : Int) : Prop := (-(2 ^ 64) < i ∧ i < 2 ^ 64) ∨ (-(2 ^ 64) < j ∧ j < 2 ^ 64)
theorem CMul.ok {i j : Int} (h : CMul i j) : IntMulOk i j := by
  rcases h with ⟨h1, h2⟩ | ⟨h1, h2⟩
  · exact .of_left (intBits_le_64 h1 h2)
  · exact .of_right (intBits_le_64 h1 h2)
theorem two_pow_nn (k : Nat) : (0 : Int) ≤ 2 ^ k := by
  rw [two_pow_cast]
  exact Int.natCast_nonneg _

theorem op_add : OpR X (binaryOp .Add) (rI0 fun i j => .int (i + j)) := opI0 fun _ _ _ _ _ _ _ q => add_int q
theorem op_sub : OpR X (binaryOp .Sub) (rI0 fun i j => .int (i - j)) := opI0 fun _ _ _ _ _ _ _ q => sub_int q
theorem op_mul : OpR X (binaryOp .Mult) (rI CMul fun i j => .int (i * j)) := opI fun _ _ _ _ _ _ _ hc q => mul_int q hc.ok
/-- // by a positive divisor -/
theorem op_fdiv : OpR X (binaryOp .FloorDiv) (rI CDiv fun i j => .int (i / j)) := opI fun i j _ _ _ _ _ hc q => by
  have h1 : (0 : Int) < j := hc.1
  have h2 : j < 1073741824 := hc.2
  exact floordiv_int (by omega) (by rw [Int.fdiv_eq_ediv_of_nonneg i (by omega)]; exact q) (.inl (PyProof.noPylong_small (by omega)))
theorem op_fdivN : OpR X (binaryOp .FloorDiv) (rI CDivN fun i j => .int (i.fdiv j)) := opI fun _ _ _ _ _ _ _ hc q => floordiv_int hc.1 q (.inl (PyProof.noPylong_small hc.2))
/-- % by a positive divisor of any size -/
theorem op_mod : OpR X (binaryOp .Mod) (rI (fun _ j => 0 < j) fun i j => .int (i % j)) := opI fun i j _ _ _ _ _ hc q => by
  have h1 : (0 : Int) < j := hc
  exact mod_int' (by omega) (by rw [Int.fmod_eq_emod_of_nonneg i (by omega)]; exact q)
theorem op_modN : OpR X (binaryOp .Mod) (rI (fun _ j => j ≠ 0) fun i j => .int (i.fmod j)) := opI fun _ _ _ _ _ _ _ hc q => mod_int' hc q
theorem op_pow : OpR X (binaryOp .Pow) (rI CPow fun i j => .int (i ^ j.toNat)) := opI fun _ _ _ _ _ _ _ hc q => pow_int_small hc.1 hc.2.1 hc.2.2 q
theorem op_shl : OpR X (binaryOp .LShift) (rI CPow fun i j => .int (i * 2 ^ j.toNat)) := opI fun _ _ _ _ _ _ _ hc q => lshift_int_small hc.1 hc.2.1 hc.2.2 q
theorem op_shr : OpR X (binaryOp .RShift) (rI (fun _ j => 0 ≤ j) fun i j => .int (i / 2 ^ j.toNat)) := opI fun i j _ _ _ _ _ hc q =>
  rshift_int hc (by rw [Int.fdiv_eq_ediv_of_nonneg i (two_pow_nn _)]; exact q)
theorem op_and : OpR X (binaryOp .BitAnd) (rI0 fun i j => .int (Builtin.bitAnd i j)) := opI0 fun _ _ _ _ _ _ _ q => and_int q
theorem op_or : OpR X (binaryOp .BitOr) (rI0 fun i j => .int (Builtin.bitOr i j)) := opI0 fun _ _ _ _ _ _ _ q => or_int q
theorem op_xor : OpR X (binaryOp .BitXor) (rI0 fun i j => .int (Builtin.bitXor i j)) := opI0 fun _ _ _ _ _ _ _ q => xor_int q

theorem iop_add : OpR X (inplaceOp .Add) (rI0 fun i j => .int (i + j)) := opI0 fun _ _ _ _ _ _ _ q => iadd_int q
theorem iop_sub : OpR X (inplaceOp .Sub) (rI0 fun i j => .int (i - j)) := opI0 fun _ _ _ _ _ _ _ q => isub_int q
theorem iop_mul : OpR X (inplaceOp .Mult) (rI CMul fun i j => .int (i * j)) := opI fun _ _ _ _ _ _ _ hc q => imul_int q hc.ok
theorem iop_fdiv : OpR X (inplaceOp .FloorDiv) (rI CDiv fun i j => .int (i / j)) := opI fun i j _ _ _ _ _ hc q => by
  have h1 : (0 : Int) < j := hc.1
  have h2 : j < 1073741824 := hc.2
  exact ifloordiv_int (by omega) (by rw [Int.fdiv_eq_ediv_of_nonneg i (by omega)]; exact q) (.inl (PyProof.noPylong_small (by omega)))
theorem iop_mod : OpR X (inplaceOp .Mod) (rI (fun _ j => 0 < j) fun i j => .int (i % j)) := opI fun i j _ _ _ _ _ hc q => by
  have h1 : (0 : Int) < j := hc
  exact imod_int (by omega) (by rw [Int.fmod_eq_emod_of_nonneg i (by omega)]; exact q)
theorem iop_shl : OpR X (inplaceOp .LShift) (rI CPow fun i j => .int (i * 2 ^ j.toNat)) := opI fun _ _ _ _ _ _ _ hc q => ilshift_int_small hc.1 hc.2.1 hc.2.2 q
theorem iop_shr : OpR X (inplaceOp .RShift) (rI (fun _ j => 0 ≤ j) fun i j => .int (i / 2 ^ j.toNat)) := opI fun i j _ _ _ _ _ hc q =>
  irshift_int hc (by rw [Int.fdiv_eq_ediv_of_nonneg i (two_pow_nn _)]; exact q)
theorem iop_and : OpR X (inplaceOp .BitAnd) (rI0 fun i j => .int (Builtin.bitAnd i j)) := opI0 fun _ _ _ _ _ _ _ q => iand_int q
theorem iop_or : OpR X (inplaceOp .BitOr) (rI0 fun i j => .int (Builtin.bitOr i j)) := opI0 fun _ _ _ _ _ _ _ q => ior_int q
theorem iop_xor : OpR X (inplaceOp .BitXor) (rI0 fun i j => .int (Builtin.bitXor i j)) := opI0 fun _ _ _ _ _ _ _ q => ixor_int q

theorem unI {f : Value → Sem Value} {g : Int → Int}
    (rule : ∀ (i : Int) (t : Tok) (s : Shared) (Q : Value → Shared → Prop) (E : Value → Shared → Prop), Q (.int (g i) s.toks) { s with toks := s.toks + 1 } → wpAny (model X.prog X.w) X.A (f (.int i t)) Q E s) :
    UnR X f (rU fun i => .int (g i)) := by
  intro pins s σ H x v Q I rx h
  obtain ⟨i, rfl, q⟩ := h
  obtain ⟨t, rfl⟩ := rx
  exact rule i t s _ _ ⟨.int (g i), H, I.tok _, ⟨_, rfl⟩, q⟩
theorem un_neg : UnR X (unaryOp .USub) (rU fun i => .int (-i)) := unI fun _ _ _ _ _ q => neg_int q
theorem un_inv : UnR X (unaryOp .Invert) (rU fun i => .int (Builtin.bitNot i)) := unI fun _ _ _ _ _ q => invert_int q

/-! ### bools among ints: n += (a < b) -/
theorem op_add_ib : OpR X (binaryOp .Add) (fun x y H Q => ∃ i k, x = .int i ∧ y = .bl k ∧ Q (.int (i + b2i k)) H) := by
  intro pins s σ H x y v u Q I rx ry h
  obtain ⟨i, k, rfl, rfl, q⟩ := h
  obtain ⟨t, rfl⟩ := rx
  cases ry
  exact add_int_bool ⟨.int (i + b2i k), H, I.tok _, ⟨_, rfl⟩, q⟩
end

/-! ### comparisons -/
/-- the scalars that == tells apart as data does -/
def scal : V → V → Bool
  | .non, .non => true | .non, .int _ => true | .int _, .non => true | .non, .bl _ => true | .bl _, .non => true | .non, .str _ => true | .str _, .non => true
  | .int _, .int _ => true | .bl _, .bl _ => true | .str _, .str _ => true | .byt _, .byt _ => true
  | .int _, .str _ => true | .str _, .int _ => true | .bl _, .str _ => true | .str _, .bl _ => true
  | _, _ => false
def rEq : R2 := fun x y H Q => scal x y = true ∧ Q (.bl (decide (x = y))) H
def rNe : R2 := fun x y H Q => scal x y = true ∧ Q (.bl (!decide (x = y))) H

theorem dec_int {i j : Int} : decide (V.int i = V.int j) = (i == j) := by
  rw [Bool.eq_iff_iff]
  simp
theorem dec_bl {i j : Bool} : decide (V.bl i = V.bl j) = (i == j) := by
  rw [Bool.eq_iff_iff]
  simp
theorem dec_str {i j : Str} : decide (V.str i = V.str j) = (i == j) := by
  rw [Bool.eq_iff_iff]
  simp
theorem dec_byt {i j : Array UInt8} : decide (V.byt i = V.byt j) = (i.toList == j.toList) := by
  rw [Bool.eq_iff_iff]
  cases i
  cases j
  simp

section
variable {X : Cx} {a b c : Expr} {ta tb tc : TE} {pos : Pos}
theorem fin_bl {pins : List (Addr × Obj)} {σ : St} {H : Hp} {s : Shared} {Q : VK} {k k' : Bool} (I : Inv X pins σ H s) (q : Q (.bl k) H) (e : k = k') : EP X pins σ Q (.bool k') s := by
  subst e
  exact ⟨.bl k, H, I, rfl, q⟩
theorem op_eq : OpR X (compareOp .Eq) rEq := by
  intro pins s σ H x y v u Q I rx ry h
  obtain ⟨hs, q⟩ := h
  cases x with
  | non =>
    cases rx
    cases y with
    | non => cases ry; exact PySem.EqNone.eq_none_none (fin_bl I q (by simp))
    | bl j => cases ry; exact PySem.EqNone.eq_none_bool (fin_bl I q (by simp))
    | int j => obtain ⟨t', rfl⟩ := ry; exact PySem.EqNone.eq_none_int (fin_bl I q (by simp))
    | str j => obtain ⟨t', rfl⟩ := ry; exact PySem.EqNone.eq_none_str (fin_bl I q (by simp))
    | _ => exact absurd (show false = true from hs) Bool.false_ne_true
  | bl i =>
    cases rx
    cases y with
    | non => cases ry; exact PySem.EqNone.eq_bool_none (fin_bl I q (by simp))
    | bl j => cases ry; exact eq_bool (fin_bl I q dec_bl)
    | str j => obtain ⟨t', rfl⟩ := ry; exact PySem.EqMixed.eq_bool_str (fin_bl I q (by simp))
    | _ => exact absurd (show false = true from hs) Bool.false_ne_true
  | int i =>
    obtain ⟨t, rfl⟩ := rx
    cases y with
    | non => cases ry; exact PySem.EqNone.eq_int_none (fin_bl I q (by simp))
    | int j => obtain ⟨t', rfl⟩ := ry; exact eq_int (fin_bl I q dec_int)
    | str j => obtain ⟨t', rfl⟩ := ry; exact PySem.EqMixed.eq_int_str (fin_bl I q (by simp))
    | _ => exact absurd (show false = true from hs) Bool.false_ne_true
  | str i =>
    obtain ⟨t, rfl⟩ := rx
    cases y with
    | non => cases ry; exact PySem.EqNone.eq_str_none (fin_bl I q (by simp))
    | bl j => cases ry; exact PySem.EqMixed.eq_str_bool (fin_bl I q (by simp))
    | int j => obtain ⟨t', rfl⟩ := ry; exact PySem.EqMixed.eq_str_int (fin_bl I q (by simp))
    | str j => obtain ⟨t', rfl⟩ := ry; exact eq_str (fin_bl I q dec_str)
    | _ => exact absurd (show false = true from hs) Bool.false_ne_true
  | byt i =>
    obtain ⟨t, rfl⟩ := rx
    cases y with
    | byt j => obtain ⟨t', rfl⟩ := ry; exact PySem.W.eq_bytes (fin_bl I q dec_byt)
    | _ => exact absurd (show false = true from hs) Bool.false_ne_true
  | _ => cases y <;> exact absurd (show false = true from hs) Bool.false_ne_true
theorem op_ne : OpR X (compareOp .NotEq) rNe := by
  intro pins s σ H x y v u Q I rx ry h
  obtain ⟨hs, q⟩ := h
  cases x with
  | non =>
    cases rx
    cases y with
    | non => cases ry; exact PySem.EqNone.ne_none_none (fin_bl I q (by simp))
    | bl j => cases ry; exact PySem.EqNone.ne_none_bool (fin_bl I q (by simp))
    | int j => obtain ⟨t', rfl⟩ := ry; exact PySem.EqNone.ne_none_int (fin_bl I q (by simp))
    | str j => obtain ⟨t', rfl⟩ := ry; exact PySem.EqNone.ne_none_str (fin_bl I q (by simp))
    | _ => exact absurd (show false = true from hs) Bool.false_ne_true
  | bl i =>
    cases rx
    cases y with
    | non => cases ry; exact PySem.EqNone.ne_bool_none (fin_bl I q (by simp))
    | bl j => cases ry; exact ne_bool (fin_bl I q (congrArg not dec_bl))
    | str j => obtain ⟨t', rfl⟩ := ry; exact PySem.EqMixed.ne_bool_str (fin_bl I q (by simp))
    | _ => exact absurd (show false = true from hs) Bool.false_ne_true
  | int i =>
    obtain ⟨t, rfl⟩ := rx
    cases y with
    | non => cases ry; exact PySem.EqNone.ne_int_none (fin_bl I q (by simp))
    | int j => obtain ⟨t', rfl⟩ := ry; exact ne_int (fin_bl I q (congrArg not dec_int))
    | str j => obtain ⟨t', rfl⟩ := ry; exact PySem.EqMixed.ne_int_str (fin_bl I q (by simp))
    | _ => exact absurd (show false = true from hs) Bool.false_ne_true
  | str i =>
    obtain ⟨t, rfl⟩ := rx
    cases y with
    | non => cases ry; exact PySem.EqNone.ne_str_none (fin_bl I q (by simp))
    | bl j => cases ry; exact PySem.EqMixed.ne_str_bool (fin_bl I q (by simp))
    | int j => obtain ⟨t', rfl⟩ := ry; exact PySem.EqMixed.ne_str_int (fin_bl I q (by simp))
    | str j => obtain ⟨t', rfl⟩ := ry; exact ne_str (fin_bl I q (congrArg not dec_str))
    | _ => exact absurd (show false = true from hs) Bool.false_ne_true
  | byt i =>
    obtain ⟨t, rfl⟩ := rx
    cases y with
    | byt j => obtain ⟨t', rfl⟩ := ry; exact PySem.W.ne_bytes (fin_bl I q (congrArg not dec_byt))
    | _ => exact absurd (show false = true from hs) Bool.false_ne_true
  | _ => cases y <;> exact absurd (show false = true from hs) Bool.false_ne_true

theorem op_lt : OpR X (compareOp .Lt) (rI0 fun i j => .bl (decide (i < j))) := opB0 fun _ _ _ _ _ _ _ q => lt_int q
theorem op_le : OpR X (compareOp .LtE) (rI0 fun i j => .bl (decide (i ≤ j))) := opB0 fun _ _ _ _ _ _ _ q => le_int q
theorem op_gt : OpR X (compareOp .Gt) (rI0 fun i j => .bl (decide (j < i))) := opB0 fun _ _ _ _ _ _ _ q => gt_int q
theorem op_ge : OpR X (compareOp .GtE) (rI0 fun i j => .bl (decide (j ≤ i))) := opB0 fun _ _ _ _ _ _ _ q => ge_int q
theorem op_lt_str : OpR X (compareOp .Lt) (fun x y H Q => ∃ i j, x = .str i ∧ y = .str j ∧ Q (.bl (decide (i.cps.toList < j.cps.toList))) H) := by
  intro pins s σ H x y v u Q I rx ry h
  obtain ⟨i, j, rfl, rfl, q⟩ := h
  obtain ⟨t, rfl⟩ := rx
  obtain ⟨t', rfl⟩ := ry
  exact lt_str (fin_bl I q rfl)
/-- the one string within the other -/
theorem op_in_str : OpR X (compareOp .In) (fun x y H Q => ∃ i j, x = .str i ∧ y = .str j ∧ Q (.bl (!(Builtin.Str.occurrences j i 0 j.length 1).isEmpty)) H) := by
  intro pins s σ H x y v u Q I rx ry h
  obtain ⟨i, j, rfl, rfl, q⟩ := h
  obtain ⟨t, rfl⟩ := rx
  obtain ⟨t', rfl⟩ := ry
  exact in_str (fin_bl I q rfl)

/-- is None, is not None: the right side a value none -/
theorem op_isN : OpR X (compareOp .Is) (fun x y H Q => y = .non ∧ Q (.bl (decide (x = .non))) H) := by
  intro pins s σ H x y v u Q I rx ry h
  obtain ⟨rfl, q⟩ := h
  cases ry
  refine is_none_gen (fin_bl I q ?_)
  cases x <;> first
    | (cases rx; rfl)
    | (obtain ⟨t, rfl⟩ := rx; rfl)
theorem op_notN : OpR X (compareOp .IsNot) (fun x y H Q => y = .non ∧ Q (.bl (!decide (x = .non))) H) := by
  intro pins s σ H x y v u Q I rx ry h
  obtain ⟨rfl, q⟩ := h
  cases ry
  refine isnot_none_gen (fin_bl I q ?_)
  cases x <;> first
    | (cases rx; rfl)
    | (obtain ⟨t, rfl⟩ := rx; rfl)

theorem op_notin_str : OpR X (compareOp .NotIn) (fun x y H Q => ∃ i j, x = .str i ∧ y = .str j ∧ Q (.bl (!(!(Builtin.Str.occurrences j i 0 j.length 1).isEmpty))) H) := by
  intro pins s σ H x y v u Q I rx ry h
  obtain ⟨i, j, rfl, rfl, q⟩ := h
  obtain ⟨t, rfl⟩ := rx
  obtain ⟨t', rfl⟩ := ry
  exact notIn_str (fin_bl I q rfl)
/-- is, is not of two objects that are tracked lists or instances -/
def isObj : HO → Bool
  | .lst _ => true
  | .ins _ _ _ => true
  | _ => false
theorem obj_there {pins : List (Addr × Obj)} {s : Shared} {σ : St} {H : Hp} {a : Addr} {o : HO} (I : Inv X pins σ H s) (h : H a = some o) (p : isObj o = true) : ∃ ob, s.heap.get? a = some ob ∧ ob.cls ≠ .type "tuple" := by
  cases o with
  | lst xs =>
    obtain ⟨_, its, n, _, e⟩ : xs.length ≤ sizeLine ∧ ∃ (its : List Value) (n : Nat), Vals xs its ∧ s.heap.get? a = some { cls := .type "list", data := .seq its.toArray n } := I.hok a _ h
    exact ⟨_, e, (by show Value.type "list" ≠ .type "tuple"; decide +kernel)⟩
  | ins C dx fs =>
    have x := I.hok a _ h
    obtain ⟨_, _, _, e, _⟩ := x
    exact ⟨_, e, (by show Value.ref C ≠ .type "tuple"; exact fun z => by cases z)⟩
  | _ => exact absurd (show false = true from p) Bool.false_ne_true
theorem op_is_ref : OpR X (compareOp .Is) (fun x y H Q => ∃ a b oa ob, x = .ref a ∧ y = .ref b ∧ H a = some oa ∧ isObj oa = true ∧ H b = some ob ∧ isObj ob = true ∧ Q (.bl (decide (a = b))) H) := by
  intro pins s σ H x y v u Q I rx ry h
  obtain ⟨a, b, oa, ob, rfl, rfl, ha, pa, hb, pb, q⟩ := h
  cases rx
  cases ry
  obtain ⟨o1, e1, n1⟩ := obj_there I ha pa
  obtain ⟨o2, e2, _⟩ := obj_there I hb pb
  by_cases z : a = b
  · subst z
    exact wpAny_is_ref_self (fin_bl I q (by simp))
  · exact wpAny_is_ref_other z e1 e2 n1 (fin_bl I q (by simp [z]))
theorem op_isnot_ref : OpR X (compareOp .IsNot) (fun x y H Q => ∃ a b oa ob, x = .ref a ∧ y = .ref b ∧ H a = some oa ∧ isObj oa = true ∧ H b = some ob ∧ isObj ob = true ∧ Q (.bl (!decide (a = b))) H) := by
  intro pins s σ H x y v u Q I rx ry h
  obtain ⟨a, b, oa, ob, rfl, rfl, ha, pa, hb, pb, q⟩ := h
  cases rx
  cases ry
  obtain ⟨o1, e1, n1⟩ := obj_there I ha pa
  obtain ⟨o2, e2, _⟩ := obj_there I hb pb
  by_cases z : a = b
  · subst z
    exact wpAny_isNot_ref_self (fin_bl I q (by simp))
  · exact wpAny_isNot_ref_other z e1 e2 n1 (fin_bl I q (by simp [z]))

/-- two rules for one operation: by cases -/
theorem OpR.or {f : Value → Value → Sem Value} {r r' : R2} (h : OpR X f r) (h' : OpR X f r') : OpR X f (fun x y H Q => r x y H Q ∨ r' x y H Q) := by
  intro pins s σ H x y v u Q I rx ry q
  rcases q with q | q
  · exact h pins s σ H x y v u Q I rx ry q
  · exact h' pins s σ H x y v u Q I rx ry q

theorem nomark (b : Expr) {op : CmpOp} (h : op ≠ .In := by decide) (h2 : op ≠ .NotIn := by decide) : behindInMarks op b = false := by
  have e1 : (op == CmpOp.In) = false := by cases op <;> first | rfl | exact absurd rfl h
  have e2 : (op == CmpOp.NotIn) = false := by cases op <;> first | rfl | exact absurd rfl h2
  cases b <;> simp [behindInMarks, e1, e2]
/-- a comparison as a value; hm: nomark b, or (for in, not in) by with_unfolding_all rfl -/
theorem pe_cmpR {op : CmpOp} {r : R2} (ho : OpR X (compareOp op) r) (ha : PE X a ta) (hb : PE X b tb) (hm : behindInMarks op b = false) : PE X (.Compare a [op] [b] pos) (tOp r ta tb) := by
  intro pins s σ H Q I h
  exact wpAny_Compare1 (binT ha hb I h fun v u s2 x y H2 I2 rx ry q => ho pins s2 σ H2 x y v u Q I2 rx ry q) hm
/-- a reading of a value as a test -/
def tTest (t : TE) : TT := fun σ H Q => t σ H fun x H' => ∃ k, x = .bl k ∧ Q k H'
theorem pt_cmpR {op : CmpOp} {r : R2} (ho : OpR X (compareOp op) r) (ha : PE X a ta) (hb : PE X b tb) (hm : behindInMarks op b = false) : PT X (.Compare a [op] [b] pos) (tTest (tOp r ta tb)) := by
  intro pins s σ H Q I h
  refine wpAny_isTrue_Compare1 (thn (ha pins s σ H _ I h) fun v s1 ⟨x, H1, I1, r1, q1⟩ => thn (hb pins s1 σ H1 _ I1 q1) fun u s2 ⟨y, H2, I2, r2, q2⟩ =>
    thn (ho pins s2 σ H2 x y v u _ I2 r1 r2 q2) fun c s3 ⟨z, H3, I3, r3, k, e, q3⟩ => ?_) hm
  subst e
  cases r3
  exact wpAny_truthy_bool ⟨H3, I3, q3⟩
/-- a op1 b op2 c -/
def tChain (r r' : R2) (ta tb tc : TE) : TE := fun σ H Q => ta σ H fun x H1 => tb σ H1 fun y H2 => r x y H2 fun z H3 => ∃ k, z = .bl k ∧
  (if k = true then tc σ H3 fun w' H4 => r' y w' H4 Q else Q (.bl false) H3)
theorem pe_chain {op op' : CmpOp} {r r' : R2} (ho : OpR X (compareOp op) r) (ho' : OpR X (compareOp op') r') (ha : PE X a ta) (hb : PE X b tb) (hc : PE X c tc)
    (hm : lastMarks [op, op'] [b, c] = false := by with_unfolding_all rfl) : PE X (.Compare a [op, op'] [b, c] pos) (tChain r r' ta tb tc) := by
  intro pins s σ H Q I h
  refine Compare_chain (thn (ha pins s σ H _ I h) fun v s1 ⟨x, H1, I1, r1, q1⟩ => chain_link (thn (hb pins s1 σ H1 _ I1 q1) fun u s2 ⟨y, H2, I2, r2, q2⟩ =>
    thn (ho pins s2 σ H2 x y v u _ I2 r1 r2 q2) fun d s3 ⟨z, H3, I3, r3, k, e, q3⟩ => ?_)) hm
  subst e
  cases r3
  refine wpAny_truthy_bool ?_
  cases k with
  | false => exact ite_ff ⟨.bl false, H3, I3, rfl, q3⟩
  | true => exact ite_tt (chain_last (thn (hc pins s3 σ H3 _ I3 q3) fun w' s4 ⟨z', H4, I4, r4, q4⟩ => ho' pins s4 σ H4 y z' u w' Q I4 r2 r4 q4))
theorem pt_chain {op op' : CmpOp} {r r' : R2} (ho : OpR X (compareOp op) r) (ho' : OpR X (compareOp op') r') (ha : PE X a ta) (hb : PE X b tb) (hc : PE X c tc)
    (hm : lastMarks [op, op'] [b, c] = false := by with_unfolding_all rfl) : PT X (.Compare a [op, op'] [b, c] pos) (tTest (tChain r r' ta tb tc)) := by
  intro pins s σ H Q I h
  refine isTrue_chain (thn (ha pins s σ H _ I h) fun v s1 ⟨x, H1, I1, r1, q1⟩ => test_link (thn (hb pins s1 σ H1 _ I1 q1) fun u s2 ⟨y, H2, I2, r2, q2⟩ =>
    thn (ho pins s2 σ H2 x y v u _ I2 r1 r2 q2) fun d s3 ⟨z, H3, I3, r3, k, e, q3⟩ => ?_)) hm
  subst e
  cases r3
  refine wpAny_truthy_bool ?_
  cases k with
  | false =>
    obtain ⟨k', e', q'⟩ := q3
    cases e'
    exact ite_ff ⟨H3, I3, q'⟩
  | true =>
    refine ite_tt (test_last (thn (hc pins s3 σ H3 _ I3 q3) fun w' s4 ⟨z', H4, I4, r4, q4⟩ => thn (ho' pins s4 σ H4 y z' u w' _ I4 r2 r4 q4) fun d' s5 ⟨z2, H5, I5, r5, k2, e2, q5⟩ => ?_))
    subst e2
    cases r5
    exact wpAny_truthy_bool ⟨H5, I5, q5⟩

/-! ### truth -/
/-- a value's truth by the abstract heap -/
def TruV (K : PySem.W.Frag) (x : V) (H : Hp) (k : Bool) : Prop :=
  match x with
  | .non => k = false
  | .bl b => k = b
  | .int i => k = (i != 0)
  | .str y => y.length ≤ sizeLine ∧ k = ((y.length : Int) != 0)
  | .byt y => y.size ≤ sizeLine ∧ k = ((y.size : Int) != 0)
  | .ref p => (∃ xs, SqL K H p xs ∧ k = !xs.isEmpty) ∨ (∃ xs, SqT K H p xs ∧ k = !xs.isEmpty) ∨ ∃ kvs, H p = some (.dK kvs) ∧ k = !kvs.isEmpty
  | _ => False
theorem isEmpty_kv {κ : Type} {kvs : List (κ × V)} {vs : List (κ × Value)} (r : KV kvs vs) : (!vs.isEmpty) = !kvs.isEmpty := by
  cases r <;> rfl
theorem isEmpty_of {xs : List V} {its : List Value} (r : Vals xs its) : (!its.toArray.isEmpty) = !xs.isEmpty := by
  cases r <;> simp
theorem line63 : (sizeLine : Nat) < 2 ^ 63 := by rw [sizeLine_eq]; decide
theorem tru_ok : TruR X (fun x H Q => ∃ k, TruV X.K x H k ∧ Q k H) := by
  intro pins s σ H x v Q I rx h
  obtain ⟨k, e, q⟩ := h
  have hl := line63
  have hs : sizeLine = 16777216 := sizeLine_eq
  cases x with
  | non =>
    cases rx
    have e' : k = false := e
    subst e'
    exact truthy_none ⟨H, I, q⟩
  | bl b =>
    cases rx
    have e' : k = b := e
    subst e'
    exact wpAny_truthy_bool ⟨H, I, q⟩
  | int i =>
    obtain ⟨t, rfl⟩ := rx
    have e' : k = (i != 0) := e
    subst e'
    exact PySem.P.truthy_int ⟨H, I, q⟩
  | str y =>
    obtain ⟨t, rfl⟩ := rx
    obtain ⟨hy, e'⟩ : y.length ≤ sizeLine ∧ k = ((y.length : Int) != 0) := e
    subst e'
    exact PySem.P.truthy_str (by omega) ⟨H, I.tok _, q⟩
  | byt y =>
    obtain ⟨t, rfl⟩ := rx
    obtain ⟨hy, e'⟩ : y.size ≤ sizeLine ∧ k = ((y.size : Int) != 0) := e
    subst e'
    exact PySem.W.truthy_bytes (by omega) ⟨H, I.tok _, q⟩
  | ref p =>
    cases rx
    have e' : (∃ xs, SqL X.K H p xs ∧ k = !xs.isEmpty) ∨ (∃ xs, SqT X.K H p xs ∧ k = !xs.isEmpty) ∨ ∃ kvs, H p = some (.dK kvs) ∧ k = !kvs.isEmpty := e
    rcases e' with ⟨xs, hx, e'⟩ | ⟨xs, hx, e'⟩ | ⟨kvs, hx, e'⟩
    · subst e'
      obtain ⟨its, r, pl, hz⟩ := I.list hx
      have hlen := r.length
      exact wpAny_truthy_list pl.isList (by simp only [List.size_toArray]; omega) ⟨H, I.tok _, by rw [isEmpty_of r]; exact q⟩
    · subst e'
      obtain ⟨its, r, pl, hz⟩ := I.tuple hx
      have hlen := r.length
      exact truthy_tuple pl (by simp only [List.size_toArray]; omega) ⟨H, I.tok _, by rw [isEmpty_of r]; exact q⟩
    · subst e'
      obtain ⟨hz, hS, vs, r, m⟩ : kvs.length ≤ sizeLine ∧ (p == sysModules) = false ∧ ∃ vs, KV kvs vs ∧ s.heap.DictOf (mixKind X.prog X.w) p vs := I.hok p _ hx
      have hlen : kvs.length = vs.length := Paired.length r
      exact wpAny_truthy_dict hS m (by omega) ⟨H, I.tok _, by rw [isEmpty_kv r]; exact q⟩
  | _ => exact (show False from e).elim
/-- any expression whose test is its value's truth (a name, a call, a subscript, a field ..: he by fun _ => rfl) -/
theorem pt_truth (ha : PE X a ta) (he : ∀ whole, isTrue a X.env whole = (do let v ← whole; standAt a.pos; holding [v] (truthy v))) :
    PT X a (fun σ H Q => ta σ H fun x H' => ∃ k, TruV X.K x H' k ∧ Q k H') := by
  intro pins s σ H Q I h
  exact isTrue_plain (thn (ha pins s σ H _ I h) fun v s1 ⟨x, H1, I1, r1, q1⟩ => tru_ok pins s1 σ H1 x v Q I1 r1 q1) (he _)

/-! ### strs and bytes -/
theorem pe_byt {x : List UInt8} {k : Nat} : PE X (.Constant (.bytes x) k pos) (fun _ H Q => Q (.byt x.toArray) H) := fun _ _ _ H _ I h => PySem.W.Constant_bytes ⟨.byt x.toArray, H, I.tok _, ⟨_, rfl⟩, h⟩
theorem op_add_str : OpR X (binaryOp .Add) (fun x y H Q => ∃ i j, x = .str i ∧ y = .str j ∧ i.length + j.length ≤ sizeLine ∧ Q (.str (i ++ j)) H) := by
  intro pins s σ H x y v u Q I rx ry h
  obtain ⟨i, j, rfl, rfl, hz, q⟩ := h
  obtain ⟨t, rfl⟩ := rx
  obtain ⟨t', rfl⟩ := ry
  exact add_str (fun t' tk => ⟨.str (i ++ j), H, I.tok _, ⟨_, rfl⟩, q⟩) hz
theorem iop_add_str : OpR X (inplaceOp .Add) (fun x y H Q => ∃ i j, x = .str i ∧ y = .str j ∧ i.length + j.length ≤ sizeLine ∧ Q (.str (i ++ j)) H) := by
  intro pins s σ H x y v u Q I rx ry h
  obtain ⟨i, j, rfl, rfl, hz, q⟩ := h
  obtain ⟨t, rfl⟩ := rx
  obtain ⟨t', rfl⟩ := ry
  exact iadd_str (fun t' tk => ⟨.str (i ++ j), H, I.tok _, ⟨_, rfl⟩, q⟩) hz
theorem op_add_byt : OpR X (binaryOp .Add) (fun x y H Q => ∃ i j, x = .byt i ∧ y = .byt j ∧ i.size + j.size ≤ 16777216 ∧ Q (.byt (i ++ j)) H) := by
  intro pins s σ H x y v u Q I rx ry h
  obtain ⟨i, j, rfl, rfl, hz, q⟩ := h
  obtain ⟨t, rfl⟩ := rx
  obtain ⟨t', rfl⟩ := ry
  exact PySem.W.KBy.add_bytes hz (fun t' tk => ⟨.byt (i ++ j), H, I.tok _, ⟨_, rfl⟩, q⟩)

def PlainIxT (b : Expr) : Prop := ∀ o i, subscripted b false o i = operate [o, i] (getItem o i)
/-- s[i], 0 ≤ i < len -/
theorem pe_item_str (ha : PE X a ta) (hb : PE X b tb) (hs : PlainIxT b) :
    PE X (.Subscript a b pos) (tOp (fun x y H Q => ∃ z i c, x = .str z ∧ y = .int i ∧ 0 ≤ i ∧ i < 2 ^ 63 ∧ i < z.length ∧ z.cps[i.toNat]? = some c ∧ Q (.str ⟨#[c]⟩) H) ta tb) := by
  intro pins s σ H Q I h
  refine Subscript_ (binT ha hb I h fun v u s2 x y H2 I2 rx ry q => ?_)
  obtain ⟨z, i, c, rfl, rfl, h0, h63, h1, hc, q⟩ := q
  obtain ⟨t, rfl⟩ := rx
  obtain ⟨t', rfl⟩ := ry
  have e : seqIndex? i z.length = some i.toNat := PySem.StrLaws.seqIndex_nonneg h0 h1
  exact tail_any (typeIs_str s2 z t) slot_str_getitem.lookup (getItem_str (c := c) (by
    have e1 : decide (i < -(2 ^ 63 : Int)) = false := decide_eq_false (by omega)
    have e2 : decide (i ≥ 2 ^ 63) = false := decide_eq_false (by omega)
    rw [e1, e2] <;> rfl) (by rw [e]; exact hc) ⟨.str ⟨#[c]⟩, H2, I2.tok _, ⟨_, rfl⟩, q⟩) (hs _ _)
/-- b[i], 0 ≤ i < len -/
theorem pe_item_byt (ha : PE X a ta) (hb : PE X b tb) (hs : PlainIxT b) :
    PE X (.Subscript a b pos) (tOp (fun x y H Q => ∃ (z : List UInt8) (i : Int), x = .byt z.toArray ∧ y = .int i ∧ z.length ≤ sizeLine ∧ 0 ≤ i ∧ i < z.length ∧ Q (.int ((z.getD i.toNat 0).toNat : Nat)) H) ta tb) := by
  intro pins s σ H Q I h
  refine Subscript_ (binT ha hb I h fun v u s2 x y H2 I2 rx ry q => ?_)
  obtain ⟨z, i, rfl, rfl, hz, h0, h1, q⟩ := q
  obtain ⟨t, rfl⟩ := rx
  obtain ⟨t', rfl⟩ := ry
  have hl : sizeLine = 16777216 := sizeLine_eq
  exact tail_any (PySem.W.typeIs_bytes s2 z.toArray t) PySem.W.FB.slot_bytes_getitem.lookup (PySem.W.getItem_bytes (by omega) h0 h1 ⟨.int ((z.getD i.toNat 0).toNat : Nat), H2, I2.tok _, ⟨_, rfl⟩, q⟩) (hs _ _)

/-! ### scalar builtins, by CallR -/
theorem vals1 {x : V} {us : List Value} (r : Vals [x] us) : ∃ u, us = [u] ∧ RelV x u := by
  cases r with
  | cons r1 r2 => cases r2; exact ⟨_, rfl, r1⟩
theorem vals2 {x y : V} {us : List Value} (r : Vals [x, y] us) : ∃ u w', us = [u, w'] ∧ RelV x u ∧ RelV y w' := by
  cases r with
  | cons r1 r2 =>
    cases r2 with
    | cons r3 r4 => cases r4; exact ⟨_, _, rfl, r1, r3⟩
theorem call_abs : CallR X (.builtin "abs") (fun xs H Q => ∃ i, xs = [.int i] ∧ Q (.int (if i < 0 then -i else i)) H) := by
  intro pins s σ H xs us Q I r h
  obtain ⟨i, rfl, q⟩ := h
  obtain ⟨u, rfl, t, rfl⟩ := vals1 r
  exact call_abs_int fun u tk => ⟨.int (if i < 0 then -i else i), H, I.tok _, ⟨_, rfl⟩, q⟩
theorem call_max2 (hc : X.calm = true) : CallR X (.builtin "max") (fun xs H Q => ∃ i j, xs = [.int i, .int j] ∧ Q (.int (if j > i then j else i)) H) := by
  intro pins s σ H xs us Q I r h
  obtain ⟨i, j, rfl, q⟩ := h
  obtain ⟨u, w', rfl, ⟨t, rfl⟩, ⟨t', rfl⟩⟩ := vals2 r
  refine max_two_ints (I.ok.hd hc) fun h' tk k => ⟨_, H, I.kept k, ?_, q⟩
  by_cases hj : j > i
  · rw [if_pos hj, if_pos hj]; exact ⟨_, rfl⟩
  · rw [if_neg hj, if_neg hj]; exact ⟨_, rfl⟩
theorem call_min2 (hc : X.calm = true) : CallR X (.builtin "min") (fun xs H Q => ∃ i j, xs = [.int i, .int j] ∧ Q (.int (if j < i then j else i)) H) := by
  intro pins s σ H xs us Q I r h
  obtain ⟨i, j, rfl, q⟩ := h
  obtain ⟨u, w', rfl, ⟨t, rfl⟩, ⟨t', rfl⟩⟩ := vals2 r
  refine min_two_ints (I.ok.hd hc) fun h' tk k => ⟨_, H, I.kept k, ?_, q⟩
  by_cases hj : j < i
  · rw [if_pos hj, if_pos hj]; exact ⟨_, rfl⟩
  · rw [if_neg hj, if_neg hj]; exact ⟨_, rfl⟩
theorem call_int1 : CallR X (.type "int") (fun xs H Q => (∃ i, xs = [.int i] ∧ Q (.int i) H) ∨ ∃ k, xs = [.bl k] ∧ Q (.int (if k then 1 else 0)) H) := by
  intro pins s σ H xs us Q I r h
  rcases h with ⟨i, rfl, q⟩ | ⟨k, rfl, q⟩
  · obtain ⟨u, rfl, t, rfl⟩ := vals1 r
    exact call_int_int ⟨.int i, H, I, ⟨_, rfl⟩, q⟩
  · obtain ⟨u, rfl, r1⟩ := vals1 r
    cases r1
    exact call_int_bool ⟨.int (if k then 1 else 0), H, I.tok _, ⟨_, rfl⟩, q⟩
theorem call_bool1 : CallR X (.type "bool") (fun xs H Q => (∃ i, xs = [.int i] ∧ Q (.bl (i != 0)) H) ∨ ∃ k, xs = [.bl k] ∧ Q (.bl k) H) := by
  intro pins s σ H xs us Q I r h
  rcases h with ⟨i, rfl, q⟩ | ⟨k, rfl, q⟩
  · obtain ⟨u, rfl, t, rfl⟩ := vals1 r
    exact call_bool_int ⟨.bl (i != 0), H, I, rfl, q⟩
  · obtain ⟨u, rfl, r1⟩ := vals1 r
    cases r1
    exact call_bool_bool ⟨.bl k, H, I, rfl, q⟩
theorem call_str_int : CallR X (.type "str") (fun xs H Q => ∃ i, xs = [.int i] ∧ i.natAbs.log2 < 1920 ∧ Q (.str (toString i)) H) := by
  intro pins s σ H xs us Q I r h
  obtain ⟨i, rfl, hz, q⟩ := h
  obtain ⟨u, rfl, t, rfl⟩ := vals1 r
  exact PySem.P.str_of_int hz ⟨.str _, H, I.tok _, ⟨_, rfl⟩, q⟩
theorem call_ord : CallR X (.builtin "ord") (fun xs H Q => ∃ x, xs = [.str x] ∧ x.length = 1 ∧ Q (.int (x.cps.getD 0 0 : Nat)) H) := by
  intro pins s σ H xs us Q I r h
  obtain ⟨x, rfl, hz, q⟩ := h
  obtain ⟨u, rfl, t, rfl⟩ := vals1 r
  exact ord_of_one hz ⟨.int _, H, I.tok _, ⟨_, rfl⟩, q⟩
theorem call_chr : CallR X (.builtin "chr") (fun xs H Q => ∃ i, xs = [.int i] ∧ 0 ≤ i ∧ i ≤ 1114111 ∧ Q (.str ⟨#[i.toNat]⟩) H) := by
  intro pins s σ H xs us Q I r h
  obtain ⟨i, rfl, h0, h1, q⟩ := h
  obtain ⟨u, rfl, t, rfl⟩ := vals1 r
  exact chr_of_range h0 h1 ⟨.str _, H, I.tok _, ⟨_, rfl⟩, q⟩
/-- len of a str, a bytes, a list, a tuple -/
def LenV (K : PySem.W.Frag) (x : V) (H : Hp) (n : Nat) : Prop :=
  match x with
  | .str y => y.length ≤ sizeLine ∧ n = y.length
  | .byt y => y.size ≤ sizeLine ∧ n = y.size
  | .ref p => (∃ xs, SqL K H p xs ∧ n = xs.length) ∨ ∃ xs, SqT K H p xs ∧ n = xs.length
  | _ => False
theorem call_len : CallR X (.builtin "len") (fun xs H Q => ∃ x n, xs = [x] ∧ LenV X.K x H n ∧ Q (.int n) H) := by
  intro pins s σ H xs us Q I r h
  obtain ⟨x, n, rfl, e, q⟩ := h
  obtain ⟨u, rfl, rx⟩ := vals1 r
  have hl := line63
  have hs : sizeLine = 16777216 := sizeLine_eq
  cases x with
  | str y =>
    obtain ⟨t, rfl⟩ := rx
    obtain ⟨hy, e'⟩ : y.length ≤ sizeLine ∧ n = y.length := e
    subst e'
    exact len_str (by omega) ⟨.int _, H, I.tok _, ⟨_, rfl⟩, q⟩
  | byt y =>
    obtain ⟨t, rfl⟩ := rx
    obtain ⟨hy, e'⟩ : y.size ≤ sizeLine ∧ n = y.size := e
    subst e'
    exact PySem.W.len_bytes (by omega) ⟨.int _, H, I.tok _, ⟨_, rfl⟩, q⟩
  | ref p =>
    cases rx
    have e' : (∃ xs, SqL X.K H p xs ∧ n = xs.length) ∨ ∃ xs, SqT X.K H p xs ∧ n = xs.length := e
    rcases e' with ⟨xs, hx, e'⟩ | ⟨xs, hx, e'⟩
    · subst e'
      obtain ⟨its, r', pl, hz⟩ := I.list hx
      have hlen := r'.length
      exact Calls.call_len_list pl.isList (by simp only [List.size_toArray]; omega) ⟨.int xs.length, H, I.tok _, ⟨_, by simp only [List.size_toArray]; rw [hlen]⟩, q⟩
    · subst e'
      obtain ⟨its, r', pl, hz⟩ := I.tuple hx
      have hlen := r'.length
      exact len_tuple pl (by simp only [List.size_toArray]; omega) ⟨.int xs.length, H, I.tok _, ⟨_, by simp only [List.size_toArray]; rw [hlen]⟩, q⟩
  | _ => exact (show False from e).elim
/-- divmod: a new tuple -/
theorem call_divmod : CallR X (.builtin "divmod") (fun xs H Q => ∃ i j, xs = [.int i, .int j] ∧ CDiv i j ∧ ∀ p, H p = none → Q (.ref p) (upd H p (.tup [.int (i / j), .int (i % j)]))) := by
  intro pins s σ H xs us Q I r h
  obtain ⟨i, j, rfl, ⟨h1, h2⟩, q⟩ := h
  obtain ⟨u, w', rfl, ⟨t, rfl⟩, ⟨t', rfl⟩⟩ := vals2 r
  refine divmod_int (by omega) ?_ (.inl (PyProof.noPylong_small (by omega)))
  rw [Int.fdiv_eq_ediv_of_nonneg i (by omega), Int.fmod_eq_emod_of_nonneg i (by omega)]
  have hn : H s.heap.objs.size = none := I.hok.fresh (Nat.le_refl _)
  refine ⟨.ref s.heap.objs.size, _, ?_, rfl, q _ hn⟩
  refine I.laid (fun b o e => Heap.get?_push_of_some _ e) (Nat.le_refl _) ⟨by simp only [List.length_cons, List.length_nil]; rw [sizeLine_eq]; decide, [.int (i / j) s.toks, .int (i % j) (s.toks + 1)], .cons ⟨_, rfl⟩ (.cons ⟨_, rfl⟩ .nil), ?_⟩
  exact ⟨_, Heap.get?_push_size s.heap rfl, rfl, 0, rfl⟩
end
end L2

namespace L2
open PySem PySem.Spec PyProof.Rows

/-! ### an instance, its attributes a map -/
structure ObjM (h : Heap) (x dx C : Addr) (mA : Str → Option Value) : Prop where
  obj : h.get? x = some (PySem.W.instObj C dx)
  ns : h.Ns1 dx mA
  ne : dx ≠ x

theorem lookIn_ns {h : Heap} {dx : Addr} {mA : Str → Option Value} (n : h.Ns1 dx mA) : ∃ od, h.get? dx = some od ∧ ∀ name, PySem.W.lookIn name od = some (mA name) := by
  obtain ⟨o, es, ep, ho, hd, hk, _, hm⟩ := n
  refine ⟨o, ho, fun name => ?_⟩
  have e := hm name
  unfold nsFind findBy at e
  rw [← Array.find?_toList] at e
  unfold PySem.W.lookIn
  rw [hd]
  dsimp only
  split
  · rename_i y q
    rw [q] at e
    exact congrArg some e
  · rename_i q
    rw [q] at e
    have a : es.toList.any (·.refKey) = false := by
      rw [List.any_eq_false]
      intro y hy
      obtain ⟨z, t, hkey⟩ := hk y (Array.mem_toList_iff.mp hy)
      simp [DictEntry.refKey, hkey]
    have a' : ¬ es.toList.any (·.refKey) = true := by rw [a]; exact Bool.false_ne_true
    rw [if_neg a']
    exact congrArg some e

theorem ObjM.look {h : Heap} {x dx C : Addr} {mA : Str → Option Value} (I : ObjM h x dx C mA) : ∃ od, PySem.W.InstAt h x (PySem.W.instObj C dx) C (some od) ∧ ∀ name, PySem.W.lookIn name od = some (mA name) :=
  let ⟨od, ho, hl⟩ := lookIn_ns I.ns
  ⟨od, ⟨I.obj, rfl, rfl, ho⟩, hl⟩

section
variable {prog : Program} {w : World} {A : Around} {E : Value → Shared → Prop} {s : Shared} {K : PySem.W.Frag} {x dx C f : Addr} {mA : Str → Option Value} {name : Str} {v : Value}

theorem get_map {expr : Bool} {Q : Value → Shared → Prop} (X : K.In s.heap) (I : ObjM s.heap x dx C mA) (hg : PySem.W.plainGet K C name = true) (hh : PySem.W.hasDictIn K C = true)
    (ha : PySem.W.findIn K (.ref C) name = some none) (hv : mA name = some v) (hv' : PySem.W.handedIn v = true) (h : Q v { s with toks := s.toks + 1 }) :
    wpAny (model prog w) A (getAttr (.ref x) name expr) Q E s := by
  obtain ⟨od, J, hl⟩ := I.look
  exact PySem.W.get_value X J (PySem.W.plainGet_of hg).1 (PySem.W.findObj_own hh ha rfl (by rw [hl, hv])) hv' h

theorem get_const {expr : Bool} {a : Value} {Q : Value → Shared → Prop} (X : K.In s.heap) (I : ObjM s.heap x dx C mA) (hg : PySem.W.plainGet K C name = true) (hh : PySem.W.hasDictIn K C = true)
    (ha : PySem.W.findIn K (.ref C) name = some (some a)) (hn : PySem.W.specialIn K a "__get__" = some none) (hc : PySem.W.copiedNames.contains name = false) (hv : mA name = none) (hv' : PySem.W.handedIn a = true)
    (h : Q a { s with toks := s.toks + 1 }) : wpAny (model prog w) A (getAttr (.ref x) name expr) Q E s := by
  obtain ⟨od, J, hl⟩ := I.look
  exact PySem.W.get_value X J (PySem.W.plainGet_of hg).1 (PySem.W.findObj_cls hh ha hn hv' hc (by rw [hl, hv])) hv' h

theorem get_meth {pl : Sem Bool} {Q : Value × List Value → Shared → Prop} (X : K.In s.heap) (I : ObjM s.heap x dx C mA) (hg : PySem.W.plainGet K C name = true)
    (hf : PySem.W.findIn K (.ref C) name = some (some (.ref f))) (ht : PySem.W.isFn K (.ref f) = true) (hv : mA name = none) (h : Q (.ref f, [.ref x]) s) :
    wpAny (model prog w) A (getMethod (.ref x) name pl) Q E s := by
  obtain ⟨od, J, hl⟩ := I.look
  exact PySem.W.method_fn X J (PySem.W.plainGet_of hg).1 (PySem.W.plainGet_of hg).2 hf (beq_iff_eq.mp ht) (by show (PySem.W.lookIn name od).map (·.isSome) = some false; rw [hl, hv]; rfl) h

theorem set_map {ns : List Str} {Q : Unit → Shared → Prop} (X : K.In s.heap) (I : ObjM s.heap x dx C mA)
    (hs : PySem.W.findIn K (.ref C) "__setattr__" = some (some (.builtin "object.__setattr__"))) (hp : PySem.W.plainOver K C = true) (ht : PySem.W.takerIn K C name = some none) (hh : PySem.W.hasDictIn K C = true)
    (hw : PySem.Within mA ns) (hsz : ns.length ≤ sizeLine)
    (h : ∀ h', ObjM h' x dx C (fun y => if y = name then some v else mA y) → Heap.SameBut dx s.heap h' → Q () { s with heap := h', toks := s.toks + 2 }) :
    wpAny (model prog w) A (setAttr (.ref x) name v) Q E s := by
  obtain ⟨od, J, hl⟩ := I.look
  refine PySem.W.set_plain X J hs (PySem.W.osa_open (s := { s with toks := s.toks + 1 }) (r := none) X J hp ht fun b => ?_)
  obtain ⟨cd, hc, hd'⟩ := PySem.W.any_some hh
  have hx : s.heap.get? x = some ⟨.ref C, some dx, .plain, #[]⟩ := I.obj
  refine wpAny_bind (wpAny_pure (wpAny_bind (wpAny_bind (wpAny_loadPart hx (wpAny_bind (PySem.W.Looks.here (s := { s with toks := s.toks + 1 }) (PySem.W.looks_clsIn X hc) ?_))))))
  rw [hd']
  refine wpAny_pure (a := some dx) (wpAny_bind (wpAny_pure (wpAny_bind ?_)))
  refine wpAny_nsSet1 (s := { s with toks := s.toks + 1 }) I.ns fun h' hn2 hs2 => ?_
  obtain ⟨oD, esD, epD, hoD, hdD, hcD⟩ := hn2.count (PySem.Within.cons name v hw)
  refine wpAny_bind (wpAny_lookBehind hoD (by rw [hdD]; exact pastItsLine_dict (Nat.le_trans hcD (by rw [List.length_cons]; omega))) ?_)
  exact wpAny_pure (h _ ⟨(hs2.2 _ (Ne.symm I.ne)).trans I.obj, hn2, I.ne⟩ hs2)

/-- C(..): the dict at the heap's end, the instance behind it; then its __init__ -/
theorem make_map {R : Result → Shared → Prop} {vs : List Value} {kw : List (Str × Value)} (X : K.In s.heap) (hm : PySem.W.makesIn K C = true)
    (hi : PySem.W.findIn K (.ref C) "__init__" = some (some (.ref f))) (hf : PySem.W.typeIn K (.ref f) = some (.type "function"))
    (h : codeAny (model prog w) (A.under (.builtin "type.__call__" ⟨.ref C :: vs, kw⟩)) (.call (.ref f) ⟨.ref (s.heap.objs.size + 1) :: vs, kw⟩) (PySem.W.InitBack (s.heap.objs.size + 1) R)
      { s with heap := (s.heap.push PySem.W.emptyDict).push (PySem.W.instObj C s.heap.objs.size) }) :
    codeAny (model prog w) A (.call (.ref C) ⟨vs, kw⟩) R s := by
  obtain ⟨hh, g, d, t, os⟩ := s
  exact PySem.W.make_core (PySem.W.makes_of X hm) (PySem.W.looks_findIn X hi) (fun self => PySem.W.bind_fn X self hf) (.inl rfl) h
/-- C() where there is no __init__ but object's -/
theorem make_map0 {R : Result → Shared → Prop} (X : K.In s.heap) (hm : PySem.W.makesIn K C = true)
    (hi : PySem.W.findIn K (.ref C) "__init__" = some (some (.builtin "object.__init__")))
    (hb : ∀ self, PySem.W.Looks (model prog w) s.heap (bindSpecial (.builtin "object.__init__") self) (.builtin "object.__init__", [self]))
    (h : codeAny (model prog w) (A.under (.builtin "type.__call__" ⟨[.ref C], []⟩)) (.call (.builtin "object.__init__") ⟨[.ref (s.heap.objs.size + 1)], []⟩) (PySem.W.InitBack (s.heap.objs.size + 1) R)
      { s with heap := (s.heap.push PySem.W.emptyDict).push (PySem.W.instObj C s.heap.objs.size) }) :
    codeAny (model prog w) A (.call (.ref C) ⟨[], []⟩) R s := by
  obtain ⟨hh, g, d, t, os⟩ := s
  exact PySem.W.make_core (PySem.W.makes_of X hm) (PySem.W.looks_findIn X hi) hb (.inr ⟨rfl, rfl⟩) h
end

/-! ### the attributes as a list of pairs -/
def putF (f : Str) (v : V) : List (Str × V) → List (Str × V)
  | [] => [(f, v)]
  | (g, x) :: r => if g = f then (g, v) :: r else (g, x) :: putF f v r
theorem lookup_putF (f g : Str) (v : V) : ∀ fs : List (Str × V), (putF f v fs).lookup g = if g = f then some v else fs.lookup g
  | [] => by
    show List.lookup g [(f, v)] = _
    by_cases h : g = f
    · have hb : (g == f) = true := beq_iff_eq.mpr h
      simp only [List.lookup, hb, if_pos h]
    · have hb : (g == f) = false := beq_eq_false_iff_ne.mpr h
      simp only [List.lookup, hb, if_neg h]
  | (k, x) :: r => by
    have ih := lookup_putF f g v r
    rw [show putF f v ((k, x) :: r) = (if k = f then (k, v) :: r else (k, x) :: putF f v r) from rfl]
    by_cases hk : k = f
    · rw [if_pos hk]
      by_cases h : g = k
      · have hb : (g == k) = true := beq_iff_eq.mpr h
        simp only [List.lookup, hb, if_pos (h.trans hk)]
      · have hb : (g == k) = false := beq_eq_false_iff_ne.mpr h
        simp only [List.lookup, hb, if_neg (fun e : g = f => h (e.trans hk.symm))]
    · rw [if_neg hk]
      by_cases h : g = k
      · have hb : (g == k) = true := beq_iff_eq.mpr h
        simp only [List.lookup, hb, if_neg (fun e : g = f => hk (h.symm.trans e))]
      · have hb : (g == k) = false := beq_eq_false_iff_ne.mpr h
        simp only [List.lookup, hb]
        exact ih
theorem keys_putF (f : Str) (v : V) : ∀ fs : List (Str × V), f ∈ (putF f v fs).map (·.1) ∧ ∀ g, g ∈ fs.map (·.1) → g ∈ (putF f v fs).map (·.1)
  | [] => ⟨by simp [putF], fun g h => by simp at h⟩
  | (k, x) :: r => by
    obtain ⟨i1, i2⟩ := keys_putF f v r
    rw [show putF f v ((k, x) :: r) = (if k = f then (k, v) :: r else (k, x) :: putF f v r) from rfl]
    by_cases hk : k = f
    · rw [if_pos hk]
      subst hk
      exact ⟨by simp, fun g h => by simpa using h⟩
    · rw [if_neg hk]
      refine ⟨?_, fun g h => ?_⟩
      · rw [List.map_cons]
        exact List.mem_cons_of_mem _ i1
      · rw [List.map_cons] at h ⊢
        rcases List.mem_cons.mp h with e | e
        · exact List.mem_cons.mpr (.inl e)
        · exact List.mem_cons_of_mem _ (i2 g e)
theorem length_putF (f : Str) (v : V) : ∀ fs : List (Str × V), (putF f v fs).length ≤ fs.length + 1
  | [] => by simp [putF]
  | (k, x) :: r => by
    have ih := length_putF f v r
    rw [show putF f v ((k, x) :: r) = (if k = f then (k, v) :: r else (k, x) :: putF f v r) from rfl]
    by_cases hk : k = f
    · rw [if_pos hk, List.length_cons, List.length_cons]; omega
    · rw [if_neg hk, List.length_cons, List.length_cons]; omega

theorem RelO.some_of {v : V} {o : Option Value} (r : RelO (some v) o) : ∃ u, o = some u ∧ RelV v u := by
  cases o with
  | none => exact (show False from r).elim
  | some u => exact ⟨u, rfl, r⟩
theorem RelO.none_of {o : Option Value} (r : RelO none o) : o = none := by
  cases o with
  | none => rfl
  | some u => exact (show False from r).elim
theorem handed_of {v : V} {u : Value} (r : RelV v u) : PySem.W.handedIn u = true := by
  cases v with
  | non => cases (show u = Value.none from r); rfl
  | bl b => cases (show u = Value.bool b from r); rfl
  | int i => obtain ⟨t, e⟩ := (show ∃ t, u = Value.int i t from r); cases e; rfl
  | str x => obtain ⟨t, e⟩ := (show ∃ t, u = Value.str x t from r); cases e; rfl
  | byt b => obtain ⟨t, e⟩ := (show ∃ t, u = Value.bytes b t from r); cases e; rfl
  | flt b => obtain ⟨t, e⟩ := (show ∃ t, u = Value.float b t from r); cases e; rfl
  | ref a => cases (show u = Value.ref a from r); rfl
  | ty n => cases (show u = Value.type n from r); rfl

section
variable {P : Program} {w : World} {H H' : Hp} {h h' : Heap} {a C dx : Addr} {fs fs' : List (Str × V)}
theorem ins_get (hok : HOk P w H h) (e : H a = some (.ins C dx fs)) : ∃ mA, ObjM h a dx C mA ∧ (∀ f, RelO (fs.lookup f) (mA f)) ∧ PySem.Within mA (fs.map (·.1)) ∧ fs.length ≤ 1000 ∧ H dx = some (.own a) := by
  obtain ⟨d, z, ne, ob, mA, n, r, q⟩ := (show ObjOk P w H h a (.ins C dx fs) from hok a _ e)
  exact ⟨mA, ⟨ob, n, ne⟩, r, q, z, d⟩
end

/-! ### what of the text a class must have -/
structure Cls (K : PySem.W.Frag) (C : Addr) : Prop where
  pg : PySem.W.plainGet K C Str.empty = true
  hd : PySem.W.hasDictIn K C = true
  po : PySem.W.plainOver K C = true
  sa : PySem.W.findIn K (.ref C) "__setattr__" = some (some (.builtin "object.__setattr__"))
theorem Cls.get {K : PySem.W.Frag} {C : Addr} (c : Cls K C) (f : Str) : PySem.W.plainGet K C f = true := c.pg
/-- no class of it has the name -/
def NoAttr (K : PySem.W.Frag) (C : Addr) (f : Str) : Prop := PySem.W.findIn K (.ref C) f = some none
theorem NoAttr.taker {K : PySem.W.Frag} {C : Addr} {f : Str} (n : NoAttr K C f) : PySem.W.takerIn K C f = some none := by
  unfold PySem.W.takerIn
  rw [show PySem.W.findIn K (.ref C) f = some none from n]
  rfl
/-- a constant of the class -/
structure Con (K : PySem.W.Frag) (C : Addr) (f : Str) (v : V) (u : Value) : Prop where
  at_ : PySem.W.findIn K (.ref C) f = some (some u)
  rel : RelV v u
  get : PySem.W.specialIn K u "__get__" = some none
  cp : PySem.W.copiedNames.contains f = false
/-- a method: a plain def of the class or of one above it -/
structure Meth (K : PySem.W.Frag) (C : Addr) (m : Str) (f : Addr) : Prop where
  at_ : PySem.W.findIn K (.ref C) m = some (some (.ref f))
  fn : PySem.W.isFn K (.ref f) = true
  kp : PySem.W.keepIn K (.ref f) = true

section
variable {X : Cx} {pins : List (Addr × Obj)} {σ : St} {H : Hp} {s : Shared} {a C dx : Addr} {fs : List (Str × V)} {f : Str} {v : V} {A : Around} {E : Value → Shared → Prop}

theorem getattr_ok {b : Bool} {Q : Value → Shared → Prop} (I : Inv X pins σ H s) (e : H a = some (.ins C dx fs)) (c : Cls X.K C) (n : NoAttr X.K C f) (l : fs.lookup f = some v)
    (h : ∀ u s', Inv X pins σ H s' → RelV v u → Q u s') : wpAny (model X.prog X.w) A (getAttr (.ref a) f b) Q E s := by
  obtain ⟨mA, O, r, _, _, _⟩ := ins_get I.hok e
  obtain ⟨u, hu, ru⟩ := RelO.some_of (v := v) (o := mA f) (by rw [← l]; exact r f)
  exact get_map I.kIn O (c.get f) c.hd n hu (handed_of ru) (h u _ (I.tok _) ru)

theorem getcon_ok {b : Bool} {u : Value} {Q : Value → Shared → Prop} (I : Inv X pins σ H s) (e : H a = some (.ins C dx fs)) (c : Cls X.K C) (k : Con X.K C f v u) (l : fs.lookup f = none)
    (h : ∀ s', Inv X pins σ H s' → Q u s') : wpAny (model X.prog X.w) A (getAttr (.ref a) f b) Q E s := by
  obtain ⟨mA, O, r, _, _, _⟩ := ins_get I.hok e
  have hn : mA f = none := RelO.none_of (by rw [← l]; exact r f)
  exact get_const I.kIn O (c.get f) c.hd k.at_ k.get k.cp hn (handed_of k.rel) (h _ (I.tok _))

theorem getmeth_ok {m : Str} {g : Addr} {pl : Sem Bool} {Q : Value × List Value → Shared → Prop} (I : Inv X pins σ H s) (e : H a = some (.ins C dx fs)) (c : Cls X.K C) (k : Meth X.K C m g) (l : fs.lookup m = none)
    (h : Q (.ref g, [.ref a]) s) : wpAny (model X.prog X.w) A (getMethod (.ref a) m pl) Q E s := by
  obtain ⟨mA, O, r, _, _, _⟩ := ins_get I.hok e
  have hn : mA m = none := RelO.none_of (by rw [← l]; exact r m)
  exact get_meth I.kIn O (c.get m) k.at_ k.fn hn h

theorem setattr_ok {y : V} {u : Value} {Q : Unit → Shared → Prop} (I : Inv X pins σ H s) (e : H a = some (.ins C dx fs)) (c : Cls X.K C) (n : NoAttr X.K C f) (hl : fs.length < 1000) (ry : RelV y u)
    (h : ∀ s', Inv X pins σ (upd H a (.ins C dx (putF f y fs))) s' → Q () s') : wpAny (model X.prog X.w) A (setAttr (.ref a) f u) Q E s := by
  obtain ⟨mA, O, r, wi, _, ho⟩ := ins_get I.hok e
  have hz : (fs.map (·.1)).length ≤ sizeLine := by rw [List.length_map, sizeLine_eq]; omega
  refine set_map I.kIn O c.sa c.po n.taker c.hd wi hz fun h' O' sb => h _ ?_
  have hd : ∃ o, h'.get? dx = some o := let ⟨o, _, _, e', _⟩ := O'.ns; ⟨o, e'⟩
  refine I.write (x := a) (e := dx) (by rw [e]; exact True.intro) (.inr ho) (fun b q hb z => (sb.2 b hb).trans z) hd ?_
  refine ⟨by rw [upd_ne O.ne]; exact ho, ?_, O.ne, O'.obj, _, O'.ns, fun g => ?_, fun g hg => ?_⟩
  · have := length_putF f y fs; omega
  · show RelO ((putF f y fs).lookup g) (if g = f then some u else mA g)
    rw [lookup_putF]
    by_cases q : g = f
    · rw [if_pos q, if_pos q]; exact ry
    · rw [if_neg q, if_neg q]; exact r g
  · by_cases q : g = f
    · rw [q]; exact (keys_putF f y fs).1
    · refine (keys_putF f y fs).2 g (wi g fun z => hg ?_)
      show (if g = f then some u else mA g) = none
      rw [if_neg q]; exact z

/-- a new instance, tracked, without attributes -/
theorem Inv.made (I : Inv X pins σ H s) : Inv X pins σ (upd (upd H s.heap.objs.size (.own (s.heap.objs.size + 1))) (s.heap.objs.size + 1) (.ins C s.heap.objs.size []))
    { s with heap := (s.heap.push PySem.W.emptyDict).push (PySem.W.instObj C s.heap.objs.size) } := by
  have e1 : (s.heap.push PySem.W.emptyDict).get? s.heap.objs.size = some PySem.W.emptyDict := Heap.get?_push_size s.heap rfl
  have e2 : ((s.heap.push PySem.W.emptyDict).push (PySem.W.instObj C s.heap.objs.size)).get? (s.heap.objs.size + 1) = some (PySem.W.instObj C s.heap.objs.size) := by
    have := Heap.get?_push_size (s.heap.push PySem.W.emptyDict) (o := PySem.W.instObj C s.heap.objs.size) rfl
    rwa [Heap.size_push] at this
  have e3 : (s.heap.push PySem.W.emptyDict).Ns s.heap.objs.size (fun _ => none) := ⟨PySem.W.emptyDict, #[], _, e1, rfl, (fun e he => absurd he (by simp)), fun _ => rfl⟩
  have I1 := I.laid (a := s.heap.objs.size) (o := .own (s.heap.objs.size + 1)) (h' := s.heap.push PySem.W.emptyDict) (t' := s.toks) (fun b u q => Heap.get?_push_of_some _ q) (Nat.le_refl _) ⟨_, e1⟩
  refine I1.laid (a := s.heap.objs.size + 1) (o := .ins C s.heap.objs.size []) (t' := s.toks) (fun b u q => Heap.get?_push_of_some _ q) (Nat.le_of_eq (Heap.size_push _ _)) ?_
  have ne : s.heap.objs.size ≠ s.heap.objs.size + 1 := Nat.ne_of_lt (Nat.lt_succ_self _)
  refine ⟨by rw [upd_ne ne, upd_same], Nat.zero_le _, ne, e2, fun _ => none, (Heap.Ns1.of_empty e3).at fun o q => Heap.get?_push_of_some _ q, fun _ => True.intro, fun y hy => absurd rfl hy⟩

/-- e.f where nothing but the object is asked: through attributeBase (super) and the last hold -/
theorem attr_of {prog : Program} {w : World} {env : Env} {e : Expr} {f : Str} {pos : Pos} {s : Shared} {Q : Value → Shared → Prop} (hb : attributeBase e f env (eval e env) = eval e env)
    (h : wpAny (model prog w) A (eval e env) (fun o s₁ => wpAny (model prog w) A (getAttr o f true) Q E s₁) E s) : wpAny (model prog w) A (eval (.Attribute e f pos) env) Q E s :=
  Attribute_any_ h (by rw [arm_eval_Attribute, hb])
end

/-! ### readings and rules -/
/-- e.f, an attribute of the instance -/
def tFld (K : PySem.W.Frag) (ta : TE) (f : Str) : TE := fun σ H Q => ta σ H fun x H1 => ∃ a C dx fs v, x = .ref a ∧ H1 a = some (.ins C dx fs) ∧ Cls K C ∧ NoAttr K C f ∧ fs.lookup f = some v ∧ Q v H1
/-- e.f, a constant of the class -/
def tCon (K : PySem.W.Frag) (ta : TE) (f : Str) : TE := fun σ H Q => ta σ H fun x H1 => ∃ a C dx fs v u, x = .ref a ∧ H1 a = some (.ins C dx fs) ∧ Cls K C ∧ Con K C f v u ∧ fs.lookup f = none ∧ Q v H1
/-- e.f = value -/
def sFld (K : PySem.W.Frag) (ta tv : TE) (f : Str) : TS := fun D σ H => tv σ H fun y H1 => ta σ H1 fun x H2 => ∃ a C dx fs, x = .ref a ∧ H2 a = some (.ins C dx fs) ∧ Cls K C ∧ NoAttr K C f ∧ fs.length < 1000 ∧
  D.nx σ (upd H2 a (.ins C dx (putF f y fs)))
/-- an augmented operator on two values -/
def InOp (X : Cx) (op : Operator) (rd : V → V → Hp → VK → Prop) : Prop :=
  ∀ (pins : List (Addr × Obj)) (s : Shared) (σ : St) (H : Hp) (x y : V) (u v : Value) (Q : VK), Inv X pins σ H s → RelV x u → RelV y v → rd x y H Q → wpAny (model X.prog X.w) X.A (inplaceOp op u v) (EP X pins σ Q) X.xe s
/-- e.f op= value -/
def sFldAug (K : PySem.W.Frag) (ta tv : TE) (rd : V → V → Hp → VK → Prop) (f : Str) : TS := fun D σ H => ta σ H fun x H1 => ∃ a C dx fs v, x = .ref a ∧ H1 a = some (.ins C dx fs) ∧ Cls K C ∧ NoAttr K C f ∧ fs.lookup f = some v ∧
  tv σ H1 fun y H2 => rd v y H2 fun z H3 => ∃ dx' fs', H3 a = some (.ins C dx' fs') ∧ fs'.length < 1000 ∧ D.nx σ (upd H3 a (.ins C dx' (putF f z fs')))

section
variable {X : Cx} {o e value : Expr} {f : Str} {pos pos' tpos : Pos} {ta tv : TE}
theorem pe_fld (he : PE X e ta) (hb : attributeBase e f X.env (eval e X.env) = eval e X.env) : PE X (.Attribute e f pos) (tFld X.K ta f) := by
  intro pins s σ H Q I h
  refine attr_of hb (thn (he pins s σ H _ I h) fun u s1 ⟨x, H1, I1, rx, a, C, dx, fs, v, ex, ea, c, n, l, q⟩ => ?_)
  subst ex
  obtain rfl : u = Value.ref a := rx
  exact getattr_ok I1 ea c n l fun u' s2 I2 ru => ⟨v, H1, I2, ru, q⟩
theorem pe_con (he : PE X e ta) (hb : attributeBase e f X.env (eval e X.env) = eval e X.env) : PE X (.Attribute e f pos) (tCon X.K ta f) := by
  intro pins s σ H Q I h
  refine attr_of hb (thn (he pins s σ H _ I h) fun u s1 ⟨x, H1, I1, rx, a, C, dx, fs, v, u0, ex, ea, c, k, l, q⟩ => ?_)
  subst ex
  obtain rfl : u = Value.ref a := rx
  exact getcon_ok I1 ea c k l fun s2 I2 => ⟨v, H1, I2, k.rel, q⟩
theorem ps_fld (ha : PE X o ta) (hv : PE X value tv) (hs : swapsWith value (some (.Attribute o f pos')) pos.line X.env = pure false) : PS X (.Assign [.Attribute o f pos'] value pos) (sFld X.K ta tv f) := by
  intro pins s σ H D I h
  refine plainObj_wpAny_Assign_Attribute (thn (hv pins s σ H _ I h) fun u s1 ⟨y, H1, I1, ry, q⟩ => thn (ha pins s1 σ H1 _ I1 q) fun ov s2 ⟨x, H2, I2, rx, a, C, dx, fs, ex, ea, c, n, l, q2⟩ => ?_) hs
  subst ex
  obtain rfl : ov = Value.ref a := rx
  exact setattr_ok I2 ea c n l ry fun s3 I3 => ⟨σ, _, I3, q2⟩
theorem ps_fldaug {op : Operator} {rd : V → V → Hp → VK → Prop} (ha : PE X o ta) (hv : PE X value tv) (hop : InOp X op rd) : PS X (.AugAssign (.Attribute o f tpos) op value pos) (sFldAug X.K ta tv rd f) := by
  intro pins s σ H D I h
  refine wpAny_AugAssign_AttributeAny (thn (ha pins s σ H _ I h) fun ov s1 ⟨x, H1, I1, rx, a, C, dx, fs, v, ex, ea, c, n, l, q⟩ => ?_)
  subst ex
  obtain rfl : ov = Value.ref a := rx
  refine getattr_ok I1 ea c n l fun u s2 I2 ru => thn (hv pins s2 σ H1 _ I2 q) fun w3 s3 ⟨y, H2, I3, ry, q3⟩ => thn (hop pins s3 σ H2 v y u w3 _ I3 ru ry q3) fun w4 s4 ⟨z, H3, I4, rz, dx', fs', ea', l', q4⟩ => ?_
  exact setattr_ok I4 ea' c n l' rz fun s5 I5 => ⟨σ, _, I5, q4⟩
def rAdd : V → V → Hp → VK → Prop := fun x y H Q => ∃ i j, x = .int i ∧ y = .int j ∧ Q (.int (i + j)) H
def rSub : V → V → Hp → VK → Prop := fun x y H Q => ∃ i j, x = .int i ∧ y = .int j ∧ Q (.int (i - j)) H
theorem in_add : InOp X .Add rAdd := by
  rintro pins s σ H x y u v Q I rx ry ⟨i, j, rfl, rfl, q⟩
  obtain ⟨t, rfl⟩ := (show ∃ t, u = Value.int i t from rx)
  obtain ⟨t', rfl⟩ := (show ∃ t', v = Value.int j t' from ry)
  exact PyProof.Rows.iadd_int ⟨.int (i + j), H, I.tok _, ⟨_, rfl⟩, q⟩
theorem in_sub : InOp X .Sub rSub := by
  rintro pins s σ H x y u v Q I rx ry ⟨i, j, rfl, rfl, q⟩
  obtain ⟨t, rfl⟩ := (show ∃ t, u = Value.int i t from rx)
  obtain ⟨t', rfl⟩ := (show ∃ t', v = Value.int j t' from ry)
  exact PyProof.Rows.isub_int ⟨.int (i - j), H, I.tok _, ⟨_, rfl⟩, q⟩

/-- what is between an instance and its method: the tree of a method call -/
theorem methcall_of {pl : Sem Bool} {m : Str} {apos : Pos} {args : List Expr} {pins : List (Addr × Obj)} {s : Shared} {σ : St} {H : Hp} {Q : Value → Shared → Prop} {te : TE} (he : PE X e te) (I : Inv X pins σ H s)
    (h : te σ H fun x H1 => ∃ a C dx fs g, x = .ref a ∧ H1 a = some (.ins C dx fs) ∧ Cls X.K C ∧ Meth X.K C m g ∧ fs.lookup m = none ∧
      ∀ s1, Inv X pins σ H1 s1 → wpAny (model X.prog X.w) X.A (callWith pos (.ref g) [.ref a] (backTo pos (starEach args X.env)) (backToKw pos (keywordEach [] X.env))) Q X.xe s1)
    (ht : eval (.Call (.Attribute e m apos) args [] pos) X.env = (do
      let ov ← eval e X.env
      standAt apos.atName
      let (f, first) ← holding [ov] (getMethod ov m pl)
      callWith pos f first (backTo pos (starEach args X.env)) (backToKw pos (keywordEach [] X.env)))) :
    wpAny (model X.prog X.w) X.A (eval (.Call (.Attribute e m apos) args [] pos) X.env) Q X.xe s := by
  refine PySem.W.methodCall_KW (pl := pl) (thn (he pins s σ H _ I h) fun u s1 ⟨x, H1, I1, rx, a, C, dx, fs, g, ex, ea, c, k, l, q⟩ => ?_) ht
  subst ex
  obtain rfl : u = Value.ref a := rx
  exact getmeth_ok I1 ea c k l (q s1 I1)
end

/-! ### isinstance -/
section
variable {X : Cx} {pins : List (Addr × Obj)} {σ : St} {H : Hp} {s : Shared} {A : Around} {E : Value → Shared → Prop} {Q : Value → Shared → Prop} {c : Value} {b : Bool}
/-- the type of a value, as the fragment's deciders take it; for an instance its class -/
inductive TyOf (K : PySem.W.Frag) (H : Hp) : V → Value → Prop where
  | non : TyOf K H .non (.type "NoneType")
  | bl (x : Bool) : TyOf K H (.bl x) (.type "bool")
  | int (i : Int) : TyOf K H (.int i) (.type "int")
  | str (x : Str) : TyOf K H (.str x) (.type "str")
  | flt (x : UInt64) : TyOf K H (.flt x) (.type "float")
  | lst {a : Addr} {xs : List V} (e : H a = some (.lst xs)) : TyOf K H (.ref a) (.type "list")
  | frz {a : Addr} {o : Obj} {xs : List V} (e : H a = some (.frz o (.lst xs))) : TyOf K H (.ref a) (.type "list")
  | tup {a : Addr} {xs : List V} (e : H a = some (.tup xs)) : TyOf K H (.ref a) (.type "tuple")
  | dK {a : Addr} {kvs : List (Key × V)} (e : H a = some (.dK kvs)) : TyOf K H (.ref a) (.type "dict")
  | dT {a : Addr} {kvs : List (List Key × V)} (e : H a = some (.dT kvs)) : TyOf K H (.ref a) (.type "dict")
  | ins {a C dx : Addr} {fs : List (Str × V)} (e : H a = some (.ins C dx fs)) (cl : Cls K C) (ha : PySem.W.findIn K (.ref C) "__class__" = some (some (.builtin "object.__class__")))
      (hn : PySem.W.specialIn K (.builtin "object.__class__") "__get__" = some (some (.builtin "getset_descriptor.__get__"))) (htk : PySem.W.takesIn K (.builtin "object.__class__") = some true)
      (hm : PySem.W.mroIn K C (.type "object") = some true) : TyOf K H (.ref a) (.ref C)
/-- isinstance(x, c) for one class c, a built-in or an own one: kitOne's answer -/
theorem isinst_ok {x : V} {u t : Value} (I : Inv X pins σ H s) (rx : RelV x u) (ty : TyOf X.K H x t) (e : PySem.W.kitOne X.K t c = some b) (h : ∀ tk, Q (.bool b) { s with toks := tk }) :
    wpAny (model X.prog X.w) A (call (.builtin "isinstance") [u, c]) Q E s := by
  cases ty with
  | non => cases (show u = Value.none from rx); exact PySem.W.kia_one PySem.W.kitx_none I.kIn True.intro e (fun z => nomatch z) h
  | bl y => cases (show u = Value.bool y from rx); exact PySem.W.kia_one PySem.W.kitx_bool I.kIn True.intro e (fun z => nomatch z) h
  | int i => obtain ⟨t, q⟩ := (show ∃ t, u = Value.int i t from rx); cases q; exact PySem.W.kia_one PySem.W.kitx_int I.kIn True.intro e (fun z => nomatch z) h
  | str y => obtain ⟨t, q⟩ := (show ∃ t, u = Value.str y t from rx); cases q; exact PySem.W.kia_one PySem.W.kitx_str I.kIn True.intro e (fun z => nomatch z) h
  | flt y => obtain ⟨t, q⟩ := (show ∃ t, u = Value.float y t from rx); cases q; exact PySem.W.kia_one PySem.W.kitx_float I.kIn True.intro e (fun z => nomatch z) h
  | @lst a xs ea =>
    cases (show u = Value.ref a from rx)
    obtain ⟨_, _, n, _, h1⟩ := (show ObjOk X.prog X.w H s.heap a (.lst xs) from I.hok a _ ea)
    exact PySem.W.kia_one PySem.W.kitx_list I.kIn ⟨_, h1, rfl⟩ e (fun z => nomatch z) h
  | @frz a ob xs ea =>
    cases (show u = Value.ref a from rx)
    obtain ⟨_, _, _, n, _, h1⟩ := (show ObjOk X.prog X.w H s.heap a (.frz ob (.lst xs)) from I.hok a _ ea)
    exact PySem.W.kia_one PySem.W.kitx_list I.kIn ⟨_, h1, rfl⟩ e (fun z => nomatch z) h
  | @tup a xs ea =>
    cases (show u = Value.ref a from rx)
    obtain ⟨_, _, _, p⟩ := (show ObjOk X.prog X.w H s.heap a (.tup xs) from I.hok a _ ea)
    obtain ⟨o, h1, h2, _⟩ := p
    exact PySem.W.kia_one PySem.W.kitx_tuple I.kIn ⟨o, h1, h2⟩ e (fun z => nomatch z) h
  | @dK a kvs ea =>
    cases (show u = Value.ref a from rx)
    obtain ⟨_, _, vs, _, p⟩ := (show ObjOk X.prog X.w H s.heap a (.dK kvs) from I.hok a _ ea)
    obtain ⟨o, es, ep, h1, h2, _⟩ := p
    exact PySem.W.kia_one PySem.W.kitx_dict I.kIn ⟨o, h1, h2.1⟩ e (fun z => nomatch z) h
  | @dT a kvs ea =>
    cases (show u = Value.ref a from rx)
    obtain ⟨_, _, xs, _, o, es, ep, h1, h2, _⟩ := (show ObjOk X.prog X.w H s.heap a (.dT kvs) from I.hok a _ ea)
    exact PySem.W.kia_one PySem.W.kitx_dict I.kIn ⟨o, h1, h2.1⟩ e (fun z => nomatch z) h
  | @ins a C dx fs ea cl ha hn htk hm =>
    cases (show u = Value.ref a from rx)
    obtain ⟨mA, O, _⟩ := ins_get I.hok ea
    obtain ⟨od, J, _⟩ := O.look
    exact PySem.W.kia_one (PySem.W.kitx_own (cl.get _) cl.hd ha hn htk hm) I.kIn J e (fun z => nomatch z) h
end
end L2

namespace L2
open PySem PySem.Spec PyProof.Rows

/-! ### room -/
structure Room (k : Nat) (A : Around) : Prop where
  hd : A.handled = none
  dp : A.depth + 3 * k + 5 < recursionLimit
  un : A.units + 16 * k + 200 < cLine
theorem Room.mono {j k : Nat} {A : Around} (r : Room k A) (h : j ≤ k) : Room j A := ⟨r.hd, by have := r.dp; omega, by have := r.un; omega⟩
theorem Room.deeper {k : Nat} {A : Around} (r : Room (k + 1) A) (env : Env) : Room k (A.deeper env) :=
  ⟨r.hd, by have := r.dp; show A.depth + 1 + 3 * k + 5 < _; omega, by have := r.un; show A.units + 3 + 16 * k + 200 < _; omega⟩
theorem Room.in1 {k : Nat} {A : Around} (r : Room (k + 1) A) : Room k A.in1 :=
  ⟨r.hd, by have := r.dp; show A.depth + 3 * k + 5 < _; omega, by have := r.un; show A.units + 1 + 16 * k + 200 < _; omega⟩
theorem make_depth {A : Around} {C : Addr} {us : List Value} {kw : List (Str × Value)} : (A.under (.builtin "type.__call__" ⟨.ref C :: us, kw⟩)).depth = A.depth + 1 := by
  first | rfl | simp [Around.under, Code.weight, Code.isCreation, Code.isGuard, Code.isCaller, Code.frames, Code.isFrame, guardIds]
theorem make_units {A : Around} {C : Addr} {us : List Value} {kw : List (Str × Value)} : (A.under (.builtin "type.__call__" ⟨.ref C :: us, kw⟩)).units = A.units + 1 := by
  first | rfl | simp [Around.under, Code.cUnits, Code.frames, Code.isFrame]
theorem Room.make {k : Nat} {A : Around} (r : Room (k + 1) A) (C : Addr) (us : List Value) (kw : List (Str × Value)) : Room k (A.under (.builtin "type.__call__" ⟨.ref C :: us, kw⟩)) :=
  ⟨r.hd, by have := r.dp; rw [make_depth]; omega, by have := r.un; rw [make_units]; omega⟩
theorem Room.depth {k : Nat} {A : Around} (r : Room k A) : A.depth < recursionLimit := by have := r.dp; omega
theorem Room.units {k : Nat} {A : Around} (r : Room k A) : A.units + 64 < cLine := by have := r.un; omega
theorem Room.units0 {k : Nat} {A : Around} (r : Room k A) : A.units < cLine := by have := r.un; omega

/-! ### argument lists and displays -/
def tNil : TA := fun _ H Q => Q [] H
def tCons (ta : TE) (tr : TA) : TA := fun σ H Q => ta σ H fun x H1 => tr σ H1 fun xs H2 => Q (x :: xs) H2
section
variable {X : Cx} {e : Expr} {es : List Expr} {te : TE} {t : TA} {pos : Pos}
theorem pa_nil : PA X [] tNil := fun _ _ _ _ H Q I h => Calls.spliced_nil ⟨[], H, I, .nil, h⟩
theorem pa_cons (ha : PE X e te) (hr : PA X es t) (hs : starEach (e :: es) X.env = (false, eval e X.env) :: starEach es X.env := by rfl) : PA X (e :: es) (tCons te t) := by
  intro pos pins s σ H Q I h
  rw [hs]
  show wpAny _ _ (spliced ((false, eval e X.env) :: backTo pos (starEach es X.env))) _ _ s
  refine Calls.spliced_cons (thn (ha pins s σ H _ I h) fun u s1 ⟨x, H1, I1, r1, q1⟩ => ?_)
  exact thn (hr pos pins s1 σ H1 _ I1 q1) fun us s2 ⟨xs, H2, I2, r2, q2⟩ => ⟨x :: xs, H2, I2, .cons r1 r2, q2⟩

/-- a tuple, a list of written items -/
def tTup (t : TA) : TE := fun σ H Q => t σ H fun xs H1 => xs.length ≤ sizeLine ∧ ∀ p, H1 p = none → Q (.ref p) (upd H1 p (.tup xs))
def tLst (t : TA) : TE := fun σ H Q => t σ H fun xs H1 => xs.length ≤ sizeLine ∧ ∀ p, H1 p = none → Q (.ref p) (upd H1 p (.lst xs))
theorem pe_tup {x1} (h : PA X es t) : PE X (.Tuple es x1 pos) (tTup t) := by
  intro pins s σ H Q I hq
  refine wpAny_Tuple_spliced (thn (h pos pins s σ H _ I hq) fun us s1 ⟨xs, H1, I1, r, z, q⟩ => ⟨by rw [← r.length]; exact z, ?_⟩)
  have hf : H1 s1.heap.objs.size = none := I1.hok.fresh (Nat.le_refl _)
  refine ⟨.ref s1.heap.objs.size, upd H1 s1.heap.objs.size (.tup xs), I1.laid (t' := s1.toks) (fun b u e => Heap.get?_push_of_some _ e) (Nat.le_refl _) ?_, rfl, q _ hf⟩
  exact ⟨z, us, r, ⟨_, Heap.get?_push_size _ rfl, rfl, _, rfl⟩⟩
theorem pe_lst (h : PA X es t) : PE X (.List es pos) (tLst t) := by
  intro pins s σ H Q I hq
  refine wpAny_List_spliced (thn (h pos pins s σ H _ I hq) fun us s1 ⟨xs, H1, I1, r, z, q⟩ => ⟨by rw [← r.length]; exact z, ?_⟩)
  have hf : H1 s1.heap.objs.size = none := I1.hok.fresh (Nat.le_refl _)
  refine ⟨.ref s1.heap.objs.size, upd H1 s1.heap.objs.size (.lst xs), I1.laid (t' := s1.toks) (fun b u e => Heap.get?_push_of_some _ e) (Nat.le_refl _) ?_, rfl, q _ hf⟩
  exact ⟨z, us, 0, r, Heap.get?_push_size _ rfl⟩
end

/-! ### what a def promises -/
/-- a def's promise: the bound arguments in the parameters' order, the heap, the wanted end, the wanted exception -/
abbrev Sp := List V → Hp → VK → XK → Prop
/-- how an exception lies behind a call (file 08 gives it): the callers' frames, abstract heap and state ahead of the call, the wish, the exception, the state -/
abbrev CXT := List Env → Hp → Shared → XK → Value → Shared → Prop

/-- the state at a call -/
structure Env0 (P : Program) (w : World) (K : PySem.W.Frag) (mg : Str → Option Value) (base : Heap) (A : Around) (outer : List Env) (s : Shared) (H : Hp) : Prop where
  frames : A.frames = some outer
  mod : Mod K mg base
  bs : ∀ b o, base.get? b = some o → s.heap.get? b = some o ∧ H b = none
  bsz : base.objs.size ≤ s.heap.objs.size
  funs : s.heap.FunFrames base outer
  frf : ∀ b ∈ frs outer, H b = none
  hok : HOk P w H s.heap
  bare : AllBare s.gens
/-- a call's end -/
def CE (outer : List Env) (P : Program) (w : World) (H : Hp) (s : Shared) (Q : VK) (u : Value) (s' : Shared) : Prop :=
  ∃ v H', s'.os = s.os ∧ AllBare s'.gens ∧ Un (frs outer) [] H H' s.heap s'.heap ∧ HOk P w H' s'.heap ∧ RelV v u ∧ Q v H'
def CR (CX : CXT) (outer : List Env) (P : Program) (w : World) (H : Hp) (s : Shared) (Q : VK) (E : XK) (r : Result) (s' : Shared) : Prop :=
  match r with
  | .ok (.ret u) => CE outer P w H s Q u s'
  | .ok _ => False
  | .error e => CX outer H s E e s'
structure FnOk (P : Program) (w : World) (K : PySem.W.Frag) (mg : Str → Option Value) (base : Heap) (CX : CXT) (k : Nat) (f : Addr) (fd : FuncData) (ps : List Str) (sp : Sp) : Prop where
  len : ∀ vs H Q E, sp vs H Q E → vs.length = ps.length
  run : ∀ (A : Around) (outer : List Env) (s : Shared) (H : Hp) (args : Args) (us : List Value) (vs : List V) (Q : VK) (E : XK), Room k A → Env0 P w K mg base A outer s H → BindsTo s fd args (ps.zip us) → Vals vs us → sp vs H Q E →
    codeAny (model P w) A (.call (.ref f) args) (CR CX outer P w H s Q E) s
theorem FnOk.mono {P : Program} {w : World} {K : PySem.W.Frag} {mg : Str → Option Value} {base : Heap} {CX : CXT} {j k : Nat} {f : Addr} {fd : FuncData} {ps : List Str} {sp : Sp} (F : FnOk P w K mg base CX j f fd ps sp) (h : j ≤ k) :
    FnOk P w K mg base CX k f fd ps sp := ⟨F.len, fun A outer s H args us vs Q E hr => F.run A outer s H args us vs Q E (hr.mono h)⟩
/-- a weaker promise -/
theorem FnOk.imp {P : Program} {w : World} {K : PySem.W.Frag} {mg : Str → Option Value} {base : Heap} {CX : CXT} {k : Nat} {f : Addr} {fd : FuncData} {ps : List Str} {sp sp' : Sp} (F : FnOk P w K mg base CX k f fd ps sp)
    (h : ∀ vs H Q E, sp' vs H Q E → sp vs H Q E) : FnOk P w K mg base CX k f fd ps sp' :=
  ⟨fun vs H Q E q => F.len vs H Q E (h _ _ _ _ q), fun A outer s H args us vs Q E hr he hb hv hs => F.run A outer s H args us vs Q E hr he hb hv (h _ _ _ _ hs)⟩

theorem Env0.make {P : Program} {w : World} {K : PySem.W.Frag} {mg : Str → Option Value} {base : Heap} {A : Around} {outer : List Env} {s : Shared} {H : Hp} (e : Env0 P w K mg base A outer s H) (C : Addr) (us : List Value) (kw : List (Str × Value)) :
    Env0 P w K mg base (A.under (.builtin "type.__call__" ⟨.ref C :: us, kw⟩)) outer s H := ⟨by first | exact e.frames | (simpa [Around.under, Code.envs, Code.isFrame, pushEnvs] using e.frames), e.mod, e.bs, e.bsz, e.funs, e.frf, e.hok, e.bare⟩
theorem Env0.in1 {P : Program} {w : World} {K : PySem.W.Frag} {mg : Str → Option Value} {base : Heap} {A : Around} {outer : List Env} {s : Shared} {H : Hp} (e : Env0 P w K mg base A outer s H) :
    Env0 P w K mg base A.in1 outer s H := ⟨e.frames, e.mod, e.bs, e.bsz, e.funs, e.frf, e.hok, e.bare⟩

section
variable {X : Cx} {pins : List (Addr × Obj)} {σ : St} {H : Hp} {s s' : Shared}
/-- from a body: what a callee wants -/
theorem Inv.env0 (I : Inv X pins σ H s) : Env0 X.prog X.w X.K X.mg X.base X.A X.stack s H :=
  ⟨I.ok.frames, I.ok.mod, I.bs, Nat.le_trans I.ok.bsz I.sz, I.stack, I.stkFree, I.hok, I.bare⟩
/-- behind a call -/
theorem Inv.after {Q : VK} {u : Value} (I : Inv X pins σ H s) (h : CE X.stack X.prog X.w H s Q u s') : EP X pins σ Q u s' := by
  obtain ⟨v, H', os, bare, un, hok, r, q⟩ := h
  obtain ⟨hh, g, d, t, os'⟩ := s'
  obtain rfl : os' = s.os := os
  exact ⟨v, H', I.call (h' := hh) (g' := g) (d' := d) (t' := t) (ch := []) un hok bare (fun b z => absurd z (by simp)), r, q⟩
end

/-! ### calls -/
/-- f(..): the written arguments, then the defaults dvs; E: what is wanted of an exception -/
def tCall (sp : Sp) (dvs : List V) (E : XK) (t : TA) : TE := fun σ H Q => t σ H fun vs H1 => sp (vs ++ dvs) H1 Q E
/-- o.m(..) of an instance of the class at C -/
def tMeth (C : Addr) (m : Str) (sp : Sp) (dvs : List V) (E : XK) (ta : TE) (t : TA) : TE := fun σ H Q => ta σ H fun x H1 => ∃ a dx fs, x = .ref a ∧ H1 a = some (.ins C dx fs) ∧ fs.lookup m = none ∧
  t σ H1 fun vs H2 => sp (x :: (vs ++ dvs)) H2 Q E
/-- C(..): a new instance and its dict, then __init__ -/
def tMake (C : Addr) (sp : Sp) (dvs : List V) (E : XK) (t : TA) : TE := fun σ H Q => t σ H fun vs H1 => ∀ x dx, H1 x = none → H1 dx = none → dx ≠ x →
  sp (.ref x :: (vs ++ dvs)) (upd (upd H1 dx (.own x)) x (.ins C dx [])) (fun v H2 => v = .non ∧ Q (.ref x) H2) E

/-- how the parameters are bound: us the positional arguments, kw the keywords' values by name, ds the defaults that fill up -/
def Binds (K : PySem.W.Frag) (fd : FuncData) (ps : List Str) (ds : List Value) : Prop :=
  ∀ (s : Shared) (us : List Value), K.In s.heap → (us ++ ds).length = ps.length → BindsTo s fd ⟨us, []⟩ (ps.zip (us ++ ds))
/-- every parameter is given -/
theorem Binds.all {K : PySem.W.Frag} {fd : FuncData} {ps : List Str} (h : ∀ us : List Value, us.length = ps.length → bindArgs fd ⟨us, []⟩ = pure (ps.zip us)) : Binds K fd ps [] := fun s us _ hl => by
  rw [List.append_nil] at hl ⊢
  exact .of_eq (h us hl)

/-- an exception of a callee reaches what this body wants of exceptions -/
def Passes (CX : CXT) (X : Cx) (E : XK) : Prop := ∀ (pins : List (Addr × Obj)) (σ : St) (H : Hp) (s : Shared) (e : Value) (s' : Shared), Inv X pins σ H s → CX X.stack H s E e s' → X.xe e s'

section
variable {X : Cx} {CX : CXT} {k : Nat} {f C : Addr} {fd : FuncData} {ps : List Str} {sp : Sp} {dvs : List V} {ds : List Value} {E : XK} {x m : Str} {p pos apos : Pos} {e o : Expr} {es : List Expr} {ta : TE} {t : TA}

/-- the callee runs -/
theorem run_fn {pins : List (Addr × Obj)} {σ : St} {H : Hp} {s : Shared} {Q : VK} {us : List Value} {vs : List V} (F : FnOk X.prog X.w X.K X.mg X.base CX k f fd ps sp) (hr : Room k X.A) (hb : Binds X.K fd ps ds) (hd : Vals dvs ds) (hx : Passes CX X E)
    (I : Inv X pins σ H s) (r : Vals vs us) (h : sp (vs ++ dvs) H Q E) : wpAny (model X.prog X.w) X.A (call (.ref f) us) (EP X pins σ Q) X.xe s := by
  have r2 : Vals (vs ++ dvs) (us ++ ds) := r.append hd
  have hl : (us ++ ds).length = ps.length := by rw [← r2.length]; exact F.len _ _ _ _ h
  refine wpAny_call (codeAny_mono (F.run X.A X.stack s H ⟨us, []⟩ (us ++ ds) (vs ++ dvs) Q E hr I.env0 (hb s us I.kIn hl) r2 h) fun r s' hq => ?_)
  cases r with
  | error e => exact hx pins σ H s e s' I hq
  | ok fl =>
    cases fl with
    | ret u => exact I.after hq
    | next => exact False.elim hq
    | brk => exact False.elim hq
    | cont => exact False.elim hq

theorem pe_call (F : FnOk X.prog X.w X.K X.mg X.base CX k f fd ps sp) (hr : Room k X.A) (hg : Gl X x) (hm : X.mg x = some (.ref f)) (hk : PySem.W.keepIn X.K (.ref f) = true) (hb : Binds X.K fd ps ds) (hd : Vals dvs ds) (hx : Passes CX X E)
    (ha : PA X (e :: es) t) (hdb : (x == ("__debug__" : Str)) = false := by decide) (he : starEach (e :: es) X.env = (false, eval e X.env) :: starEach es X.env := by rfl) (hpl : (backTo pos (starEach es X.env)).any (·.1) = false := by rfl) :
    PE X (.Call (.Name x p) (e :: es) [] pos) (tCall sp dvs E t) := by
  intro pins s σ H Q I h
  refine wpAny_Call_Name_kw (ld_glob I hg hm ?_ hdb)
  refine PySem.W.callWith_K (h₀ := X.base) I.ok.mod.kin hk (thn (ha pos pins s σ H _ I h) fun us s1 ⟨vs, H1, I1, r, q⟩ => ⟨I1.kIn, ?_⟩) he hpl
  exact run_fn F hr hb hd hx I1 r q
theorem pe_call0 (F : FnOk X.prog X.w X.K X.mg X.base CX k f fd ps sp) (hr : Room k X.A) (hg : Gl X x) (hm : X.mg x = some (.ref f)) (hk : PySem.W.keepIn X.K (.ref f) = true) (hb : Binds X.K fd ps ds) (hd : Vals dvs ds) (hx : Passes CX X E)
    (hdb : (x == ("__debug__" : Str)) = false := by decide) : PE X (.Call (.Name x p) [] [] pos) (tCall sp dvs E tNil) := by
  intro pins s σ H Q I h
  refine wpAny_Call_Name_kw (ld_glob I hg hm ?_ hdb)
  exact PySem.W.callWith_K0 I.kIn hk (run_fn (us := []) F hr hb hd hx I .nil h)

/-- o.m(e, ..) -/
theorem pe_meth {pl : Sem Bool} (he : PE X o ta) (c : Cls X.K C) (hm : Meth X.K C m f) (F : FnOk X.prog X.w X.K X.mg X.base CX k f fd ps sp) (hr : Room k X.A) (hb : Binds X.K fd ps ds) (hd : Vals dvs ds) (hx : Passes CX X E) (ha : PA X (e :: es) t)
    (hst : starEach (e :: es) X.env = (false, eval e X.env) :: starEach es X.env := by rfl) (hpl : (backTo pos (starEach es X.env)).any (·.1) = false := by rfl)
    (ht : eval (.Call (.Attribute o m apos) (e :: es) [] pos) X.env = (do
      let ov ← eval o X.env
      standAt apos.atName
      let (f, first) ← holding [ov] (getMethod ov m pl)
      callWith pos f first (backTo pos (starEach (e :: es) X.env)) (backToKw pos (keywordEach [] X.env))) := by rfl) :
    PE X (.Call (.Attribute o m apos) (e :: es) [] pos) (tMeth C m sp dvs E ta t) := by
  intro pins s σ H Q I h
  refine PySem.W.methodCall_KW (pl := pl) (thn (he pins s σ H _ I h) fun u s1 ⟨x, H1, I1, rx, a, dx, fs, ex, ea, l, q⟩ => ?_) ht
  subst ex
  obtain rfl : u = Value.ref a := rx
  refine getmeth_ok I1 ea c hm l ?_
  refine PySem.W.callWith_K (first := [.ref a]) (h₀ := X.base) I.ok.mod.kin hm.kp (thn (ha pos pins s1 σ H1 _ I1 q) fun us s2 ⟨vs, H2, I2, r, q2⟩ => ⟨I2.kIn, ?_⟩) hst hpl
  exact run_fn (us := .ref a :: us) (vs := .ref a :: vs) F hr hb hd hx I2 (.cons rfl r) q2
/-- o.m() -/
theorem pe_meth0 {pl : Sem Bool} (he : PE X o ta) (c : Cls X.K C) (hm : Meth X.K C m f) (F : FnOk X.prog X.w X.K X.mg X.base CX k f fd ps sp) (hr : Room k X.A) (hb : Binds X.K fd ps ds) (hd : Vals dvs ds) (hx : Passes CX X E)
    (ht : eval (.Call (.Attribute o m apos) [] [] pos) X.env = (do
      let ov ← eval o X.env
      standAt apos.atName
      let (f, first) ← holding [ov] (getMethod ov m pl)
      callWith pos f first (backTo pos (starEach [] X.env)) (backToKw pos (keywordEach [] X.env))) := by rfl) :
    PE X (.Call (.Attribute o m apos) [] [] pos) (tMeth C m sp dvs E ta tNil) := by
  intro pins s σ H Q I h
  refine PySem.W.methodCall_KW (pl := pl) (thn (he pins s σ H _ I h) fun u s1 ⟨x, H1, I1, rx, a, dx, fs, ex, ea, l, q⟩ => ?_) ht
  subst ex
  obtain rfl : u = Value.ref a := rx
  refine getmeth_ok I1 ea c hm l ?_
  exact PySem.W.callWith_K0 (first := [.ref a]) I1.kIn hm.kp (run_fn (us := [.ref a]) (vs := [.ref a]) F hr hb hd hx I1 (.cons rfl .nil) q)

/-- what a class must have to be made -/
structure Mk (K : PySem.W.Frag) (C f : Addr) : Prop where
  makes : PySem.W.makesIn K C = true
  init : PySem.W.findIn K (.ref C) "__init__" = some (some (.ref f))
  fn : PySem.W.isFn K (.ref f) = true
  kp : PySem.W.keepIn K (.ref C) = true

theorem run_make {pins : List (Addr × Obj)} {σ : St} {H : Hp} {s : Shared} {Q : VK} {us : List Value} {vs : List V} (M : Mk X.K C f) (F : FnOk X.prog X.w X.K X.mg X.base CX k f fd ps sp) (hr : Room (k + 1) X.A) (hb : Binds X.K fd ps ds) (hd : Vals dvs ds)
    (hx : Passes CX X E) (I : Inv X pins σ H s) (r : Vals vs us)
    (h : ∀ x dx, H x = none → H dx = none → dx ≠ x → sp (.ref x :: (vs ++ dvs)) (upd (upd H dx (.own x)) x (.ins C dx [])) (fun v H2 => v = .non ∧ Q (.ref x) H2) E) :
    wpAny (model X.prog X.w) X.A (call (.ref C) us) (EP X pins σ Q) X.xe s := by
  have hq := h (s.heap.objs.size + 1) s.heap.objs.size (I.hok.fresh (Nat.le_succ _)) (I.hok.fresh (Nat.le_refl _)) (Nat.ne_of_lt (Nat.lt_succ_self _))
  have I2 := Inv.made (C := C) I
  have r2 : Vals (V.ref (s.heap.objs.size + 1) :: (vs ++ dvs)) (Value.ref (s.heap.objs.size + 1) :: (us ++ ds)) := .cons rfl (r.append hd)
  have hl : (Value.ref (s.heap.objs.size + 1) :: us ++ ds).length = ps.length := by
    have e := r2.length
    rw [F.len _ _ _ _ hq] at e
    exact e.symm
  refine wpAny_call (make_map (f := f) I.kIn M.makes M.init (beq_iff_eq.mp M.fn) (codeAny_mono (F.run _ X.stack _ _ ⟨Value.ref (s.heap.objs.size + 1) :: us, []⟩ (Value.ref (s.heap.objs.size + 1) :: (us ++ ds)) _ _ E (hr.make C us [])
    (I2.env0.make C us []) (hb _ (Value.ref (s.heap.objs.size + 1) :: us) I2.kIn hl) r2 hq) fun r s' hq' => ?_))
  cases r with
  | error e => exact hx pins σ _ _ e s' I2 hq'
  | ok fl =>
    cases fl with
    | ret u =>
      obtain ⟨v, H', I3, rv, ev, q3⟩ := I2.after hq'
      subst ev
      exact ⟨rv, ⟨V.ref (s.heap.objs.size + 1), H', I3, rfl, q3⟩⟩
    | next => exact False.elim hq'
    | brk => exact False.elim hq'
    | cont => exact False.elim hq'
theorem pe_make (M : Mk X.K C f) (F : FnOk X.prog X.w X.K X.mg X.base CX k f fd ps sp) (hr : Room (k + 1) X.A) (hg : Gl X x) (hm : X.mg x = some (.ref C)) (hb : Binds X.K fd ps ds) (hd : Vals dvs ds) (hx : Passes CX X E)
    (ha : PA X (e :: es) t) (hdb : (x == ("__debug__" : Str)) = false := by decide) (he : starEach (e :: es) X.env = (false, eval e X.env) :: starEach es X.env := by rfl) (hpl : (backTo pos (starEach es X.env)).any (·.1) = false := by rfl) :
    PE X (.Call (.Name x p) (e :: es) [] pos) (tMake C sp dvs E t) := by
  intro pins s σ H Q I h
  refine wpAny_Call_Name_kw (ld_glob I hg hm ?_ hdb)
  refine PySem.W.callWith_K (h₀ := X.base) I.ok.mod.kin M.kp (thn (ha pos pins s σ H _ I h) fun us s1 ⟨vs, H1, I1, r, q⟩ => ⟨I1.kIn, ?_⟩) he hpl
  exact run_make M F hr hb hd hx I1 r q
theorem pe_make0 (M : Mk X.K C f) (F : FnOk X.prog X.w X.K X.mg X.base CX k f fd ps sp) (hr : Room (k + 1) X.A) (hg : Gl X x) (hm : X.mg x = some (.ref C)) (hb : Binds X.K fd ps ds) (hd : Vals dvs ds) (hx : Passes CX X E)
    (hdb : (x == ("__debug__" : Str)) = false := by decide) : PE X (.Call (.Name x p) [] [] pos) (tMake C sp dvs E tNil) := by
  intro pins s σ H Q I h
  refine wpAny_Call_Name_kw (ld_glob I hg hm ?_ hdb)
  exact PySem.W.callWith_K0 I.kIn M.kp (run_make (us := []) M F hr hb hd hx I .nil h)
end

/-! ### keywords -/
/-- the values of the keywords, from the left -/
def PK (X : Cx) (kws : List Keyword) (t : TA) : Prop :=
  ∀ (pos : Pos) (pins : List (Addr × Obj)) (s : Shared) (σ : St) (H : Hp) (Q : List V → Hp → Prop), Inv X pins σ H s → t σ H Q → wpAny (model X.prog X.w) X.A (evalAll ((backToKw pos (keywordEach kws X.env)).map (·.2))) (AP X pins σ Q) X.xe s
section
variable {X : Cx} {CX : CXT} {k : Nat} {f C : Addr} {fd : FuncData} {ps ks : List Str} {sp : Sp} {E : XK} {x m : Str} {p pos apos kpos : Pos} {e o : Expr} {es : List Expr} {kws : List Keyword} {te ta : TE} {t tk : TA} {nm : Option Str}
theorem pk_nil : PK X [] tNil := fun _ _ _ _ H Q I h => wpAny_evalAll_nil ⟨[], H, I, .nil, h⟩
theorem pk_cons (ha : PE X e te) (hr : PK X kws t) : PK X (⟨nm, e, kpos⟩ :: kws) (tCons te t) := by
  intro pos pins s σ H Q I h
  show wpAny _ _ (evalAll ((do let v ← eval e X.env; standAt pos; pure v) :: (backToKw pos (keywordEach kws X.env)).map (·.2))) _ _ s
  refine wpAny_evalAll_cons (wpAny_bind (thn (ha pins s σ H _ I h) fun u s1 ⟨x, H1, I1, r1, q1⟩ => wpAny_bind (wpAny_standAt (wpAny_pure ?_))))
  exact thn (hr pos pins s1 σ H1 _ I1 q1) fun us s2 ⟨xs, H2, I2, r2, q2⟩ => ⟨x :: xs, H2, I2, .cons r1 r2, q2⟩

/-- how a call with keywords binds: g puts the positional values us and the keywords' values ws (names ks) in the parameters' order, defaults among them -/
structure KBinds (K : PySem.W.Frag) (fd : FuncData) (ps ks : List Str) (g : List Value → List Value → List Value) (gV : List V → List V → List V) : Prop where
  to : ∀ (s : Shared) (us ws : List Value), K.In s.heap → (g us ws).length = ps.length → BindsTo s fd ⟨us, ks.zip ws⟩ (ps.zip (g us ws))
  rel : ∀ {vs : List V} {us : List Value} {zs : List V} {ws : List Value}, Vals vs us → Vals zs ws → Vals (gV vs zs) (g us ws)
def tCallK (sp : Sp) (gV : List V → List V → List V) (E : XK) (t tk : TA) : TE := fun σ H Q => t σ H fun vs H1 => tk σ H1 fun zs H2 => sp (gV vs zs) H2 Q E
variable {g : List Value → List Value → List Value} {gV : List V → List V → List V}
theorem run_fnk {pins : List (Addr × Obj)} {σ : St} {H : Hp} {s : Shared} {Q : VK} {us ws : List Value} {vs zs : List V} (F : FnOk X.prog X.w X.K X.mg X.base CX k f fd ps sp) (hr : Room k X.A) (hb : KBinds X.K fd ps ks g gV) (hx : Passes CX X E)
    (I : Inv X pins σ H s) (r : Vals vs us) (rz : Vals zs ws) (h : sp (gV vs zs) H Q E) : wpAny (model X.prog X.w) X.A (call (.ref f) us (ks.zip ws)) (EP X pins σ Q) X.xe s := by
  have r2 := hb.rel r rz
  have hl : (g us ws).length = ps.length := by rw [← r2.length]; exact F.len _ _ _ _ h
  refine wpAny_call (codeAny_mono (F.run X.A X.stack s H ⟨us, ks.zip ws⟩ (g us ws) (gV vs zs) Q E hr I.env0 (hb.to s us ws I.kIn hl) r2 h) fun r s' hq => ?_)
  cases r with
  | error e => exact hx pins σ H s e s' I hq
  | ok fl =>
    cases fl with
    | ret u => exact I.after hq
    | next => exact False.elim hq
    | brk => exact False.elim hq
    | cont => exact False.elim hq
/-- f(e, .., k = v, ..) -/
theorem pe_callK (F : FnOk X.prog X.w X.K X.mg X.base CX k f fd ps sp) (hr : Room k X.A) (hg : Gl X x) (hm : X.mg x = some (.ref f)) (hk : PySem.W.keepIn X.K (.ref f) = true) (hb : KBinds X.K fd ps ks g gV) (hx : Passes CX X E)
    (ha : PA X (e :: es) t) (hkw : PK X kws tk) (hall : (backToKw pos (keywordEach kws X.env)).all (·.1.isSome) = true := by rfl) (hks : (backToKw pos (keywordEach kws X.env)).filterMap (·.1) = ks := by rfl)
    (hdb : (x == ("__debug__" : Str)) = false := by decide) (he : starEach (e :: es) X.env = (false, eval e X.env) :: starEach es X.env := by rfl)
    (hpl : ((backTo pos (starEach (e :: es) X.env)).any (·.1) || (backToKw pos (keywordEach kws X.env)).any (·.1.isNone)) = false := by rfl) :
    PE X (.Call (.Name x p) (e :: es) kws pos) (tCallK sp gV E t tk) := by
  intro pins s σ H Q I h
  refine wpAny_Call_Name_kw (ld_glob I hg hm ?_ hdb)
  refine PySem.W.callWith_KW (h₀ := X.base) I.ok.mod.kin hk hall (thn (ha pos pins s σ H _ I h) fun us s1 ⟨vs, H1, I1, r, q⟩ => ?_) hpl he
  refine thn (hkw pos pins s1 σ H1 _ I1 q) fun ws s2 ⟨zs, H2, I2, rz, q2⟩ => ⟨I2.kIn, ?_⟩
  rw [hks]
  exact run_fnk F hr hb hx I2 r rz q2
end

/-! ### a def's body keeps its promise -/
/-- names: the parameters first -/
structure FnScope (N P : List Str) (sc : Scope) : Prop where
  kind : sc.kind = .function
  co : sc.isCoroutine = false
  gen : sc.isGenerator = false
  nd : N.Nodup
  pre : N.take P.length = P
  par : ∀ x ∈ P, sc.names.lookup x = some .local ∨ sc.names.lookup x = some .cell
  nofree : ∀ y ∈ sc.names, y.2 ≠ .free

theorem bindL_out {kindOf : Str → Option NameKind} {x : Str} : ∀ {binds : List (Str × Value)} {m : Str → Option Value}, (∀ v, (x, v) ∉ binds) → bindL kindOf binds m x = m x
  | [], _, _ => rfl
  | (n, v) :: r, m, h => by
    unfold bindL
    rw [bindL_out fun w hw => h w (List.mem_cons_of_mem _ hw)]
    split
    · have : x ≠ n := by rintro rfl; exact h v List.mem_cons_self
      simp [this]
    · rfl
theorem bindC_out {kindOf : Str → Option NameKind} {x : Str} : ∀ {binds : List (Str × Value)} {m : Str → Option Value}, (∀ v, (x, v) ∉ binds) → bindC kindOf binds m x = m x
  | [], _, _ => rfl
  | (n, v) :: r, m, h => by
    unfold bindC
    rw [bindC_out fun w hw => h w (List.mem_cons_of_mem _ hw)]
    split
    · rfl
    · have : x ≠ n := by rintro rfl; exact h v List.mem_cons_self
      simp [this]
theorem bindL_get {kindOf : Str → Option NameKind} {x : Str} {v : Value} : ∀ {P : List Str} {vs : List Value} {i : Nat} {m : Str → Option Value}, P.Nodup → P[i]? = some x → vs[i]? = some v → kindOf x = some .local →
    bindL kindOf (P.zip vs) m x = some v
  | [], _, _, _, _, h, _, _ => by simp at h
  | _ :: _, [], _, _, _, _, h, _ => by simp at h
  | p :: P, w :: vs, 0, m, nd, h1, h2, hk => by
    simp at h1 h2; subst h1; subst h2
    show bindL kindOf ((p, w) :: P.zip vs) m p = _
    unfold bindL
    rw [bindL_out fun v hv => (List.nodup_cons.mp nd).1 (List.of_mem_zip hv).1, if_pos hk]
    simp
  | p :: P, w :: vs, i + 1, m, nd, h1, h2, hk => by
    show bindL kindOf ((p, w) :: P.zip vs) m x = _
    unfold bindL
    exact bindL_get (i := i) (List.nodup_cons.mp nd).2 (by simpa using h1) (by simpa using h2) hk
theorem bindC_get {kindOf : Str → Option NameKind} {x : Str} {v : Value} : ∀ {P : List Str} {vs : List Value} {i : Nat} {m : Str → Option Value}, P.Nodup → P[i]? = some x → vs[i]? = some v → kindOf x ≠ some .local →
    bindC kindOf (P.zip vs) m x = some v
  | [], _, _, _, _, h, _, _ => by simp at h
  | _ :: _, [], _, _, _, _, h, _ => by simp at h
  | p :: P, w :: vs, 0, m, nd, h1, h2, hk => by
    simp at h1 h2; subst h1; subst h2
    show bindC kindOf ((p, w) :: P.zip vs) m p = _
    unfold bindC
    rw [bindC_out fun v hv => (List.nodup_cons.mp nd).1 (List.of_mem_zip hv).1, if_neg hk]
    simp
  | p :: P, w :: vs, i + 1, m, nd, h1, h2, hk => by
    show bindC kindOf ((p, w) :: P.zip vs) m x = _
    unfold bindC
    exact bindC_get (i := i) (List.nodup_cons.mp nd).2 (by simpa using h1) (by simpa using h2) hk

/-- the names' values at the entry -/
def start (N : List Str) (vs : List V) : St := vs.map some ++ List.replicate (N.length - vs.length) none

/-- the context of a def's body, at its entry; an exception leaves the frame, then lies as CX says -/
def cxOf (CX : CXT) (P : Program) (w : World) (K : PySem.W.Frag) (mg : Str → Option Value) (base : Heap) (N : List Str) (qual : Str) (scope : Scope) (f : Addr) (cd : Value) (A : Around) (outer : List Env) (s : Shared) (H : Hp) (E : XK) : Cx where
  prog := P
  w := w
  K := K
  mg := mg
  base := base
  A := A.deeper (envOfC qual scope s.heap.objs.size f cd)
  N := N
  s₀ := s
  H₀ := H
  env := envOfC qual scope s.heap.objs.size f cd
  outer := outer
  stack := envOfC qual scope s.heap.objs.size f cd :: outer
  ex := []
  calm := true
  fn := fun _ => true
  pn := []
  xe := fun e s' => wpAny (model P w) (A.deeper (envOfC qual scope s.heap.objs.size f cd)) (leaving (envOfC qual scope s.heap.objs.size f cd) e) (fun _ s'' => CX outer H s E e s'') (fun e' s'' => CX outer H s E e' s'') s'

theorem cell_has {sc : Scope} {n : Nat} {x : Str} (h : sc.names.lookup x = some .cell) : ∃ c, (cellsFrom n sc.names []).lookup x = some c := by
  have q := PySem.W.cellsFrom_some sc.names n [] (.inl h)
  exact Option.isSome_iff_exists.mp q

theorem inv_start {CX : CXT} {P : Program} {w : World} {K : PySem.W.Frag} {mg : Str → Option Value} {base : Heap} {N ps : List Str} {qual : Str} {scope : Scope} {f : Addr} {cd : Value} {A : Around} {outer : List Env} {s s1 : Shared} {H : Hp} {E : XK} {us : List Value} {vs : List V}
    (S : FnScope N ps scope) (hd : A.handled = none) (e0 : Env0 P w K mg base A outer s H) (hl : vs.length = ps.length) (r : Vals vs us)
    (x : InCallC s s.heap.objs.size (bindL (envOfC qual scope s.heap.objs.size f cd).kindOf (ps.zip us) fun _ => none) (cellsFrom (s.heap.objs.size + 1) scope.names []) (bindC (envOfC qual scope s.heap.objs.size f cd).kindOf (ps.zip us) fun _ => none) s1) :
    Inv (cxOf CX P w K mg base N qual scope f cd A outer s H E) [] (start N vs) H s1 := by
  have hpl : ps.length ≤ N.length := by have := congrArg List.length S.pre; rw [List.length_take] at this; omega
  obtain ⟨h1, tk, rfl, hk⟩ := x.done
  have noA : ∀ b : Addr, b ∉ (cxOf CX P w K mg base N qual scope f cd A outer s H E).ex := fun b z => absurd (show b ∈ ([] : List Addr) from z) (by simp)
  refine ⟨⟨e0.mod, S.kind, rfl, rfl, Nat.le_refl _, fun y z c h1 h2 => ?_, fun y hy => ?_, fun y c _ h => ?_, fun _ => hd, Around.frames_deeper e0.frames, .inr ⟨rfl, rfl⟩, fun b z => absurd z (noA b), e0.bs, e0.bsz, fun b _ _ => noA b, fun b z => absurd z (noA b), e0.funs, e0.frf⟩,
    rfl, e0.bare, Un.kept hk, ⟨_, x.toInCall.ns, fun i y v h1 h2 h3 => ?_⟩, fun y c h => ⟨_, x.cell y c h⟩, e0.hok.fresh (Nat.le_refl _), fun y c h => ?_, fun p hp => absurd (show p ∈ ([] : List (Addr × Obj)) from hp) (by simp), e0.hok.kept hk, ?_⟩
  · exact name_of_addr x.apart (PySem.mem_of_lookup h1) (PySem.mem_of_lookup h2)
  · have hy : scope.names.lookup y = some .cell ∨ scope.names.lookup y = some .free := hy
    rcases hy with hy | hy
    · exact cell_has hy
    · exact absurd rfl (S.nofree _ (PySem.mem_of_lookup hy))
  · exact Nat.le_of_lt (x.above y c (PySem.mem_of_lookup h))
  · have hi : i < vs.length := by
      unfold start at h2
      by_cases hi : i < vs.length
      · exact hi
      · rw [List.getElem?_append_right (by simpa using hi)] at h2
        rw [List.getElem?_replicate] at h2
        split at h2 <;> cases h2
    have ha : vs[i]? = some v := by
      unfold start at h2
      rw [List.getElem?_append_left (by simpa using hi), List.getElem?_map] at h2
      cases e : vs[i]? with
      | none => rw [e] at h2; cases h2
      | some a => rw [e] at h2; cases h2; rfl
    obtain ⟨u, hu, rv⟩ := r.get ha
    have hp : ps[i]? = some y := by
      rw [← S.pre, List.getElem?_take_of_lt (by omega)]; exact h1
    have ndP : ps.Nodup := by rw [← S.pre]; exact S.nd.sublist (List.take_sublist _ _)
    refine ⟨u, rv, ?_⟩
    rcases S.par y (List.mem_of_getElem? hp) with k | k
    · exact .inl ⟨k, bindL_get ndP hp hu k⟩
    · obtain ⟨c, e⟩ := cell_has (n := s.heap.objs.size + 1) k
      refine .inr ⟨.inl k, c, e, ?_⟩
      have q := x.cell y c e
      rw [bindC_get ndP hp hu (by show scope.names.lookup y ≠ _; rw [k]; decide)] at q
      exact q
  · exact e0.hok.fresh (Nat.le_of_lt (x.above y c (PySem.mem_of_lookup h)))
  · unfold start
    show _ = N.length
    rw [List.length_append, List.length_map, List.length_replicate]
    omega

/-- THE RULE: a def (or a method) of the text, by its body. The body's reading t is chosen for each entry; it is run at the parameters' values -/
theorem fn_of {CX : CXT} {P : Program} {w : World} {K : PySem.W.Frag} {mg : Str → Option Value} {base : Heap} {k : Nat} {f : Addr} {name qual : Str} {params : Arguments} {body : List Stmt} {scope : Scope} {dV kV doc pm cdv ct oc : Value} {an od : Option Addr}
    {osl : Array (Option Value)} {N ps : List Str} {sp : Sp} (lk : K.lookup f = some ⟨oc, od, .func (PySem.W.fnOf name qual params body scope dV kV doc pm an cdv ct), osl⟩) (hcd : PySem.W.codeIn K cdv qual = true) (S : FnScope N ps scope)
    (len : ∀ vs H Q E, sp vs H Q E → vs.length = ps.length)
    (hbody : ∀ (A : Around) (outer : List Env) (s : Shared) (H : Hp) (vs : List V) (Q : VK) (E : XK), Room k (A.deeper (envOfC qual scope s.heap.objs.size f cdv)) → sp vs H Q E →
      ∃ t, PSs (cxOf CX P w K mg base N qual scope f cdv A outer s H E) body t ∧ t { nx := fun _ H' => Q .non H', rt := Q } (start N vs) H) :
    FnOk P w K mg base CX (k + 1) f (PySem.W.fnOf name qual params body scope dV kV doc pm an cdv ct) ps sp := by
  refine ⟨len, fun A outer s H args us vs Q E hr e0 hb r hsp => ?_⟩
  have hl := len _ _ _ _ hsp
  have KX : K.In s.heap := e0.mod.kin.keeps fun b o e => (e0.bs b o e).1
  have lim : s.heap.NoLimit := e0.mod.nolimit.keeps fun b o e => (e0.bs b o e).1
  have hkind : ∀ y ∈ ps.zip us, scope.names.lookup y.1 = some .local ∨ (scope.names.lookup y.1 = some .cell ∧ ((cellsFrom (s.heap.objs.size + 1) scope.names []).lookup y.1).isSome = true) := fun ⟨n, v⟩ hy => by
    rcases S.par n (List.of_mem_zip hy).1 with q | q
    · exact .inl q
    · exact .inr ⟨q, PySem.W.cellsFrom_some _ _ _ (.inl q)⟩
  refine codeAny_call_function hr.depth (KX _ _ lk) rfl S.co S.gen rfl (PySem.W.codeRec_of KX hcd) (hb _ _ _ _ ?_)
  refine wpAny_newFunctionEnv_cells S.kind hkind fun env he s1 x => ?_
  subst he
  refine ⟨lim.keeps x.toInCall.keep, codeAny_func ?_⟩
  obtain ⟨t, ht, hq⟩ := hbody A outer s H vs Q E (hr.deeper _) hsp
  have I : Inv (cxOf CX P w K mg base N qual scope f cdv A outer s H E) [] (start N vs) H s1 := inv_start S hr.hd e0 hl r x
  refine wpAny_mono (ht [] s1 (start N vs) H _ I hq) (fun fl s' hs => ?_) fun e s' hs => hs
  have fin : ∀ {σ' : St} {H' : Hp} {v : V} {u : Value}, Inv (cxOf CX P w K mg base N qual scope f cdv A outer s H E) [] σ' H' s' → RelV v u → Q v H' → CE outer P w H s Q u s' :=
    fun {σ' H' v u} J rv q => ⟨v, H', J.os, J.bare, J.base, J.hok, rv, q⟩
  cases fl with
  | ret u =>
    obtain ⟨v, σ', H', J, rv, q⟩ := hs
    exact fin J rv q
  | next =>
    obtain ⟨σ', H', J, q⟩ := hs
    exact fin (v := V.non) (u := Value.none) J rfl q
  | brk =>
    obtain ⟨_, _, _, q⟩ := hs
    exact False.elim q
  | cont =>
    obtain ⟨_, _, _, q⟩ := hs
    exact False.elim q
end L2

namespace L2
open PySem PySem.Spec PyProof.Rows
section
variable {X : Cx} {x : Str} {p pos : Pos} {e : Expr} {es : List Expr} {t : TA} {id T : String} {r : List V → Hp → VK → Prop}

def tCB (r : List V → Hp → VK → Prop) (t : TA) : TE := fun σ H Q => t σ H fun vs H1 => r vs H1 Q
/-- f(e, ..), f a built-in function -/
theorem pe_callB (hc : CallR X (.builtin id) r) (hg : Gl X x) (hm : X.mg x = none) (hv : bootBuiltins x = some (.builtin id)) (ha : PA X (e :: es) t) (hn : x ≠ "__name__" := by decide) (hdb : (x == ("__debug__" : Str)) = false := by decide)
    (he : starEach (e :: es) X.env = (false, eval e X.env) :: starEach es X.env := by rfl) (hpl : (backTo pos (starEach es X.env)).any (·.1) = false := by rfl) : PE X (.Call (.Name x p) (e :: es) [] pos) (tCB r t) := by
  intro pins s σ H Q I h
  refine wpAny_Call_Name_kw (ld_blt I hg hm hv ?_ hn hdb)
  exact PyProof.Rows.callWith_builtin1 (thn (ha pos pins s σ H _ I h) fun us s1 ⟨vs, H1, I1, r1, q1⟩ => hc pins s1 σ H1 vs us Q I1 r1 q1) he hpl
/-- T(e, ..), T a built-in type -/
theorem pe_callTy (hc : CallR X (.type T) r) (hg : Gl X x) (hm : X.mg x = none) (hv : bootBuiltins x = some (.type T)) (ha : PA X (e :: es) t) (hn : x ≠ "__name__" := by decide) (hdb : (x == ("__debug__" : Str)) = false := by decide)
    (he : starEach (e :: es) X.env = (false, eval e X.env) :: starEach es X.env := by rfl) (hpl : (backTo pos (starEach es X.env)).any (·.1) = false := by rfl) : PE X (.Call (.Name x p) (e :: es) [] pos) (tCB r t) := by
  intro pins s σ H Q I h
  refine wpAny_Call_Name_kw (ld_blt I hg hm hv ?_ hn hdb)
  exact PyProof.Rows.callWith_type1 (thn (ha pos pins s σ H _ I h) fun us s1 ⟨vs, H1, I1, r1, q1⟩ => hc pins s1 σ H1 vs us Q I1 r1 q1) he hpl
/-- T() -/
theorem pe_callTy0 (hc : CallR X (.type T) r) (hg : Gl X x) (hm : X.mg x = none) (hv : bootBuiltins x = some (.type T)) (hn : x ≠ "__name__" := by decide) (hdb : (x == ("__debug__" : Str)) = false := by decide) :
    PE X (.Call (.Name x p) [] [] pos) (tCB r tNil) := by
  intro pins s σ H Q I h
  refine wpAny_Call_Name_kw (ld_blt I hg hm hv ?_ hn hdb)
  exact PyProof.Rows.callWith_type0 (hc pins s σ H [] [] Q I .nil h)
end
end L2

namespace HT
open PySem PyProof.Rows

/-- t < u of tuples of ints -/
def lexLt : List Int → List Int → Bool
  | [], [] => false
  | [], _ :: _ => true
  | _ :: _, [] => false
  | x :: xs, y :: ys => if x = y then lexLt xs ys else decide (x < y)
theorem lexLt_cons (x y : Int) (xs ys : List Int) : lexLt (x :: xs) (y :: ys) = if x = y then lexLt xs ys else decide (x < y) := rfl
theorem lexLt_nil_nil : lexLt [] [] = false := rfl
theorem lexLt_nil_cons (y : Int) (ys : List Int) : lexLt [] (y :: ys) = true := rfl
theorem lexLt_cons_nil (x : Int) (xs : List Int) : lexLt (x :: xs) [] = false := rfl

theorem eqAt_int (A : Around) (s : Shared) (a : Int) (t : Tok) (c : Int) (u : Tok) : ∃ e, SeqAt.EqAt A s (.int a t) (.int c u) e ∧ (e = true ↔ a = c) :=
  ⟨(a == c), SeqAt.EqAt.int_int a t c u, by simp⟩
theorem rcLt_int (A : Around) (s : Shared) (a : Int) (t : Tok) (c : Int) (u : Tok) (prog : Program) (w : World) (E : Value → Shared → Prop) (Q : Value → Shared → Prop) (h : Q (.bool (decide (a < c))) s) :
    wpAny (model prog w) A (richCompare .Lt (.int a t) (.int c u)) Q E s :=
  (PyProof.Rows.lt_int h : wpAny (model prog w) A (compareOp .Lt (.int a t) (.int c u)) Q E s)

section
open PySem.SeqAt
open PySem.AutoSeq1 (wpAny_loadPart')
open PySem.MeetsSeq PySem.MeetsSeq2 PySem.MeetsSeq3

theorem tuple_lt_ints (l b : Addr) (items items2 : Array Value) (n n2 : Nat) (dd dd2 : Option Addr) (sl sl2 : Array (Option Value)) (ns ms : List Int) (hi : IntsAre items.toList ns) (hj : IntsAre items2.toList ms) :
    Meets (Builtin.«tuple.__lt__» ⟨[.ref l, .ref b], []⟩)
      (fun _ R s => s.heap.get? l = some { cls := .type "tuple", dict := dd, data := .seq items n, slots := sl } ∧ s.heap.get? b = some { cls := .type "tuple", dict := dd2, data := .seq items2 n2, slots := sl2 } ∧
        R (.ok (.ret (.bool (lexLt ns ms)))) s) :=
  .of_wp fun prog w A R s h => by
    obtain ⟨hp, g, d, tk, os⟩ := s; obtain ⟨hl, hb, h⟩ := h
    have f2 := AutoSeq1.sub_tuple_tuple
    have z1 : items.size = ns.length := by rw [← hi.length]; simp
    have z2 : items2.size = ms.length := by rw [← hj.length]; simp
    wp_walk using wpAny_loadPart' hl, wpAny_loadPart' hb, wpAny_forIn_list _ (fun rest b s' => b.1 = none ∧ s' = ⟨hp, g, d, tk, os⟩ ∧ ∃ (vs ws : List Value) (ns' ms' : List Int), rest = vs.zip ws ∧
      IntsAre vs ns' ∧ IntsAre ws ms' ∧ ns'.length + items2.size = ms'.length + items.size ∧ R (.ok (.ret (.bool (lexLt ns' ms')))) ⟨hp, g, d, tk, os⟩) _
    case turn =>
      rintro ⟨y, x⟩ rest b s' ⟨hb', rfl, vs, ws, ns', ms', hz, hvi, hwi, hlen, hR⟩
      cases hvi with
      | nil => rw [List.zip_nil_left] at hz; cases hz
      | cons a t hvi' =>
        cases hwi with
        | nil => rw [List.zip_nil_right] at hz; cases hz
        | cons c u hwi' =>
          rw [List.zip_cons_cons] at hz
          injection hz with hyx hrest
          injection hyx with hy hx
          subst hy hx
          rw [lexLt_cons] at hR
          simp only [List.length_cons] at hlen
          obtain ⟨e, he, hiff⟩ := eqAt_int A.in1 ⟨hp, g, d, tk, os⟩ a t c u
          refine wpAny_bind (he prog w _ _ ?_)
          cases e with
          | true =>
            rw [if_pos (hiff.mp rfl)] at hR
            wp_walk
            exact ⟨rfl, rfl, _, _, _, _, hrest, hvi', hwi', by omega, hR⟩
          | false =>
            rw [if_neg (fun q => absurd (hiff.mpr q) Bool.false_ne_true)] at hR
            have hri := rcLt_int A.in1 ⟨hp, g, d, tk, os⟩ a t c u prog w
            wp_walk using hri
            exact ⟨_, rfl, by simpa using hR⟩
    case fin =>
      rintro ⟨b1, b2⟩ s' ⟨hb', rfl, vs, ws, ns', ms', hz, hvi, hwi, hlen, hR⟩
      simp only at hb'
      subst hb'
      have hv : lexLt ns' ms' = decide (items.size < items2.size) := by
        cases hvi with
        | nil =>
          cases hwi with
          | nil =>
            simp only [List.length_nil] at hlen
            rw [lexLt_nil_nil]
            exact (decide_eq_false (by omega)).symm
          | cons c u hw =>
            simp only [List.length_nil, List.length_cons] at hlen
            rw [lexLt_nil_cons]
            exact (decide_eq_true (by omega)).symm
        | cons a t hv =>
          cases hwi with
          | nil =>
            simp only [List.length_nil, List.length_cons] at hlen
            rw [lexLt_cons_nil]
            exact (decide_eq_false (by omega)).symm
          | cons c u hw =>
            rw [List.zip_cons_cons] at hz
            cases hz
      rw [hv] at hR
      wp_walk
      exact ⟨_, rfl, by simpa [Builtin.Tuple.tupleCompareSizes] using hR⟩
    case h =>
      exact ⟨rfl, rfl, items.toList, items2.toList, ns, ms, rfl, hi, hj, by omega, h⟩
end

section
variable {prog : Program} {w : World} {A : Around} {E : Value → Shared → Prop} {s : Shared}

theorem lt_tupInts {l b : Addr} {items items2 : Array Value} {ns ms : List Int} {Q : Value → Shared → Prop} (hl : IsTup s.heap l items) (hb : IsTup s.heap b items2) (hi : IntsAre items.toList ns) (hj : IntsAre items2.toList ms)
    (hu : A.units < cLine) (h : Q (.bool (lexLt ns ms)) s) : wpAny (model prog w) A (compareOp .Lt (.ref l) (.ref b)) Q E s := by
  obtain ⟨⟨cls, dd, data, sl⟩, ho, hc, n, hd⟩ := id hl
  obtain ⟨⟨cls2, dd2, data2, sl2⟩, ho2, hc2, n2, hd2⟩ := id hb
  simp only at hc hd hc2 hd2
  subst hc hd hc2 hd2
  exact richCompare_meets_room (op := .Lt) ⟨_, ho, rfl⟩ ⟨_, ho2, rfl⟩ PySem.F.slot_tuple_lt PySem.F.entry_tuple_lt (PySem.F.args_tuple_lt_2 _ _) (tuple_lt_ints l b items items2 n n2 dd dd2 sl sl2 ns ms hi hj)
    ⟨ho, ho2, show Value.bool (lexLt ns ms) ≠ Value.notImplemented ∧ Q (.bool (lexLt ns ms)) s from ⟨(fun x => nomatch x), h⟩⟩ hu

/-- t + u, t not empty -/
theorem cat_tup {t b : Addr} {vs ws : List Value} {Q : Value → Shared → Prop} (ht : IsTup s.heap t vs.toArray) (hb : IsTup s.heap b ws.toArray) (hv : vs ≠ [])
    (h1 : ws = [] → Q (.ref t) s) (h2 : ws ≠ [] → Q (.ref s.heap.objs.size) { s with heap := s.heap.push { cls := .type "tuple", data := .seq (vs ++ ws).toArray } })
    (hsz : vs.length + ws.length ≤ sizeLine) : wpAny (model prog w) A (binaryOp .Add (.ref t) (.ref b)) Q E s := by
  obtain ⟨⟨cls, dd, data, sl⟩, ho, hc, n, hd⟩ := id ht
  obtain ⟨⟨cls2, dd2, data2, sl2⟩, ho2, hc2, n2, hd2⟩ := id hb
  simp only at hc hd hc2 hd2
  subst hc hd hc2 hd2
  have e : vs.toArray ++ ws.toArray = (vs ++ ws).toArray := by simp
  by_cases hw : ws = []
  · exact concat_meets ⟨_, ho, rfl⟩ ⟨_, ho2, rfl⟩ noFill_tuple_add seq_tuple_add PySem.F.slot_tuple_add PySem.F.entry_tuple_add (PySem.F.args_tuple_add_2 _ _)
      (tuple_addW1 t b vs.toArray ws.toArray n n2 dd dd2 sl sl2 (by simpa using hv) (by simp [hw])) ⟨ho, ho2, h1 hw⟩
  · refine concat_meets ⟨_, ho, rfl⟩ ⟨_, ho2, rfl⟩ noFill_tuple_add seq_tuple_add PySem.F.slot_tuple_add PySem.F.entry_tuple_add (PySem.F.args_tuple_add_2 _ _)
      (tuple_addW2 t b vs.toArray ws.toArray n n2 dd dd2 sl sl2 (by simpa using hv) (by simpa using hw) (by rw [List.size_toArray, List.size_toArray]; exact hsz)) ⟨ho, ho2, ?_⟩
    rw [e]
    exact h2 hw

/-! ### t[a:b], not the whole -/
/-- a slice's bound as a place among n (d where it is left out) -/
def sIx (n d : Nat) : Option Int → Nat
  | none => d
  | some v => if v < 0 then (v + (n : Int)).toNat else min v.toNat n
theorem sIx_none (n d : Nat) : sIx n d none = d := rfl
theorem sIx_nat (n d k : Nat) : sIx n d (some (k : Int)) = min k n := by
  show (if (k : Int) < 0 then ((k : Int) + (n : Int)).toNat else min (k : Int).toNat n) = min k n
  rw [if_neg (by omega), Int.toNat_natCast]
theorem sIx_le (n d : Nat) (hd : d ≤ n) (o : Option Int) : sIx n d o ≤ n := by
  cases o with
  | none => exact hd
  | some v =>
    show (if v < 0 then (v + (n : Int)).toNat else min v.toNat n) ≤ n
    by_cases hv : v < 0
    · rw [if_pos hv]; omega
    · rw [if_neg hv]; exact Nat.min_le_right _ _
theorem clip_eq (v : Int) (n d : Nat) : (if v < 0 then max (v + (n : Int)) 0 else min v (n : Int)) = ((sIx n d (some v) : Nat) : Int) := by
  show (if v < 0 then max (v + (n : Int)) 0 else min v (n : Int)) = (((if v < 0 then (v + (n : Int)).toNat else min v.toNat n) : Nat) : Int)
  by_cases hv : v < 0
  · simp only [if_pos hv]; omega
  · simp only [if_neg hv]; omega
theorem adjust_gen (lo hi : Option Int) (n : Nat) : Builtin.Slice.sliceAdjust lo hi 1 (n : Int) = (((sIx n 0 lo : Nat) : Int), ((sIx n n hi : Nat) : Int)) := by
  have h1 : ¬ ((1 : Int) < 0) := by omega
  unfold Builtin.Slice.sliceAdjust
  simp only [h1, if_false]
  refine Prod.ext ?_ ?_
  · cases lo with
    | none => rfl
    | some v => exact clip_eq v n 0
  · cases hi with
    | none => rfl
    | some v => exact clip_eq v n n
theorem places_gen (i j : Nat) : Builtin.Slice.slicePlaces (i : Int) (j : Int) 1 = j - i := by
  unfold Builtin.Slice.slicePlaces
  have h1 : (1 : Int) > 0 := by omega
  simp only [h1, if_true, Int.ediv_one]
  split <;> omega
theorem slicePart_ {v : Value} {o : Option Int} {Q : Option Int → Shared → Prop} (p : IsPart v o) (h : Q o s) : wpAny (model prog w) A (Builtin.Slice.slicePartIndex v) Q E s := by
  cases p with
  | none => exact slicePart_none h
  | int i t => exact slicePart_int h
theorem sliceApplied_gen {sl : Addr} {vl vu : Value} {lo hi : Option Int} {n : Nat} {Q : Int × Int × Nat → Shared → Prop} (hs : s.heap.IsSliceOf sl vl vu .none) (pl : IsPart vl lo) (pu : IsPart vu hi)
    (h : Q (((sIx n 0 lo : Nat) : Int), 1, sIx n n hi - sIx n 0 lo) s) : wpAny (model prog w) A (Builtin.Slice.sliceApplied (.ref sl) (pure (n : Int))) Q E s := by
  obtain ⟨os, hos, hcs, hds⟩ := id hs
  unfold Builtin.Slice.sliceApplied Builtin.Slice.sliceFields
  refine wpAny_bind (wpAny_bind (wpAny_field hos hds (x := vl) rfl (wpAny_bind (wpAny_field hos hds (x := vu) rfl (wpAny_bind (wpAny_field hos hds (x := .none) rfl (wpAny_pure ?_)))))))
  refine wpAny_bind (slicePart_none ?_)
  show wpAny _ _ (if ((1 : Int) == 0) = true then _ else _) _ _ s
  rw [if_neg (by decide)]
  refine wpAny_bind (slicePart_ pl (wpAny_bind (slicePart_ pu (wpAny_bind (wpAny_pure ?_)))))
  show wpAny _ _ (match Builtin.Slice.sliceAdjust lo hi 1 (n : Int) with | (lo, hi) => pure (lo, (1 : Int), Builtin.Slice.slicePlaces lo hi 1)) _ _ s
  rw [adjust_gen lo hi n]
  show wpAny _ _ (pure (((sIx n 0 lo : Nat) : Int), (1 : Int), Builtin.Slice.slicePlaces ((sIx n 0 lo : Nat) : Int) ((sIx n n hi : Nat) : Int) 1)) _ _ s
  rw [places_gen]
  exact wpAny_pure h
theorem pick_gen (xs : Array Value) (i k : Nat) : ((List.range k).filterMap fun (m : Nat) => xs[((i : Int) + (m : Int) * 1).toNat]?).toArray = ((xs.toList.drop i).take k).toArray := by
  have e : (fun (m : Nat) => xs[((i : Int) + (m : Int) * 1).toNat]?) = fun m => xs[i + m]? := by
    funext m
    have : ((i : Int) + (m : Int) * 1).toNat = i + m := by omega
    rw [this]
  rw [e]
  have := pick_run xs i k
  rw [List.filterMap_map] at this
  have e2 : ((fun x => xs[x]?) ∘ fun x => i + x) = fun m => xs[i + m]? := rfl
  rw [e2] at this
  rw [this]

theorem getItem_tuple_cut {t sl : Addr} {items : Array Value} {vl vu : Value} {lo hi : Option Int} {Q : Value → Shared → Prop} (ht : IsTup s.heap t items) (hs : s.heap.IsSliceOf sl vl vu .none) (pl : IsPart vl lo) (pu : IsPart vu hi)
    (hw : ¬ (sIx items.size 0 lo = 0 ∧ sIx items.size items.size hi = items.size))
    (h : Q (.ref s.heap.objs.size) { s with heap := s.heap.push { cls := .type "tuple", data := .seq ((items.toList.drop (sIx items.size 0 lo)).take (sIx items.size items.size hi - sIx items.size 0 lo)).toArray } })
    (hsz : items.size ≤ sizeLine) : wpAny (model prog w) A (getItem (.ref t) (.ref sl)) Q E s := by
  have htake : sizeOk (.seq ((items.toList.drop (sIx items.size 0 lo)).take (sIx items.size items.size hi - sIx items.size 0 lo)).toArray) := by
    show ((items.toList.drop (sIx items.size 0 lo)).take (sIx items.size items.size hi - sIx items.size 0 lo)).toArray.size ≤ sizeLine
    rw [List.size_toArray, List.length_take, List.length_drop, Array.length_toList]
    omega
  have hj : sIx items.size items.size hi ≤ items.size := sIx_le _ _ (Nat.le_refl _) hi
  obtain ⟨os, hos, hcs, hds⟩ := id hs
  have hTs : s.TypeIs (.ref sl) "slice" := ⟨os, hos, hcs⟩
  unfold getItem
  try with_reducible refine wpAny_holding ?_
  first | refine wpAny_bind (wpAny_pure ?_) | skip
  refine wpAny_bind (wpAny_sequenceKey ht.typeIs (by decide) ?_)
  refine wpAny_bind (wpAny_callSpecial?_slot (name := Str.ofString "__getitem__") ht.typeIs PyProof.Rows.slot_tuple_getitem
    (wpAny_call_entry PyProof.Rows.slot_tuple_getitem ht.typeIs entry_tuple_getitem ?_ (args_tuple_getitem _ _)))
  show wpAny _ _ (Builtin.Tuple.tupleItemsOf (.ref t) >>= _) _ _ s
  refine wpAny_bind (tupleItemsOf_ ht ?_)
  refine wpAny_bind (wpAny_typeOf hTs ?_)
  rw [if_pos (by decide)]
  refine wpAny_bind (sliceApplied_gen hs pl pu ?_)
  have hno : ¬ ((((sIx items.size 0 lo : Nat) : Int) == 0 && (1 : Int) == 1 && (sIx items.size items.size hi - sIx items.size 0 lo) == items.size) = true) := by
    intro q
    rw [Bool.and_eq_true, Bool.and_eq_true] at q
    have q1 : ((sIx items.size 0 lo : Nat) : Int) = 0 := eq_of_beq q.1.1
    have q2 : sIx items.size items.size hi - sIx items.size 0 lo = items.size := eq_of_beq q.2
    exact hw ⟨by omega, by omega⟩
  show wpAny _ _ (if (((sIx items.size 0 lo : Nat) : Int) == 0 && (1 : Int) == 1 && (sIx items.size items.size hi - sIx items.size 0 lo) == items.size) = true then _ else _) _ _ s
  rw [if_neg hno, pick_gen]
  first
    | exact wpAny_bind (m := Builtin.Tuple.tupleExact _) (wpAny_newObj_type (wpAny_pure ⟨_, rfl, wpAny_pure h⟩) htake)
    | exact wpAny_bind (m := Builtin.Tuple.tupleExact _) (wpAny_newObj_type (wpAny_bind (wpAny_pure (wpAny_pure ⟨_, rfl, wpAny_pure h⟩))) htake)
    | exact wpAny_bind (wpAny_bind (m := Builtin.Tuple.tupleExact _) (wpAny_newObj_type (wpAny_pure (wpAny_pure ⟨_, rfl, wpAny_pure h⟩)) htake))
    | exact wpAny_bind (wpAny_bind (m := Builtin.Tuple.tupleExact _) (wpAny_newObj_type (wpAny_pure ⟨_, rfl, wpAny_pure h⟩) htake))
end
end HT

namespace L2
open PySem PySem.Spec PyProof.Rows

/-! ### the parts of a slice -/
abbrev TO := St → Hp → (Option Int → Hp → Prop) → Prop
/-- a slice's part (left out, or an int) -/
def PO (X : Cx) (e : Option Expr) (t : TO) : Prop :=
  ∀ (pins : List (Addr × Obj)) (s : Shared) (σ : St) (H : Hp) (Q : Option Int → Hp → Prop), Inv X pins σ H s → t σ H Q →
    wpAny (model X.prog X.w) X.A (evalPart e X.env) (fun u s' => ∃ o H', Inv X pins σ H' s' ∧ IsPart u o ∧ Q o H') X.xe s
def tNoPart : TO := fun _ H Q => Q none H
def tPart (t : TE) : TO := fun σ H Q => t σ H fun x H1 => ∃ i, x = .int i ∧ Q (some i) H1

theorem intsAre_of {ns : List Int} : ∀ {us : List Value}, Vals (ns.map V.int) us → IntsAre us ns := by
  induction ns with
  | nil => intro us r; rw [List.map_nil] at r; cases r; exact .nil
  | cons n ns ih =>
    intro us r
    rw [List.map_cons] at r
    cases r with
    | cons r1 r2 =>
      obtain ⟨t, e⟩ := r1
      subst e
      exact .cons n t (ih r2)

section
variable {X : Cx} {e : Expr} {te : TE} {lo hi : Option Expr} {tl th : TO} {pos p2 : Pos}

theorem po_none : PO X none tNoPart := by
  intro pins s σ H Q I h
  rw [evalPart_none]
  exact wpAny_pure ⟨none, H, I, .none, h⟩
theorem po_some (h : PE X e te) : PO X (some e) (tPart te) := by
  intro pins s σ H Q I hw
  rw [evalPart_some]
  refine thn (h pins s σ H _ I hw) fun u s1 ⟨x, H1, I1, r1, q1⟩ => ?_
  obtain ⟨i, rfl, q⟩ := q1
  obtain ⟨t, rfl⟩ := r1
  exact ⟨some i, H1, I1, .int i t, q⟩

/-- what a slice of a value is, by values: the slice object stands at sl -/
def SlR (X : Cx) (r : V → Option Int → Option Int → Hp → VK → Prop) : Prop :=
  ∀ (pins : List (Addr × Obj)) (s : Shared) (σ : St) (H : Hp) (x : V) (v vl vu : Value) (lo hi : Option Int) (sl : Addr) (Q : VK), Inv X pins σ H s → RelV x v → s.heap.IsSliceOf sl vl vu .none → IsPart vl lo → IsPart vu hi → r x lo hi H Q →
    ∃ T id, typeLookup (.type T) "__getitem__" = pure (some (.builtin id)) ∧ s.TypeIs v T ∧ wpAny (model X.prog X.w) X.A (getItem v (.ref sl)) (EP X pins σ Q) X.xe s
theorem SlR.or {r r' : V → Option Int → Option Int → Hp → VK → Prop} (h : SlR X r) (h' : SlR X r') : SlR X (fun x lo hi H Q => r x lo hi H Q ∨ r' x lo hi H Q) := by
  intro pins s σ H x v vl vu lo hi sl Q I rx hs pl pu q
  rcases q with q | q
  · exact h pins s σ H x v vl vu lo hi sl Q I rx hs pl pu q
  · exact h' pins s σ H x v vl vu lo hi sl Q I rx hs pl pu q
def tSl (r : V → Option Int → Option Int → Hp → VK → Prop) (te : TE) (tl th : TO) : TE := fun σ H Q => te σ H fun x H1 => tl σ H1 fun l H2 => th σ H2 fun u H3 => r x l u H3 Q
/-- a[lo:hi], any a -/
theorem pe_slice {r : V → Option Int → Option Int → Hp → VK → Prop} (hr : SlR X r) (he : PE X e te) (hl : PO X lo tl) (hu : PO X hi th) : PE X (.Subscript e (.Slice lo hi none p2) pos) (tSl r te tl th) := by
  intro pins s σ H Q I h
  refine Subscript_ (thn (he pins s σ H _ I h) fun v s1 ⟨x, H1, I1, r1, q1⟩ => ?_)
  refine wpAny_Slice (thn (hl pins s1 σ H1 _ I1 q1) fun vl s2 ⟨l, H2, I2, pl, q2⟩ => thn (hu pins s2 σ H2 _ I2 q2) fun vu s3 ⟨u, H3, I3, pu, q3⟩ => ?_)
  rw [evalPart_none]
  refine wpAny_pure ?_
  have I4 : Inv X pins σ H3 { s3 with heap := s3.heap.push { cls := .type "slice", data := .fields #[vl, vu, .none] } } := I3.kept (t' := s3.toks) fun b ob q => Heap.get?_push_of_some _ q
  obtain ⟨T, id, hT, ht, hg⟩ := hr pins { s3 with heap := s3.heap.push { cls := .type "slice", data := .fields #[vl, vu, .none] } } σ H3 x v vl vu l u s3.heap.objs.size Q I4 r1 (Heap.IsSliceOf.new ..) pl pu q3
  show wpAny (model X.prog X.w) X.A (subscriptTail e (.Slice lo hi none p2) v (.ref s3.heap.objs.size)) (EP X pins σ Q) X.xe { s3 with heap := s3.heap.push { cls := .type "slice", data := .fields #[vl, vu, .none] } }
  exact tail_any (ops := [.ref s3.heap.objs.size, v]) ht hT hg (by with_unfolding_all rfl)

/-- the items of xs[lo:hi] -/
def cutV (xs : List V) (lo hi : Option Int) : List V := (xs.drop (HT.sIx xs.length 0 lo)).take (HT.sIx xs.length xs.length hi - HT.sIx xs.length 0 lo)
theorem cutV_length (xs : List V) (lo hi : Option Int) : (cutV xs lo hi).length ≤ xs.length := by
  unfold cutV
  rw [List.length_take, List.length_drop]
  omega
/-- t[lo:hi], not the whole of it (the whole would be t itself) -/
def rSlT (K : PySem.W.Frag) : V → Option Int → Option Int → Hp → VK → Prop := fun x lo hi H Q => ∃ a xs, x = .ref a ∧ SqT K H a xs ∧
  ¬ (HT.sIx xs.length 0 lo = 0 ∧ HT.sIx xs.length xs.length hi = xs.length) ∧ ∀ p, H p = none → Q (.ref p) (upd H p (.tup (cutV xs lo hi)))
theorem sl_tup : SlR X (rSlT X.K) := by
  intro pins s σ H x v vl vu lo hi sl Q I rx hs pl pu h
  obtain ⟨a, xs, rfl, hx, hw, q⟩ := h
  cases rx
  obtain ⟨its, r, ht, hz⟩ := I.tuple hx
  have hlen : its.toArray.size = xs.length := by rw [List.size_toArray]; exact r.length.symm
  refine ⟨"tuple", _, PyProof.Rows.slot_tuple_getitem.lookup, ht.typeIs, ?_⟩
  refine HT.getItem_tuple_cut ht hs pl pu (by rw [hlen]; exact hw) ?_ (by rw [hlen]; exact hz)
  rw [hlen]
  refine ⟨.ref s.heap.objs.size, _, I.laid (t' := s.toks) (o := .tup (cutV xs lo hi)) (fun b ob q => Heap.get?_push_of_some _ q) (Nat.le_refl _) ?_, rfl, q _ (I.hok.fresh (Nat.le_refl _))⟩
  exact ⟨Nat.le_trans (cutV_length xs lo hi) hz, _, (r.drop (HT.sIx xs.length 0 lo)).take (HT.sIx xs.length xs.length hi - HT.sIx xs.length 0 lo), IsTup.new _ _⟩

/-! ### t < u, t + u -/
def rLtT (K : PySem.W.Frag) : R2 := fun x y H Q => ∃ a b ns ms, x = .ref a ∧ y = .ref b ∧ SqT K H a (ns.map V.int) ∧ SqT K H b (ms.map V.int) ∧ Q (.bl (HT.lexLt ns ms)) H
theorem op_ltT (hu : X.A.units < cLine) : OpR X (compareOp .Lt) (rLtT X.K) := by
  intro pins s σ H x y v u Q I rx ry h
  obtain ⟨a, b, ns, ms, rfl, rfl, ha, hb, q⟩ := h
  cases rx
  cases ry
  obtain ⟨its, r1, p1, _⟩ := I.tuple ha
  obtain ⟨its2, r2, p2, _⟩ := I.tuple hb
  have i1 : IntsAre its.toArray.toList ns := intsAre_of r1
  have i2 : IntsAre its2.toArray.toList ms := intsAre_of r2
  exact HT.lt_tupInts p1 p2 i1 i2 hu ⟨.bl (HT.lexLt ns ms), H, I, rfl, q⟩
/-- t + u, t not empty: u empty gives t itself -/
def rCatT (K : PySem.W.Frag) : R2 := fun x y H Q => ∃ a b xs ys, x = .ref a ∧ y = .ref b ∧ SqT K H a xs ∧ SqT K H b ys ∧ xs ≠ [] ∧ xs.length + ys.length ≤ sizeLine ∧
  (ys = [] → Q (.ref a) H) ∧ (ys ≠ [] → ∀ p, H p = none → Q (.ref p) (upd H p (.tup (xs ++ ys))))
theorem Vals.nil_iff {xs : List V} {us : List Value} (r : Vals xs us) : us = [] ↔ xs = [] := by
  cases r with
  | nil => simp
  | cons _ _ => simp
theorem op_catT : OpR X (binaryOp .Add) (rCatT X.K) := by
  intro pins s σ H x y v u Q I rx ry h
  obtain ⟨a, b, xs, ys, rfl, rfl, ha, hb, hx, hz, q1, q2⟩ := h
  cases rx
  cases ry
  obtain ⟨its, r1, p1, _⟩ := I.tuple ha
  obtain ⟨its2, r2, p2, _⟩ := I.tuple hb
  refine HT.cat_tup p1 p2 (fun z => hx (r1.nil_iff.mp z)) (fun z => ⟨.ref a, H, I, rfl, q1 (r2.nil_iff.mp z)⟩) (fun z => ?_) (by rw [← r1.length, ← r2.length]; exact hz)
  refine ⟨.ref s.heap.objs.size, _, I.laid (t' := s.toks) (o := .tup (xs ++ ys)) (fun b ob q => Heap.get?_push_of_some _ q) (Nat.le_refl _) ?_, rfl, q2 (fun w => z (r2.nil_iff.mpr w)) _ (I.hok.fresh (Nat.le_refl _))⟩
  exact ⟨by rw [List.length_append]; exact hz, _, r1.append r2, IsTup.new _ _⟩
/-- tuple(t) -/
theorem call_tupleT : CallR X (.type "tuple") (fun xs H Q => ∃ a ys, xs = [.ref a] ∧ SqT X.K H a ys ∧ Q (.ref a) H) := by
  intro pins s σ H xs us Q I r h
  obtain ⟨a, ys, rfl, ha, q⟩ := h
  obtain ⟨u, rfl, ru⟩ := vals1 r
  cases ru
  obtain ⟨its, _, p1, _⟩ := I.tuple ha
  exact call_tuple_same (items := its.toArray) p1 ⟨.ref a, H, I, rfl, q⟩
end
end L2

namespace L2
open PySem PySem.Spec PyProof.Rows

/-! ### places -/
/-- the place that an index of any sign means -/
def ixN (n : Nat) (i : Int) : Option Nat := if 0 ≤ i then (if i < n then some i.toNat else none) else if -(n : Int) ≤ i then some (i + n).toNat else none
def atI {α : Type} (xs : List α) (i : Int) : Option α := (ixN xs.length i).bind fun j => xs[j]?
theorem ixN_seq {n : Nat} {i : Int} {j : Nat} (h : ixN n i = some j) : seqIndex? i n = some j ∧ j < n ∧ -(n : Int) ≤ i ∧ i < n := by
  unfold ixN at h
  by_cases h0 : 0 ≤ i
  · rw [if_pos h0] at h
    by_cases h1 : i < n
    · rw [if_pos h1] at h
      have e : i.toNat = j := Option.some.inj h
      exact ⟨by rw [seqIndex_of h0 h1, e], by omega, by omega, h1⟩
    · rw [if_neg h1] at h; cases h
  · rw [if_neg h0] at h
    by_cases h1 : -(n : Int) ≤ i
    · rw [if_pos h1] at h
      have e : (i + n).toNat = j := Option.some.inj h
      exact ⟨by rw [seqIndex_neg (by omega) h1, e], by omega, h1, by omega⟩
    · rw [if_neg h1] at h; cases h
theorem atI_get {α : Type} {xs : List α} {i : Int} {v : α} (h : atI xs i = some v) : ∃ j, seqIndex? i xs.length = some j ∧ xs[j]? = some v ∧ j < xs.length ∧ -(xs.length : Int) ≤ i ∧ i < xs.length := by
  unfold atI at h
  cases e : ixN xs.length i with
  | none => rw [e] at h; cases h
  | some j =>
    rw [e] at h
    obtain ⟨h1, h2, h3, h4⟩ := ixN_seq e
    exact ⟨j, h1, h, h2, h3, h4⟩
theorem atI_nat {α : Type} {xs : List α} {j : Nat} {v : α} (h : xs[j]? = some v) : atI xs (j : Int) = some v := by
  have hj : j < xs.length := (List.getElem?_eq_some_iff.mp h).1
  have e : ixN xs.length (j : Int) = some j := by
    unfold ixN
    rw [if_pos (by omega), if_pos (by omega)]; simp
  unfold atI; rw [e]; exact h
theorem atI_last {α : Type} (xs : List α) (v : α) : atI (xs ++ [v]) (-1) = some v := by
  have hl : (xs ++ [v]).length = xs.length + 1 := by simp
  have e : ixN (xs ++ [v]).length (-1) = some xs.length := by
    unfold ixN
    rw [hl, if_neg (by decide), if_pos (by omega)]
    congr 1
    omega
  unfold atI
  rw [e]
  show (xs ++ [v])[xs.length]? = some v
  simp

/-! ### what may be subscripted -/
/-- what stands as an index of a plain subscript -/
def PlainIx (b : Expr) : Prop := ∀ o i, subscripted b false o i = operate [o, i] (getItem o i)
/-- a subscript by values -/
def IxR (X : Cx) (r : R2) : Prop :=
  ∀ (value slice : Expr) (pins : List (Addr × Obj)) (s : Shared) (σ : St) (H : Hp) (x y : V) (v u : Value) (Q : VK), Inv X pins σ H s → RelV x v → RelV y u → r x y H Q →
    subscripted slice false v u = operate [v, u] (getItem v u) → wpAny (model X.prog X.w) X.A (subscriptTail value slice v u) (EP X pins σ Q) X.xe s
/-- a call of a builtin's method by values: the receiver, the arguments -/
def MtR (X : Cx) (id : String) (r : V → List V → Hp → VK → Prop) : Prop :=
  ∀ (pins : List (Addr × Obj)) (s : Shared) (σ : St) (H : Hp) (x : V) (xs : List V) (v : Value) (us : List Value) (Q : VK), Inv X pins σ H s → RelV x v → Vals xs us → r x xs H Q →
    wpAny (model X.prog X.w) X.A (call (.builtin id) (v :: us)) (EP X pins σ Q) X.xe s
section
variable {X : Cx} {a b : Expr} {ta tb : TE} {pos : Pos}
theorem IxR.or {r r' : R2} (h : IxR X r) (h' : IxR X r') : IxR X (fun x y H Q => r x y H Q ∨ r' x y H Q) := by
  intro value slice pins s σ H x y v u Q I rx ry q hs
  rcases q with q | q
  · exact h value slice pins s σ H x y v u Q I rx ry q hs
  · exact h' value slice pins s σ H x y v u Q I rx ry q hs
theorem MtR.or {id : String} {r r' : V → List V → Hp → VK → Prop} (h : MtR X id r) (h' : MtR X id r') : MtR X id (fun x xs H Q => r x xs H Q ∨ r' x xs H Q) := by
  intro pins s σ H x xs v us Q I rx rs q
  rcases q with q | q
  · exact h pins s σ H x xs v us Q I rx rs q
  · exact h' pins s σ H x xs v us Q I rx rs q
/-- a[b] -/
theorem pe_ix {r : R2} (hr : IxR X r) (ha : PE X a ta) (hb : PE X b tb) (hs : PlainIx b) : PE X (.Subscript a b pos) (tOp r ta tb) := by
  intro pins s σ H Q I h
  exact Subscript_ (binT ha hb I h fun v u s2 x y H2 I2 rx ry q => hr a b pins s2 σ H2 x y v u Q I2 rx ry q (hs _ _))

def rIxL (K : PySem.W.Frag) : R2 := fun x y H Q => ∃ p xs i v, x = .ref p ∧ y = .int i ∧ SqL K H p xs ∧ atI xs i = some v ∧ Q v H
def rIxT (K : PySem.W.Frag) : R2 := fun x y H Q => ∃ p xs i v, x = .ref p ∧ y = .int i ∧ SqT K H p xs ∧ atI xs i = some v ∧ Q v H
def rIxS : R2 := fun x y H Q => ∃ z i c, x = .str z ∧ y = .int i ∧ z.length ≤ sizeLine ∧ atI z.cps.toList i = some c ∧ Q (.str ⟨#[c]⟩) H
theorem ix_list : IxR X (rIxL X.K) := by
  intro value slice pins s σ H x y v u Q I rx ry h hs
  obtain ⟨p, xs, i, z, rfl, rfl, hq, he, q⟩ := h
  cases rx
  obtain ⟨t, rfl⟩ := ry
  obtain ⟨its, r, pl, hz⟩ := I.list hq
  obtain ⟨j, h1, h2, h3, h4, h5⟩ := atI_get he
  obtain ⟨w, ew, rw'⟩ := r.get h2
  have hl := r.length
  have hn := line63
  have fin : EP X pins σ Q w s := ⟨z, H, I, rw', q⟩
  by_cases h0 : 0 ≤ i
  · have hj : i.toNat = j := by
      rw [seqIndex_of h0 h5] at h1
      exact Option.some.inj h1
    exact item_listR pl.isList h0 (by omega) (by rw [hj]; simpa using ew) fin hs
  · have hj : (i + (its.toArray.size : Int)).toNat = j := by
      rw [seqIndex_neg (by omega) h4] at h1
      rw [List.size_toArray, ← hl]
      exact Option.some.inj h1
    exact subscriptTail_builtinR (x := w) pl.isList.typeIs slot_list_getitem.lookup
      (wpAny_getItem_list_neg (Q := fun r s' => r = w ∧ EP X pins σ Q r s') pl.isList (by omega) (by rw [List.size_toArray] <;> omega) (by omega) (by rw [hj]; simpa using ew) ⟨rfl, fin⟩) hs
theorem ix_tup : IxR X (rIxT X.K) := by
  intro value slice pins s σ H x y v u Q I rx ry h hs
  obtain ⟨p, xs, i, z, rfl, rfl, hq, he, q⟩ := h
  cases rx
  obtain ⟨t, rfl⟩ := ry
  obtain ⟨its, r, pl, hz⟩ := I.tuple hq
  obtain ⟨j, h1, h2, h3, h4, h5⟩ := atI_get he
  obtain ⟨w, ew, rw'⟩ := r.get h2
  have hl := r.length
  have hn := line63
  have fin : EP X pins σ Q w s := ⟨z, H, I, rw', q⟩
  exact subscriptTail_builtinR (x := w) pl.typeIs slot_tuple_getitem.lookup
    (getItem_tuple (j := j) (Q := fun r s' => r = w ∧ EP X pins σ Q r s') pl (by omega) (by omega) (by rw [List.size_toArray, ← hl]; exact h1) (by simpa using ew) ⟨rfl, fin⟩) hs
theorem ix_str : IxR X rIxS := by
  intro value slice pins s σ H x y v u Q I rx ry h hs
  obtain ⟨z, i, c, rfl, rfl, hz, he, q⟩ := h
  obtain ⟨t, rfl⟩ := rx
  obtain ⟨t', rfl⟩ := ry
  obtain ⟨j, h1, h2, h3, h4, h5⟩ := atI_get he
  have hl : z.cps.toList.length = z.length := by simp [Str.length]
  rw [hl] at h1 h4 h5
  have hn := line63
  exact tail_any (typeIs_str s z t) slot_str_getitem.lookup (getItem_str (c := c) (by
    have e1 : decide (i < -(2 ^ 63 : Int)) = false := decide_eq_false (by omega)
    have e2 : decide (i ≥ 2 ^ 63) = false := decide_eq_false (by omega)
    rw [e1, e2, Bool.or_false]) (by rw [h1]; simpa using h2) ⟨.str ⟨#[c]⟩, H, I.tok _, ⟨_, rfl⟩, q⟩) hs
/-- list, tuple or str -/
def rIx (K : PySem.W.Frag) : R2 := fun x y H Q => rIxL K x y H Q ∨ rIxT K x y H Q ∨ rIxS x y H Q
theorem ix_seq : IxR X (rIx X.K) := ix_list.or (ix_tup.or ix_str)

/-! ### xs[i] = v, any sign -/
/-- the list's object behind a store -/
theorem mapSeq_set (its : List Value) (n j : Nat) (u : Value) : Obj.mapSeq (·.setIfInBounds j u) { cls := .type "list", data := .seq its.toArray n } = { cls := .type "list", data := .seq (its.set j u).toArray n } := by
  simp [Obj.mapSeq]
theorem Inv.lst {pins : List (Addr × Obj)} {σ : St} {H : Hp} {s : Shared} {p : Addr} {xs : List V} (I : Inv X pins σ H s) (h : H p = some (.lst xs)) :
    ∃ (its : List Value) (n : Nat), Vals xs its ∧ s.heap.get? p = some { cls := .type "list", data := .seq its.toArray n } ∧ xs.length ≤ sizeLine := by
  obtain ⟨z, its, n, r, e⟩ := I.hok p _ h
  exact ⟨its, n, r, e, z⟩
/-- the list at p is written by an update of its object -/
theorem Inv.lstUpd {pins : List (Addr × Obj)} {σ : St} {H : Hp} {s : Shared} {p : Addr} {xs ys : List V} {its its' : List Value} {n n' : Nat} {f : Obj → Obj} (I : Inv X pins σ H s) (h : H p = some (.lst xs))
    (ho : s.heap.get? p = some { cls := .type "list", data := .seq its.toArray n }) (hf : f { cls := .type "list", data := .seq its.toArray n } = { cls := .type "list", data := .seq its'.toArray n' }) (r : Vals ys its') (hz : ys.length ≤ sizeLine) (t : Nat) :
    Inv X pins σ (upd H p (.lst ys)) { s with heap := s.heap.update p f, toks := t } := by
  have e : (s.heap.update p f).get? p = some { cls := .type "list", data := .seq its'.toArray n' } := by
    rw [Heap.get?_update_self f ho (by rw [hf] <;> rfl), hf]
  refine I.write (x := p) (e := p) (by rw [h]; trivial) (.inl rfl) (fun b u hb q => (Heap.get?_update_other _ _ (Ne.symm hb)).trans q) ⟨_, e⟩ ?_
  exact ⟨hz, its', n', r, e⟩
def rSetL : V → V → V → Hp → (Hp → Prop) → Prop := fun o i v H Q => ∃ p xs k j, o = .ref p ∧ i = .int k ∧ H p = some (.lst xs) ∧ ixN xs.length k = some j ∧ Q (upd H p (.lst (xs.set j v)))
theorem set_list : PSet X rSetL := by
  intro pins s σ H o i v ov iv u Q I ro ri rv h
  obtain ⟨p, xs, k, j, rfl, rfl, hp, hj, q⟩ := h
  cases ro
  obtain ⟨t, rfl⟩ := ri
  obtain ⟨its, n, r, ho, hz⟩ := I.lst hp
  obtain ⟨h1, h2, h3, h4⟩ := ixN_seq hj
  have hl := r.length
  have hn := line63
  have I' : Inv X pins σ (upd H p (.lst (xs.set j v))) { s with heap := s.heap.update p (Obj.mapSeq (·.setIfInBounds j u)) } :=
    I.lstUpd hp ho (mapSeq_set its n j u) (r.set rv j) (by rw [List.length_set]; exact hz) s.toks
  by_cases h0 : 0 ≤ k
  · have hk : k.toNat = j := by
      rw [seqIndex_of h0 h4] at h1
      exact Option.some.inj h1
    exact PySem.W.ki_setAt ho h0 (by omega) (by rw [List.size_toArray, ← hl]; exact h4) (by rw [hk]; exact ⟨_, I', q⟩)
  · have hk : (k + (its.toArray.size : Int)).toNat = j := by
      rw [seqIndex_neg (by omega) h3] at h1
      rw [List.size_toArray, ← hl]
      exact Option.some.inj h1
    exact PySem.W.ki_setBack ho (by omega) (by rw [List.size_toArray, ← hl]; exact h3) (by omega) (by rw [hk]; exact ⟨_, I', q⟩)

/-! ### slices -/
theorem slice_bounds (lo hi : Option Int) (n : Nat) : (sliceBounds lo hi none n).1 = ((HT.sIx n 0 lo : Nat) : Int) ∧ (sliceBounds lo hi none n).2.1 = ((HT.sIx n n hi : Nat) : Int) ∧ (sliceBounds lo hi none n).2.2 = 1 := by
  refine ⟨?_, ?_, rfl⟩
  · cases lo with
    | none => simp [sliceBounds, HT.sIx]
    | some i =>
      simp only [sliceBounds, HT.sIx, Option.getD_none, show (1 : Int) > 0 by decide, if_true]
      by_cases h : i < 0
      · simp only [h, if_true] <;> omega
      · simp only [h, if_false] <;> omega
  · cases hi with
    | none => simp [sliceBounds, HT.sIx]
    | some i =>
      simp only [sliceBounds, HT.sIx, Option.getD_none, show (1 : Int) > 0 by decide, if_true]
      by_cases h : i < 0
      · simp only [h, if_true] <;> omega
      · simp only [h, if_false] <;> omega
theorem slicePick_cut (its : List Value) (lo hi : Option Int) : slicePick its.toArray lo hi none = ((its.drop (HT.sIx its.length 0 lo)).take (HT.sIx its.length its.length hi - HT.sIx its.length 0 lo)).toArray := by
  obtain ⟨h1, h2, h3⟩ := slice_bounds lo hi its.toArray.size
  unfold slicePick
  rw [h1, h2, h3]
  simp only [sliceRange_one, pick_run, List.size_toArray] <;> rfl
/-- xs[lo:hi] of a list: a new list -/
def rSlL (K : PySem.W.Frag) : V → Option Int → Option Int → Hp → VK → Prop := fun x lo hi H Q => ∃ a xs, x = .ref a ∧ SqL K H a xs ∧ ∀ p, H p = none → Q (.ref p) (upd H p (.lst (cutV xs lo hi)))
theorem sl_list : SlR X (rSlL X.K) := by
  intro pins s σ H x v vl vu lo hi sl Q I rx hs pl pu h
  obtain ⟨a, xs, rfl, hx, q⟩ := h
  cases rx
  obtain ⟨its, r, ht, hz⟩ := I.list hx
  have hlen := r.length
  refine ⟨"list", _, slot_list_getitem.lookup, ht.isList.typeIs, ?_⟩
  refine wpAny_getItem_list_slice ht.isList hs pl pu .none (by simp) ?_ (by rw [List.size_toArray] <;> omega)
  rw [slicePick_cut, ← hlen]
  refine ⟨.ref s.heap.objs.size, _, I.laid (t' := s.toks) (o := .lst (cutV xs lo hi)) (fun b ob q => Heap.get?_push_of_some _ q) (Nat.le_refl _) ?_, rfl, q _ (I.hok.fresh (Nat.le_refl _))⟩
  exact ⟨Nat.le_trans (cutV_length xs lo hi) hz, _, 0, (r.drop (HT.sIx xs.length 0 lo)).take (HT.sIx xs.length xs.length hi - HT.sIx xs.length 0 lo), Heap.get?_push_size _ rfl⟩

/-! ### in, not in: flat items -/
def flatV : V → Bool
  | .non => true
  | .bl _ => true
  | .int _ => true
  | .str _ => true
  | _ => false
/-- == of flat values -/
def eqV : V → V → Bool
  | .non, .non => true
  | .bl a, .bl b => a == b
  | .bl a, .int b => (if a then 1 else 0) == b
  | .int a, .bl b => a == (if b then 1 else 0)
  | .int a, .int b => a == b
  | .str a, .str b => a == b
  | _, _ => false
theorem eqAt_V {A : Around} {s : Shared} {y x : V} {u v : Value} (ry : RelV y u) (rx : RelV x v) (fy : flatV y = true) (fx : flatV x = true) : SeqAt.EqAt A s u v (eqV y x) := by
  cases y with
  | non =>
    cases ry
    cases x with
    | non => cases rx; exact SeqAt.EqAt.same _
    | bl b => cases rx; exact SeqAt.EqAt.none_bool b
    | int b => obtain ⟨t, rfl⟩ := rx; exact SeqAt.EqAt.none_int b t
    | str b => obtain ⟨t, rfl⟩ := rx; exact SeqAt.EqAt.none_str b t
    | _ => exact absurd (show false = true from fx) Bool.false_ne_true
  | bl a =>
    cases ry
    cases x with
    | non => cases rx; exact SeqAt.EqAt.bool_none a
    | bl b => cases rx; exact SeqAt.EqAt.bool_bool a b
    | int b => obtain ⟨t, rfl⟩ := rx; exact SeqAt.EqAt.bool_int a b t
    | str b => obtain ⟨t, rfl⟩ := rx; exact SeqAt.EqAt.bool_str a b t
    | _ => exact absurd (show false = true from fx) Bool.false_ne_true
  | int a =>
    obtain ⟨t', rfl⟩ := ry
    cases x with
    | non => cases rx; exact SeqAt.EqAt.int_none a t'
    | bl b => cases rx; exact SeqAt.EqAt.int_bool a t' b
    | int b => obtain ⟨t, rfl⟩ := rx; exact SeqAt.EqAt.int_int a t' b t
    | str b => obtain ⟨t, rfl⟩ := rx; exact SeqAt.EqAt.int_str a t' b t
    | _ => exact absurd (show false = true from fx) Bool.false_ne_true
  | str a =>
    obtain ⟨t', rfl⟩ := ry
    cases x with
    | non => cases rx; exact SeqAt.EqAt.str_none a t'
    | bl b => cases rx; exact SeqAt.EqAt.str_bool a t' b
    | int b => obtain ⟨t, rfl⟩ := rx; exact SeqAt.EqAt.str_int a t' b t
    | str b => obtain ⟨t, rfl⟩ := rx; exact SeqAt.EqAt.str_str a t' b t
    | _ => exact absurd (show false = true from fx) Bool.false_ne_true
  | _ => exact absurd (show false = true from fy) Bool.false_ne_true
/-- the items' answers, read off the values (a value's own answer does not lean on its token) -/
def eqU (x : V) (u : Value) : Bool := match u with
  | .none => eqV .non x
  | .bool b => eqV (.bl b) x
  | .int i _ => eqV (.int i) x
  | .str z _ => eqV (.str z) x
  | _ => false
theorem eqU_of {x y : V} {u : Value} (r : RelV y u) (f : flatV y = true) : eqU x u = eqV y x := by
  cases y with
  | non => cases r; rfl
  | bl b => cases r; rfl
  | int i => obtain ⟨t, rfl⟩ := r; rfl
  | str z => obtain ⟨t, rfl⟩ := r; rfl
  | _ => exact absurd (show false = true from f) Bool.false_ne_true
theorem any_eqU {x : V} : ∀ {xs : List V} {us : List Value}, Vals xs us → xs.all flatV = true → us.any (eqU x) = xs.any fun y => eqV y x
  | _, _, .nil, _ => rfl
  | y :: xs, u :: us, .cons r t, f => by
    rw [List.all_cons, Bool.and_eq_true] at f
    rw [List.any_cons, List.any_cons, eqU_of r f.1, any_eqU t f.2]
theorem mem_eqAt {A : Around} {s : Shared} {x : V} {v : Value} (rx : RelV x v) (fx : flatV x = true) : ∀ {xs : List V} {us : List Value}, Vals xs us → xs.all flatV = true → ∀ u ∈ us, SeqAt.EqAt A s u v (eqU x u)
  | _, _, .nil, _ => fun u hu => by cases hu
  | y :: xs, u :: us, .cons r t, f => fun u' hu => by
    rw [List.all_cons, Bool.and_eq_true] at f
    rcases List.mem_cons.mp hu with rfl | hu
    · rw [eqU_of r f.1]; exact eqAt_V r rx f.1 fx
    · exact mem_eqAt rx fx t f.2 u' hu
def inV (x : V) (xs : List V) : Bool := xs.any fun y => eqV y x
/-- x in a list or tuple of flat items -/
def rIn (K : PySem.W.Frag) (neg : Bool) : R2 := fun x y H Q => ∃ p xs, y = .ref p ∧ (SqL K H p xs ∨ SqT K H p xs) ∧ flatV x = true ∧ xs.all flatV = true ∧ Q (.bl (if neg then !inV x xs else inV x xs)) H
theorem op_in_seq : OpR X (compareOp .In) (rIn X.K false) := by
  intro pins s σ H x y v u Q I rx ry h
  obtain ⟨p, xs, rfl, hq, fx, fs, q⟩ := h
  cases ry
  rcases hq with hq | hq
  · obtain ⟨its, r, pl, hz⟩ := I.list hq
    refine SeqAt.in_listAt (eqU x) pl.isList (fun w hw => mem_eqAt rx fx r fs w (by simpa using hw)) ⟨.bl _, H, I, rfl, ?_⟩
    rw [show its.toArray.any (eqU x) = its.any (eqU x) by simp, any_eqU r fs]
    exact q
  · obtain ⟨its, r, pl, hz⟩ := I.tuple hq
    refine SeqAt.in_tupleAt (eqU x) pl (fun w hw => mem_eqAt rx fx r fs w (by simpa using hw)) ⟨.bl _, H, I, rfl, ?_⟩
    rw [show its.toArray.any (eqU x) = its.any (eqU x) by simp, any_eqU r fs]
    exact q
theorem op_notIn_seq : OpR X (compareOp .NotIn) (rIn X.K true) := by
  intro pins s σ H x y v u Q I rx ry h
  obtain ⟨p, xs, rfl, hq, fx, fs, q⟩ := h
  cases ry
  rcases hq with hq | hq
  · obtain ⟨its, r, pl, hz⟩ := I.list hq
    refine SeqAt.notIn_listAt (eqU x) pl.isList (fun w hw => mem_eqAt rx fx r fs w (by simpa using hw)) ⟨.bl _, H, I, rfl, ?_⟩
    rw [show its.toArray.any (eqU x) = its.any (eqU x) by simp, any_eqU r fs]
    exact q
  · obtain ⟨its, r, pl, hz⟩ := I.tuple hq
    refine SeqAt.notIn_tupleAt (eqU x) pl (fun w hw => mem_eqAt rx fx r fs w (by simpa using hw)) ⟨.bl _, H, I, rfl, ?_⟩
    rw [show its.toArray.any (eqU x) = its.any (eqU x) by simp, any_eqU r fs]
    exact q
theorem op_notIn_str : OpR X (compareOp .NotIn) (fun x y H Q => ∃ i j, x = .str i ∧ y = .str j ∧ Q (.bl (!(!(Builtin.Str.occurrences j i 0 j.length 1).isEmpty))) H) := by
  intro pins s σ H x y v u Q I rx ry h
  obtain ⟨i, j, rfl, rfl, q⟩ := h
  obtain ⟨t, rfl⟩ := rx
  obtain ⟨t', rfl⟩ := ry
  exact notIn_str ⟨.bl _, H, I, rfl, q⟩

/-! ### len, list(x), tuple(x) of any list or tuple that is read -/
theorem call_len_seq : CallR X (.builtin "len") (fun xs H Q => ∃ p ys, xs = [.ref p] ∧ (SqL X.K H p ys ∨ SqT X.K H p ys) ∧ Q (.int ys.length) H) := by
  intro pins s σ H xs us Q I r h
  obtain ⟨p, ys, rfl, hq, q⟩ := h
  obtain ⟨u, rfl, rx⟩ := vals1 r
  cases rx
  have hn := line63
  rcases hq with hq | hq
  · obtain ⟨its, r', pl, hz⟩ := I.list hq
    have hlen := r'.length
    exact Calls.call_len_list pl.isList (by simp only [List.size_toArray] <;> omega) ⟨.int ys.length, H, I.tok _, ⟨s.toks + 1, by rw [List.size_toArray, hlen]⟩, q⟩
  · obtain ⟨its, r', pl, hz⟩ := I.tuple hq
    have hlen := r'.length
    exact len_tuple pl (by simp only [List.size_toArray] <;> omega) ⟨.int ys.length, H, I.tok _, ⟨s.toks + 1, by rw [List.size_toArray, hlen]⟩, q⟩
theorem call_len_str : CallR X (.builtin "len") (fun xs H Q => ∃ z, xs = [.str z] ∧ z.length ≤ sizeLine ∧ Q (.int z.length) H) := by
  intro pins s σ H xs us Q I r h
  obtain ⟨z, rfl, hz, q⟩ := h
  obtain ⟨u, rfl, t, rfl⟩ := vals1 r
  have hn := line63
  exact len_str (by omega) ⟨.int z.length, H, I.tok _, ⟨_, rfl⟩, q⟩
theorem CallR.or {f : Value} {r r' : List V → Hp → VK → Prop} (h : CallR X f r) (h' : CallR X f r') : CallR X f (fun xs H Q => r xs H Q ∨ r' xs H Q) := by
  intro pins s σ H xs us Q I rs q
  rcases q with q | q
  · exact h pins s σ H xs us Q I rs q
  · exact h' pins s σ H xs us Q I rs q
theorem call_list_of : CallR X (.type "list") (fun xs H Q => ∃ p ys, xs = [.ref p] ∧ (SqL X.K H p ys ∨ SqT X.K H p ys) ∧ ∀ l, H l = none → Q (.ref l) (upd H l (.lst ys))) := by
  intro pins s σ H xs us Q I r h
  obtain ⟨p, ys, rfl, hq, q⟩ := h
  obtain ⟨u, rfl, rx⟩ := vals1 r
  cases rx
  have fin : ∀ (its : List Value), Vals ys its → ys.length ≤ sizeLine → ∀ (h' : Heap) (c' : Nat), (∀ b o', s.heap.get? b = some o' → h'.get? b = some o') →
      h'.get? s.heap.objs.size = some { cls := .type "list", dict := none, data := .seq its.toArray c', slots := #[] } → EP X pins σ Q (.ref s.heap.objs.size) { s with heap := h' } := fun its r' hz h' c' kp e =>
    ⟨.ref s.heap.objs.size, _, I.laid (t' := s.toks) kp (Nat.le_refl _) (show ObjOk X.prog X.w _ h' _ (.lst ys) from ⟨hz, its, c', r', e⟩), rfl, q _ (I.hok.fresh (Nat.le_refl _))⟩
  rcases hq with hq | hq
  · obtain ⟨its, r', pl, hz⟩ := I.list hq
    have hlen := r'.length
    obtain ⟨o, ho, hc, n, hd⟩ := pl.isList
    exact call_list_seq p (.inl rfl) ho hc hd (fun h' c' kp e => fin its r' hz h' c' kp e) (by simp only [List.size_toArray] <;> omega)
  · obtain ⟨its, r', pl, hz⟩ := I.tuple hq
    have hlen := r'.length
    obtain ⟨o, ho, hc, n, hd⟩ := pl
    exact call_list_seq p (.inr rfl) ho hc hd (fun h' c' kp e => fin its r' hz h' c' kp e) (by simp only [List.size_toArray] <;> omega)
theorem call_tuple_of : CallR X (.type "tuple") (fun xs H Q => ∃ p ys, xs = [.ref p] ∧ ((SqL X.K H p ys ∧ ∀ l, H l = none → Q (.ref l) (upd H l (.tup ys))) ∨ (SqT X.K H p ys ∧ Q (.ref p) H))) := by
  intro pins s σ H xs us Q I r h
  obtain ⟨p, ys, rfl, h⟩ := h
  obtain ⟨u, rfl, rx⟩ := vals1 r
  cases rx
  rcases h with ⟨hq, q⟩ | ⟨hq, q⟩
  · obtain ⟨its, r', pl, hz⟩ := I.list hq
    have hlen := r'.length
    refine call_tuple_list pl.isList (fun h' kp => ?_) (by simp only [List.size_toArray] <;> omega)
    have I1 : Inv X pins σ H { s with heap := h' } := I.kept (t' := s.toks) kp
    have I2 : Inv X pins σ (upd H h'.objs.size (.tup ys)) { s with heap := h'.push { cls := .type "tuple", data := .seq its.toArray } } :=
      I1.laid (t' := s.toks) (fun b o e => Heap.get?_push_of_some _ e) (Nat.le_refl _) (show ObjOk X.prog X.w _ _ _ (.tup ys) from ⟨hz, its, r', IsTup.new _ _⟩)
    exact ⟨.ref h'.objs.size, _, I2, rfl, q _ (I1.hok.fresh (Nat.le_refl _))⟩
  · obtain ⟨its, r', pl, hz⟩ := I.tuple hq
    exact call_tuple_same pl ⟨.ref p, H, I, rfl, q⟩

/-! ### the call of a builtin's method: o.m(..) -/
/-- the value is of that builtin type -/
def tyV (K : PySem.W.Frag) (T : String) (x : V) (H : Hp) : Prop := match x with
  | .str _ => T = "str"
  | .int _ => T = "int"
  | .ref p => (T = "list" ∧ ∃ xs, SqL K H p xs) ∨ (T = "tuple" ∧ ∃ o, K.lookup p = some o ∧ o.cls = .type "tuple" ∧ o.dict = none) ∨
      (T = "dict" ∧ ((∃ kvs, H p = some (.dK kvs)) ∨ ∃ kvs, H p = some (.dT kvs))) ∨ (T = "set" ∧ ∃ S n, H p = some (.set S n))
  | _ => False
theorem tyV_is {pins : List (Addr × Obj)} {σ : St} {H : Hp} {s : Shared} {T : String} {x : V} {v : Value} (I : Inv X pins σ H s) (r : RelV x v) (ty : tyV X.K T x H) :
    s.TypeIs v T ∧ ∀ a, v = .ref a → ∃ ob, s.heap.get? a = some ob ∧ ob.dict = none := by
  cases x with
  | str z =>
    obtain ⟨t, rfl⟩ := r
    cases (show T = "str" from ty)
    exact ⟨typeIs_str s z t, fun _ e => nomatch e⟩
  | int i =>
    obtain ⟨t, rfl⟩ := r
    cases (show T = "int" from ty)
    exact ⟨typeIs_int s i t, fun _ e => nomatch e⟩
  | ref p =>
    cases r
    rcases ty with ⟨rfl, xs, hq⟩ | ⟨rfl, o, hk, hc, hd⟩ | ⟨rfl, hk⟩ | ⟨rfl, S, n, hk⟩
    · obtain ⟨its, _, pl, _⟩ := I.list hq
      refine ⟨pl.isList.typeIs, fun a e => ?_⟩
      cases e
      obtain ⟨o, n, e, c, hd, _⟩ := pl
      exact ⟨o, e, hd⟩
    · refine ⟨⟨o, I.kIn p o hk, hc⟩, fun a e => ?_⟩
      cases e
      exact ⟨o, I.kIn _ o hk, hd⟩
    · have z : ∃ o, s.heap.get? p = some o ∧ o.ExactDict := by
        rcases hk with ⟨kvs, hk⟩ | ⟨kvs, hk⟩
        · obtain ⟨_, _, _, _, o, _, _, e, ex, _⟩ := I.hok p _ hk
          exact ⟨o, e, ex⟩
        · obtain ⟨_, _, _, _, o, _, _, e, ex, _⟩ := I.hok p _ hk
          exact ⟨o, e, ex⟩
      obtain ⟨o, e, ex⟩ := z
      refine ⟨⟨o, e, ex.1⟩, fun a e2 => ?_⟩
      cases e2
      exact ⟨o, e, ex.2.1⟩
    · obtain ⟨o, _, _, _, e, ex, _⟩ := I.hok p _ hk
      refine ⟨⟨o, e, ex.1⟩, fun a e2 => ?_⟩
      cases e2
      exact ⟨o, e, ex.2.1⟩
  | _ => exact False.elim ty
def tBM0 (K : PySem.W.Frag) (T : String) (r : V → List V → Hp → VK → Prop) (to : TE) : TE := fun σ H Q => to σ H fun x H1 => tyV K T x H1 ∧ r x [] H1 Q
def tBM (K : PySem.W.Frag) (T : String) (r : V → List V → Hp → VK → Prop) (to : TE) (t : TA) : TE := fun σ H Q => to σ H fun x H1 => tyV K T x H1 ∧ t σ H1 fun xs H2 => r x xs H2 Q
variable {o e : Expr} {es : List Expr} {to : TE} {t : TA} {name : Str} {apos cpos : Pos} {T id : String} {r : V → List V → Hp → VK → Prop}
theorem pe_bm0 (pa : PlainAttrs T) (slot : Slot T name id) (hty : typeOf (.builtin id) = pure (.type "method_descriptor")) (hm : MtR X id r) (ho : PE X o to)
    (hbase : attributeBase o name X.env (eval o X.env) = eval o X.env := by rfl) (hline : (apos.endLine == cpos.line) = true := by rfl) : PE X (.Call (.Attribute o name apos) [] [] cpos) (tBM0 X.K T r to) := by
  intro pins s σ H Q I h
  refine wpAny_Call_method0_late hbase hline (thn (ho pins s σ H _ I h) fun v s1 ⟨x, H1, I1, r1, ty, q1⟩ => ?_)
  obtain ⟨h1, h2⟩ := tyV_is I1 r1 ty
  exact ⟨T, id, pa, slot, hty, h1, h2, Calls.callWith_builtin rfl (PySem.evalArgs_none (hm pins s1 σ H1 x [] v [] Q I1 r1 .nil q1))⟩
theorem pe_bm (pa : PlainAttrs T) (slot : Slot T name id) (hty : typeOf (.builtin id) = pure (.type "method_descriptor")) (hm : MtR X id r) (ho : PE X o to) (ha : PA X (e :: es) t)
    (hbase : attributeBase o name X.env (eval o X.env) = eval o X.env := by rfl)
    (hfew : ((backTo cpos (starEach (e :: es) X.env)).all (fun x => !x.1) && (backToKw cpos (keywordEach [] X.env)).all (fun x => x.1.isSome)
      && decide ((e :: es).length + ([] : List Keyword).length + (if ([] : List Keyword).isEmpty then 0 else 1) < 30)) = true := by rfl)
    (hline : (apos.endLine == cpos.line) = true := by rfl) (hs : starEach (e :: es) X.env = (false, eval e X.env) :: starEach es X.env := by rfl) (hplain : (backTo cpos (starEach es X.env)).any (·.1) = false := by rfl) :
    PE X (.Call (.Attribute o name apos) (e :: es) [] cpos) (tBM X.K T r to t) := by
  intro pins s σ H Q I h
  refine wpAny_Call_method_late hbase hfew hline rfl (thn (ho pins s σ H _ I h) fun v s1 ⟨x, H1, I1, r1, ty, q1⟩ => ?_)
  obtain ⟨h1, h2⟩ := tyV_is I1 r1 ty
  refine ⟨T, id, pa, slot, hty, h1, h2, ?_⟩
  have hA := ha cpos pins s1 σ H1 _ I1 q1
  rw [hs] at hA ⊢
  refine Calls.callWith_builtin (by show (false || (backTo cpos (starEach es X.env)).any (·.1)) = false; rw [hplain] <;> rfl) (Calls.evalArgs_plain ?_)
  exact thn hA fun us s2 ⟨vs, H2, I2, r2, q2⟩ => hm pins s2 σ H2 x vs v us Q I2 r1 r2 q2
/- xs.append(e), list.index on a module's tuple .. are MtR facts of 06m -/
end
end L2

namespace L2
open PySem PySem.Spec PyProof.Rows

def MtM (X : Cx) (id : String) (r : V → List V → Hp → VK → Prop) : Prop :=
  ∀ (pins : List (Addr × Obj)) (s : Shared) (σ : St) (H : Hp) (x : V) (xs : List V) (v : Value) (us : List Value) (Q : VK), Inv X pins σ H s → RelV x v → Vals xs us → r x xs H Q →
    wpAny (model X.prog X.w) X.A (call (.builtin id) (v :: us)) (EP X pins σ Q) X.xe s

/-! ### lists of values -/
theorem Vals.one : ∀ {x : V} {us : List Value}, Vals [x] us → ∃ u, us = [u] ∧ RelV x u
  | _, _, .cons r .nil => ⟨_, rfl, r⟩
theorem Vals.two : ∀ {x y : V} {us : List Value}, Vals [x, y] us → ∃ u v, us = [u, v] ∧ RelV x u ∧ RelV y v
  | _, _, _, .cons r (.cons q .nil) => ⟨_, _, rfl, r, q⟩
theorem Vals.zero : ∀ {us : List Value}, Vals [] us → us = []
  | _, .nil => rfl
theorem Vals.dropLast {xs : List V} {us : List Value} (h : Vals xs us) : Vals xs.dropLast us.dropLast := by
  induction h with
  | nil => exact .nil
  | cons r t ih =>
    cases t with
    | nil => exact .nil
    | cons q t' => exact .cons r ih
theorem Vals.eraseIdx : ∀ {xs : List V} {us : List Value} (i : Nat), Vals xs us → Vals (xs.eraseIdx i) (us.eraseIdx i)
  | _, _, _, .nil => .nil
  | _, _, 0, .cons _ t => t
  | _, _, i + 1, .cons r t => .cons r (Vals.eraseIdx i t)
theorem Vals.reverse {xs : List V} {us : List Value} (h : Vals xs us) : Vals xs.reverse us.reverse := by
  induction h with
  | nil => exact .nil
  | cons r t ih => rw [List.reverse_cons, List.reverse_cons]; exact Vals.append ih (.cons r .nil)
theorem Vals.rep {xs : List V} {us : List Value} (h : Vals xs us) : ∀ k : Nat, Vals (List.replicate k xs).flatten (List.replicate k us).flatten
  | 0 => .nil
  | k + 1 => by
    rw [List.replicate_succ, List.replicate_succ, List.flatten_cons, List.flatten_cons]
    exact Vals.append h (Vals.rep h k)
theorem erase_last {α : Type} (l : List α) : l.eraseIdx (l.length - 1) = l.dropLast := by
  induction l with
  | nil => rfl
  | cons a r ih =>
    cases r with
    | nil => rfl
    | cons b r =>
      have e : (a :: b :: r).length - 1 = ((b :: r).length - 1) + 1 := by
        have h1 : (a :: b :: r).length = r.length + 2 := rfl
        have h2 : (b :: r).length = r.length + 1 := rfl
        omega
      rw [e, List.eraseIdx_cons_succ, ih]
      all_goals rfl
theorem len_erase {α : Type} : ∀ (l : List α) (i : Nat), (l.eraseIdx i).length ≤ l.length
  | [], _ => Nat.le_refl _
  | _ :: _, 0 => Nat.le_succ _
  | _ :: r, i + 1 => Nat.succ_le_succ (len_erase r i)
theorem foldl_rep (its : List Value) : ∀ (k : Nat) (acc : List Value),
    List.foldl (fun x1 x2 => x1 ++ x2) acc.toArray (List.replicate k its.toArray) = (acc ++ (List.replicate k its).flatten).toArray
  | 0, acc => by simp
  | k + 1, acc => by
    have e : acc.toArray ++ its.toArray = (acc ++ its).toArray := by simp
    have e2 : (acc ++ its) ++ (List.replicate k its).flatten = acc ++ (List.replicate (k + 1) its).flatten := by
      rw [List.replicate_succ, List.flatten_cons, List.append_assoc]
    rw [← e2, ← foldl_rep its k (acc ++ its), ← e, List.replicate_succ, List.foldl_cons]

section
variable {X : Cx} {pins : List (Addr × Obj)} {σ : St} {H : Hp} {s : Shared} {l b : Addr} {xs ys zs : List V}

/-! ### the two steps: a tracked list is rewritten, a new list is laid -/
theorem Inv.lset {its its' : List Value} {n : Nat} {f : Array Value → Array Value} {t' : Nat} (I : Inv X pins σ H s) (hH : H l = some (.lst xs))
    (e : s.heap.get? l = some { cls := .type "list", data := .seq its.toArray n }) (hf : f its.toArray = its'.toArray) (hv : Vals ys its') (hz : ys.length ≤ sizeLine) :
    Inv X pins σ (upd H l (.lst ys)) { s with heap := s.heap.update l (Obj.mapSeq f), toks := t' } := by
  have q := PySem.IsL.update e f
  rw [hf] at q
  refine I.write (x := l) (e := l) (by rw [hH]; exact trivial) (.inl rfl) (fun b' u hb hu => (Heap.get?_update_other s.heap (Obj.mapSeq f) (Ne.symm hb)).trans hu) ⟨_, q⟩ ?_
  exact ⟨hz, its', _, hv, q⟩
theorem Inv.lnew {its : List Value} {t' : Nat} (I : Inv X pins σ H s) (hv : Vals ys its) (hz : ys.length ≤ sizeLine) :
    Inv X pins σ (upd H s.heap.objs.size (.lst ys)) { s with heap := s.heap.push { cls := .type "list", data := .seq its.toArray }, toks := t' } :=
  I.laid (fun _ _ q => Heap.get?_push_of_some _ q) (Nat.le_refl _) ⟨hz, its, 0, hv, Heap.get?_push_size _ rfl⟩
theorem Inv.fresh (I : Inv X pins σ H s) : H s.heap.objs.size = none := I.hok.fresh (Nat.le_refl _)
theorem Inv.lstM (I : Inv X pins σ H s) (hH : H l = some (.lst xs)) : xs.length ≤ sizeLine ∧ ∃ (its : List Value) (n : Nat), Vals xs its ∧ xs.length = its.length ∧ s.heap.get? l = some { cls := .type "list", data := .seq its.toArray n } := by
  obtain ⟨z, its, n, r, e⟩ := I.hok l _ hH
  exact ⟨z, its, n, r, r.length, e⟩

theorem notLongL {n : Nat} (h : n ≤ sizeLine) : Builtin.List.listTooLong n = false := by
  unfold Builtin.List.listTooLong
  exact decide_eq_false (by omega)
end

section
variable {X : Cx}

/-! ### methods -/
def rAppend : V → List V → Hp → VK → Prop := fun x vs H Q => ∃ l xs y, x = .ref l ∧ vs = [y] ∧ H l = some (.lst xs) ∧ xs.length < sizeLine ∧ Q .non (upd H l (.lst (xs ++ [y])))
theorem mt_append : MtM X "list.append" rAppend := by
  intro pins s σ H x vs v us Q I rx rv h
  obtain ⟨l, xs, y, rfl, rfl, hH, hz, q⟩ := h
  cases rx
  obtain ⟨u, rfl, ru⟩ := rv.one
  obtain ⟨z, its, n, r, hl, e⟩ := I.lstM hH
  refine call_meets F.slot_list_append ⟨_, e, rfl⟩ F.entry_list_append (F.args_list_append_2 _ _) (PySem.list_append l its.toArray n u (by rw [List.size_toArray]; omega)) ⟨e, ?_⟩
  refine ⟨.non, _, I.lset (its' := its ++ [u]) hH e (by simp) (r.append (.cons ru .nil)) ?_, rfl, q⟩
  rw [List.length_append, List.length_singleton]
  omega

def rExtend : V → List V → Hp → VK → Prop := fun x vs H Q => ∃ l b xs zs, x = .ref l ∧ vs = [.ref b] ∧ H l = some (.lst xs) ∧ H b = some (.lst zs) ∧ xs.length + zs.length ≤ sizeLine ∧ Q .non (upd H l (.lst (xs ++ zs)))
theorem mt_extend : MtM X "list.extend" rExtend := by
  intro pins s σ H x vs v us Q I rx rv h
  obtain ⟨l, b, xs, zs, rfl, rfl, hH, hB, hz, q⟩ := h
  cases rx
  obtain ⟨u, rfl, ru⟩ := rv.one
  cases ru
  obtain ⟨z, its, n, r, hl, e⟩ := I.lstM hH
  obtain ⟨z2, its2, n2, r2, hl2, e2⟩ := I.lstM hB
  have hsz : its.toArray.size + its2.toArray.size ≤ sizeLine := by rw [List.size_toArray, List.size_toArray]; omega
  have hlong : ¬ (!its.toArray.isEmpty && Builtin.List.listTooLong (its.toArray.size + its2.toArray.size)) = true := by
    rw [notLongL hsz, Bool.and_false]
    exact Bool.false_ne_true
  refine call_meets F.slot_list_extend ⟨_, e, rfl⟩ F.entry_list_extend (F.args_list_extend_2 _ _)
    (AutoSeq1.list_extend_list_list_0 l its.toArray n b its2.toArray n2 hlong (by rw [List.size_toArray]; omega) (by omega)) ⟨e, e2, ?_⟩
  refine ⟨.non, _, I.lset (its' := its ++ its2) hH e (by simp) (r.append r2) ?_, rfl, q⟩
  rw [List.length_append]
  omega

def rPop : V → List V → Hp → VK → Prop := fun x vs H Q => ∃ l xs y, x = .ref l ∧ vs = [] ∧ H l = some (.lst xs) ∧ xs[xs.length - 1]? = some y ∧ Q y (upd H l (.lst xs.dropLast))
theorem mt_pop : MtM X "list.pop" rPop := by
  intro pins s σ H x vs v us Q I rx rv h
  obtain ⟨l, xs, y, rfl, rfl, hH, hy, q⟩ := h
  cases rx
  have hus := rv.zero
  subst hus
  obtain ⟨z, its, n, r, hl, e⟩ := I.lstM hH
  obtain ⟨u, hu, ru⟩ := r.get hy
  have hy' : its.toArray[its.toArray.size - 1]? = some u := by
    show its.toArray[its.length - 1]? = some u
    rw [← Array.getElem?_toList, ← hl]
    exact hu
  refine call_meets F.slot_list_pop ⟨_, e, rfl⟩ F.entry_list_pop (F.args_list_pop_1 _) (MeetsSeq.list_pop_last l its.toArray n u hy' (by rw [List.size_toArray]; omega)) ⟨e, ?_⟩
  refine ⟨y, _, I.lset (its' := its.dropLast) hH e ?_ r.dropLast ?_, ru, q⟩
  · show its.toArray.eraseIdxIfInBounds (its.toArray.size - 1) = its.dropLast.toArray
    rw [List.size_toArray, List.eraseIdxIfInBounds_toArray, erase_last]
  · rw [List.length_dropLast]
    omega

def rPopAt : V → List V → Hp → VK → Prop := fun x vs H Q => ∃ l xs i k y, x = .ref l ∧ vs = [.int i] ∧ H l = some (.lst xs) ∧ -(2 ^ 63) ≤ i ∧ i < 2 ^ 63 ∧ seqIndex? i xs.length = some k ∧ xs[k]? = some y ∧ Q y (upd H l (.lst (xs.eraseIdx k)))
theorem mt_popAt : MtM X "list.pop" rPopAt := by
  intro pins s σ H x vs v us Q I rx rv h
  obtain ⟨l, xs, i, k, y, rfl, rfl, hH, h1, h2, hk, hy, q⟩ := h
  cases rx
  obtain ⟨u, rfl, ru⟩ := rv.one
  obtain ⟨t, rfl⟩ := ru
  obtain ⟨z, its, n, r, hl, e⟩ := I.lstM hH
  obtain ⟨w, hw, rw'⟩ := r.get hy
  refine call_meets F.slot_list_pop ⟨_, e, rfl⟩ F.entry_list_pop (F.args_list_pop_2 _ _)
    (MeetsSeq.list_pop_at l its.toArray n i t k w (fitsIndex_both h1 h2) (by rw [List.size_toArray, ← hl]; exact hk) (by rw [← Array.getElem?_toList]; exact hw) (by rw [List.size_toArray]; omega)) ⟨e, ?_⟩
  refine ⟨y, _, I.lset (its' := its.eraseIdx k) hH e ?_ (r.eraseIdx k) ?_, rw', q⟩
  · show its.toArray.eraseIdxIfInBounds k = (its.eraseIdx k).toArray
    rw [List.eraseIdxIfInBounds_toArray]
  · have := len_erase xs k
    omega

def rReverse : V → List V → Hp → VK → Prop := fun x vs H Q => ∃ l xs, x = .ref l ∧ vs = [] ∧ H l = some (.lst xs) ∧ Q .non (upd H l (.lst xs.reverse))
theorem mt_reverse : MtM X "list.reverse" rReverse := by
  intro pins s σ H x vs v us Q I rx rv h
  obtain ⟨l, xs, rfl, rfl, hH, q⟩ := h
  cases rx
  have hus := rv.zero
  subst hus
  obtain ⟨z, its, n, r, hl, e⟩ := I.lstM hH
  refine call_meets F.slot_list_reverse ⟨_, e, rfl⟩ F.entry_list_reverse (F.args_list_reverse_1 _) (AutoSeq1.list_reverse_list_0 l its.toArray n (by rw [List.size_toArray]; omega)) ⟨e, ?_⟩
  refine ⟨.non, _, I.lset (its' := its.reverse) hH e (by simp) r.reverse ?_, rfl, q⟩
  rw [List.length_reverse]
  omega

def rClear : V → List V → Hp → VK → Prop := fun x vs H Q => ∃ l xs, x = .ref l ∧ vs = [] ∧ H l = some (.lst xs) ∧ Q .non (upd H l (.lst []))
theorem mt_clear : MtM X "list.clear" rClear := by
  intro pins s σ H x vs v us Q I rx rv h
  obtain ⟨l, xs, rfl, rfl, hH, q⟩ := h
  cases rx
  have hus := rv.zero
  subst hus
  obtain ⟨z, its, n, r, hl, e⟩ := I.lstM hH
  refine call_meets F.slot_list_clear ⟨_, e, rfl⟩ F.entry_list_clear (F.args_list_clear_1 _) (AutoSeq1.list_clear_list_0 l its.toArray n (by rw [List.size_toArray]; omega)) ⟨e, ?_⟩
  exact ⟨.non, _, I.lset (its' := []) (ys := []) hH e rfl .nil (Nat.zero_le _), rfl, q⟩

/-! ### list + list, list += list, list * int -/
def rCat : R2 := fun x y H Q => ∃ l b xs zs, x = .ref l ∧ y = .ref b ∧ H l = some (.lst xs) ∧ H b = some (.lst zs) ∧ xs.length + zs.length ≤ sizeLine ∧ ∀ p, H p = none → Q (.ref p) (upd H p (.lst (xs ++ zs)))
theorem op_cat : OpR X (binaryOp .Add) rCat := by
  intro pins s σ H x y v u Q I rx ry h
  obtain ⟨l, b, xs, zs, rfl, rfl, hH, hB, hz, q⟩ := h
  cases rx
  cases ry
  obtain ⟨z, its, n, r, hl, e⟩ := I.lstM hH
  obtain ⟨z2, its2, n2, r2, hl2, e2⟩ := I.lstM hB
  refine PySem.P.add_list e e2 ?_ (by rw [List.size_toArray, List.size_toArray]; omega)
  have ea : its.toArray ++ its2.toArray = (its ++ its2).toArray := by simp
  rw [ea]
  exact ⟨.ref _, _, I.lnew (t' := s.toks) (r.append r2) (by rw [List.length_append]; omega), rfl, q _ I.fresh⟩
/-- a list times an int (a negative one is nothing) -/
def rRep : R2 := fun x y H Q => ∃ l k xs, x = .ref l ∧ y = .int k ∧ H l = some (.lst xs) ∧ -(2 ^ 63) ≤ k ∧ k < 2 ^ 63 ∧ xs.length * k.toNat ≤ sizeLine ∧
  ∀ p, H p = none → Q (.ref p) (upd H p (.lst (List.replicate k.toNat xs).flatten))
theorem len_rep {α : Type} (xs : List α) (k : Nat) : (List.replicate k xs).flatten.length = k * xs.length := by
  induction k with
  | zero => simp
  | succ k ih => rw [List.replicate_succ, List.flatten_cons, List.length_append, ih, Nat.succ_mul, Nat.add_comm]
theorem op_rep : OpR X (binaryOp .Mult) rRep := by
  intro pins s σ H x y v u Q I rx ry h
  obtain ⟨l, k, xs, rfl, rfl, hH, h1, h2, hz, q⟩ := h
  cases rx
  obtain ⟨t, rfl⟩ := ry
  obtain ⟨z, its, n, r, hl, e⟩ := I.lstM hH
  have hlen : its.toArray.size * k.toNat ≤ sizeLine := by rw [List.size_toArray, ← hl]; exact hz
  have hcap : ¬ its.toArray.size * k.toNat > (2 ^ 63 - 1) / 8 := by
    have : (sizeLine : Nat) ≤ (2 ^ 63 - 1) / 8 := by decide
    omega
  have hfit : ¬ (!Builtin.List.listFitsIndex k) = true := by
    rw [fitsIndex_both h1 h2]
    exact Bool.false_ne_true
  have hlong : ¬ Builtin.List.listTooLong (its.toArray.size * k.toNat) = true := by
    rw [notLongL hlen]
    exact Bool.false_ne_true
  have hnew : List.foldl (fun x1 x2 => x1 ++ x2) #[] (List.replicate (if its.toArray.isEmpty = true then 0 else k.toNat) its.toArray) = (List.replicate k.toNat its).flatten.toArray := by
    have f0 : ∀ m : Nat, List.foldl (fun x1 x2 => x1 ++ x2) #[] (List.replicate m its.toArray) = (List.replicate m its).flatten.toArray := fun m => by
      have := foldl_rep its m []
      rw [List.nil_append] at this
      exact this
    rw [f0]
    cases its with
    | nil => simp
    | cons a r' => rw [if_neg (by simp)]
  refine wpAny_binaryOp_repeat_ref (T := "list") (U := "int") (by decide) ⟨_, e, rfl⟩ (fun s' => typeIs_int s' k t) noFill_list_mul F.fills_int_mul F.slot_int_rmul repeat_list F.slot_int_index.lookup
    (call_meets F.slot_int_rmul (typeIs_int s k t) F.entry_int_rmul (F.args_int_rmul_2 _ _) (int___rmul___int_list k t l its.toArray n)
      ⟨e, rfl, ⟨_, e, rfl⟩, call_meets F.slot_list_mul ⟨_, e, rfl⟩ F.entry_list_mul (F.args_list_mul_2 _ _) (AutoListH.list___mul___list_int_3 l its.toArray n k t hfit hcap hlong) ⟨e, ?_⟩⟩)
  rw [hnew]
  exact ⟨.ref _, _, I.lnew (t' := s.toks) (r.rep k.toNat) (by rw [len_rep, Nat.mul_comm]; exact hz), rfl, q _ I.fresh⟩

/-! ### del xs[i] -/
theorem del_list {pins : List (Addr × Obj)} {s : Shared} {σ : St} {H : Hp} {l : Addr} {xs : List V} {i : Int} {t : Tok} {k : Nat} {Q : Unit → Shared → Prop} (I : Inv X pins σ H s) (hH : H l = some (.lst xs))
    (h1 : -(2 ^ 63) ≤ i) (h2 : i < 2 ^ 63) (hk : seqIndex? i xs.length = some k) (h : ∀ s', Inv X pins σ (upd H l (.lst (xs.eraseIdx k))) s' → Q () s') :
    wpAny (model X.prog X.w) X.A (delItem (.ref l) (.int i t)) Q X.xe s := by
  obtain ⟨z, its, n, r, hl, e⟩ := I.lstM hH
  refine PySem.P.delItem_list (k := k) e (fitsIndex_both h1 h2) (by rw [List.size_toArray, ← hl]; exact hk) (h _ ?_) (by rw [List.size_toArray]; omega)
  refine I.lset (its' := its.eraseIdx k) (t' := s.toks) hH e ?_ (r.eraseIdx k) ?_
  · show its.toArray.eraseIdxIfInBounds k = (its.eraseIdx k).toArray
    rw [List.eraseIdxIfInBounds_toArray]
  · have := len_erase xs k
    omega
end

/-! ### xs[a:b] = ys -/
section
variable {prog : Program} {w : World} {A : Around} {E : Value → Shared → Prop} {s : Shared}
theorem splice_eq (its its2 : List Value) (a c : Nat) : its.toArray.extract 0 a ++ its2.toArray ++ its.toArray.extract c its.toArray.size = (its.take a ++ its2 ++ its.drop c).toArray := by
  apply Array.toList_inj.mp
  first
    | (simp
       exact List.take_of_length_le (by simp))
    | simp [List.take_of_length_le]
    | simp
theorem bounds_run {a c n : Nat} (hac : a ≤ c) (hc : c ≤ n) : sliceBounds (some (a : Int)) (some (c : Int)) none n = ((a : Int), (c : Int), 1) := by
  simp only [sliceBounds, Option.getD_none]
  have h1 : ¬ ((a : Int) < 0) := by omega
  have h2 : ¬ ((c : Int) < 0) := by omega
  simp only [h1, h2, if_false, show (1 : Int) > 0 by decide, if_true]
  congr 1
  · omega
  · congr 1; omega
set_option maxRecDepth 100000 in
/-- list.__setitem__ with a slice of step one and another list -/
theorem setItem_slice {l b sl : Addr} {items new : Array Value} {n n2 : Nat} {vl vu : Value} {a c : Nat} {Q : Unit → Shared → Prop}
    (e : s.heap.get? l = some { cls := .type "list", data := .seq items n }) (e2 : s.heap.get? b = some { cls := .type "list", data := .seq new n2 }) (hne : l ≠ b)
    (hs : s.heap.IsSliceOf sl vl vu .none) (pl : IsPart vl (some (a : Int))) (pu : IsPart vu (some (c : Int))) (hac : a ≤ c) (hc : c ≤ items.size)
    (hsz : items.size + new.size ≤ sizeLine) (h : Q () { s with heap := s.heap.update l (Obj.mapSeq fun xs => xs.extract 0 a ++ new ++ xs.extract c xs.size) }) :
    wpAny (model prog w) A (setItem (.ref l) (.ref sl) (.ref b)) Q E s := by
  have hl : s.heap.IsList l items := PySem.IsL.isList e
  have hb : s.heap.IsList b new := PySem.IsL.isList e2
  obtain ⟨os, hos, hcs, hds⟩ := id hs
  have hTs : s.TypeIs (.ref sl) "slice" := ⟨os, hos, hcs⟩
  have hstep : ¬ ((rawPart none == rawInt 0) = true) := Bool.false_ne_true
  have hsame : Builtin.List.listSameRef (.ref l) (.ref b) = false := by
    unfold Builtin.List.listSameRef
    exact beq_eq_false_iff_ne.mpr hne
  have hmax : (max (a : Int) (c : Int)).toNat = c := by omega
  have hz' : ((fun xs : Array Value => xs.extract 0 a ++ new ++ xs.extract c xs.size) items).size ≤ sizeLine + 1 := by
    simp only [Array.size_append, Array.size_extract]
    omega
  unfold setItem
  try with_reducible refine wpAny_holding ?_
  first | refine wpAny_bind (wpAny_pure ?_) | skip
  refine wpAny_bind (wpAny_sequenceKey hl.typeIs (by decide) ?_)
  refine wpAny_bind (wpAny_callSpecial?_slot (name := Str.ofString "__setitem__") hl.typeIs slot_list_setitem
    (wpAny_call_entry slot_list_setitem hl.typeIs entry_list_setitem ?_ (args_list_setitem _ _ _)))
  show wpAny _ _ (Builtin.List.listSubscript? (.ref sl) >>= _) _ _ s
  refine wpAny_bind ?_
  unfold Builtin.List.listSubscript?
  refine wpAny_bind (wpAny_specialOf hTs slice_no_index ?_)
  simp only [Option.isNone_none, if_true]
  refine wpAny_pure ?_
  show wpAny _ _ (typeOf (.ref sl) >>= _) _ _ s
  refine wpAny_bind (wpAny_typeOf hTs ?_)
  first
    | rw [if_neg (by decide)]
    | refine PySem.W.KFB.if_not (by decide) ?_
  rw [listSliceParts_eq]
  refine wpAny_bind (wpAny_bind (wpAny_field hos hds (x := .none) rfl (wpAny_bind (wpAny_listPart .none ?_))))
  rw [if_neg hstep]
  refine wpAny_bind (wpAny_field hos hds (x := vl) rfl (wpAny_bind (wpAny_listPart pl ?_)))
  refine wpAny_bind (wpAny_field hos hds (x := vu) rfl (wpAny_bind (wpAny_listPart pu (wpAny_pure ?_))))
  first
    | simp only [hsame, Bool.false_eq_true, if_false]
    | refine PySem.W.KFB.if_not hsame ?_
    | (dsimp only
       rw [if_neg (by rw [hsame]; exact Bool.false_ne_true)])
  refine wpAny_bind (m := Builtin.List.listAllItems (.ref b) "must assign iterable to extended slice") ?_
  unfold Builtin.List.listAllItems
  refine wpAny_bind (wpAny_typeOf hb.typeIs ?_)
  first
    | refine PySem.W.KFB.if_so (by decide) ?_
    | rw [if_pos (by decide)]
    | simp only [beq_self_eq_true, Bool.true_or, if_true]
  unfold Builtin.List.listItems
  refine wpAny_bind (wpAny_seqItems e2 rfl (wpAny_pure ?_))
  refine wpAny_bind (wpAny_bind (wpAny_seqItems e rfl (wpAny_pure ?_)))
  refine wpAny_bind (wpAny_of_eq ((sliceIndices_raw (some (a : Int)) (some (c : Int)) none items.size (by simp)).trans (congrArg (pure : Int × Int × Int → Sem (Int × Int × Int)) (bounds_run hac hc))) ?_)
  show wpAny _ _ (if ((1 : Int) == 1) = true then _ else _) _ _ s
  rw [if_pos (by decide)]
  refine wpAny_bind (wpAny_rule ?_)
  first
    | simp only [notLongL hsz, Bool.false_eq_true, if_false]
    | refine PySem.W.KFB.if_not (notLongL hsz) ?_
  first | refine wpAny_bind (wpAny_pure ?_) | skip
  show wpAny _ _ (updateSeq l (fun xs => xs.extract 0 ((a : Int)).toNat ++ new ++ xs.extract (max (a : Int) (c : Int)).toNat xs.size) >>= _) _ _ s
  rw [hmax, Int.toNat_natCast]
  refine wpAny_bind (wpAny_updateSeq (hz := Nat.le_trans (Nat.le_add_right _ _) hsz) (_hz' := hz') e rfl ?_)
  refine wpAny_bind (wpAny_letGo ?_)
  first
    | exact wpAny_bind (wpAny_pure (wpAny_pure ⟨.none, rfl, wpAny_pure h⟩))
    | exact wpAny_pure ⟨.none, rfl, wpAny_pure h⟩
end

section
variable {X : Cx}
/-- xs[a:c] = ys of another list, at the value level: sl is the slice object that was just made -/
theorem set_slice {pins : List (Addr × Obj)} {s : Shared} {σ : St} {H : Hp} {l b sl : Addr} {xs ys : List V} {a c : Int} {vl vu : Value} {Q : Unit → Shared → Prop} (I : Inv X pins σ H s)
    (hH : H l = some (.lst xs)) (hB : H b = some (.lst ys)) (hne : l ≠ b) (hs : s.heap.IsSliceOf sl vl vu .none) (ra : RelV (.int a) vl) (rc : RelV (.int c) vu) (h0 : 0 ≤ a) (hac : a ≤ c) (hc : c ≤ xs.length)
    (hz : xs.length + ys.length ≤ sizeLine) (h : ∀ s', Inv X pins σ (upd H l (.lst (xs.take a.toNat ++ ys ++ xs.drop c.toNat))) s' → Q () s') :
    wpAny (model X.prog X.w) X.A (setItem (.ref l) (.ref sl) (.ref b)) Q X.xe s := by
  obtain ⟨ta, rfl⟩ := ra
  obtain ⟨tc, rfl⟩ := rc
  obtain ⟨z, its, n, r, hl, e⟩ := I.lstM hH
  obtain ⟨z2, its2, n2, r2, hl2, e2⟩ := I.lstM hB
  obtain ⟨a', rfl⟩ := Int.eq_ofNat_of_zero_le h0
  obtain ⟨c', rfl⟩ := Int.eq_ofNat_of_zero_le (Int.le_trans h0 hac)
  simp only [Int.toNat_natCast] at h
  refine setItem_slice (a := a') (c := c') e e2 hne hs (.int _ _) (.int _ _) (by omega) (by rw [List.size_toArray]; omega) (by rw [List.size_toArray, List.size_toArray]; omega) (h _ ?_)
  refine I.lset (its' := its.take a' ++ its2 ++ its.drop c') (t' := s.toks) hH e ?_ (Vals.append (Vals.append (r.take _) r2) (r.drop _)) ?_
  · exact splice_eq its its2 a' c'
  · rw [List.length_append, List.length_append, List.length_take, List.length_drop]
    omega
end
end L2

namespace Att
open PySem PySem.W PySem.Calls PyProof.Rows

/-! ### the script -/
theorem ints_of_wellAll {P : Params} {h : Heap} : ∀ (ns : List Int) (vs : List Value), WellAll P h vs (ns.map WData.int) → IntsAre vs ns := by
  intro ns
  induction ns with
  | nil =>
    intro vs w
    rw [List.map_nil] at w
    cases w
    exact .nil
  | cons n ns ih =>
    intro vs w
    rw [List.map_cons] at w
    cases w with
    | cons a b =>
      cases a
      exact .cons _ _ (ih _ b)

theorem script_of {l : OpenLaw} {n : Nat} (hn : l.most = some n) {P : Params} {h : Heap} {args : List WData} {vals : List Value}
    (hpre : l.row.toRowW.claim.pre args = true) (hwl : WellAll P h vals args) :
    ∃ a vs ns, vals = [Value.ref a] ∧ args = [WData.list (ns.map WData.int)] ∧ h.get? a = some { cls := .type "list", data := .seq vs.toArray } ∧ IntsAre vs ns ∧ ns.length ≤ n := by
  have hsh : WShape.hasAll [] args [.list .int] = true := (pre_splitW hpre).1
  have hc : l.pre.holds [] { args := args } = true := (pre_splitW hpre).2
  obtain ⟨d, r, rfl, h1, h2⟩ := hasAllW_cons hsh
  obtain rfl := hasAllW_nil h2
  obtain ⟨xs, rfl, h3⟩ := hasW_list h1
  obtain ⟨ns, rfl⟩ := items_int h3
  have hlen : ns.length ≤ n := by
    unfold OpenLaw.pre at hc
    have h4 : (WTm.not (.lt (.lit (.int (n : Int))) (.len (.arg 0)))).holds [] { args := [.list (ns.map .int)] } = true := by
      have h4 := (holds_andW hc).1
      rw [hn] at h4
      exact h4
    have h5 := condW_of h4 (w_not (w_lt w_lit (w_len_list (w_arg rfl))))
    rw [List.length_map] at h5
    refine Nat.le_of_not_lt fun q => ?_
    have q' : (n : Int) < ((ns.length : Nat) : Int) := by omega
    first
      | (rw [decide_eq_true q'] at h5; exact absurd h5 (by decide))
      | (simp at h5; omega)
  cases hwl with
  | cons w1 w2 =>
    cases w2
    cases w1 with
    | list ho hall => exact ⟨_, _, ns, rfl, rfl, ho, ints_of_wellAll ns _ hall, hlen⟩

theorem post_true (l : OpenLaw) (args : List WData) : l.row.toRowW.claim.post args (.bool true) args = true :=
  postW_of (r := l.row.toRowW) (X := (true == true))
    (show WShape.has [] (.bool true) .bool = true by first | rfl | decide | simp [WShape.has, WShape.arms, WShape.armsAll])
    (show (WTm.eq .res (.lit (.bool true))).value [] { args := args, res := some (.bool true), after := args } = some (.bool (true == true)) from w_eq_bool (w_res rfl) w_lit) rfl

/-! ### the attachment: holds_open's last premise (the goal 'hc' behind k_head) from a wpAny of the law's body -/
theorem attach {l : OpenLaw} {n : Nat} {q : Program} {loose : List Str} {XP : (Str → Option Value) → Heap → Prop} {YP : World → Heap → Prop} {d : DefRec} {x : Str}
    (hn : l.most = some n) (hdf : d.params.defaults = [])
    (hbind : ∀ pm cd doc v : Value, bindArgs (docDef d.name d.params d.body d.scope pm cd doc) ⟨[v], []⟩ = pure [(x, v)])
    (hx : d.scope.names.lookup x = some .local ∨ d.scope.names.lookup x = some .cell)
    (hk : d.scope.kind = .function) (hco : d.scope.isCoroutine = false) (hgen : d.scope.isGenerator = false)
    (body : ∀ (w : World) (s₀ s₁ s : Shared) (mg mb : Str → Option Value) (fa : Addr) (o : Obj) (pm cd doc : Value) (a : Addr) (vs : List Value) (ns : List Int),
      Ground q loose [] XP w s₀ mg mb s₁.heap → YP w s₁.heap →
      s₁.heap.get? fa = some o → o.data = .func (docDef d.name d.params d.body d.scope pm cd doc) → s₁.heap.CodeRec cd d.name → mg d.name = some (.ref fa) →
      s₁.heap.get? a = some { cls := .type "list", data := .seq vs.toArray } → IntsAre vs ns → ns.length ≤ n →
      s.gens = #[] → s.os = s₁.os →
      Fr s₁.heap s₁.heap.objs.size s.heap (bindL (envOfC d.name d.scope s₁.heap.objs.size fa cd).kindOf [(x, .ref a)] fun _ => none) →
      Cl s₁.heap.objs.size (cellsFrom (s₁.heap.objs.size + 1) d.scope.names []) s.heap (bindC (envOfC d.name d.scope s₁.heap.objs.size fa cd).kindOf [(x, .ref a)] fun _ => none) →
      wpAny (model l.prog w) (callerA.deeper (envOfC d.name d.scope s₁.heap.objs.size fa cd)) (execs d.body (envOfC d.name d.scope s₁.heap.objs.size fa cd))
        (fun f s' => f = .ret (.bool true) ∧ OldK s₁.heap s'.heap ∧ s'.os = s₁.os ∧ AllBare s'.gens) (fun _ _ => False) s) :
    WalkO q loose XP YP l.row.toRowW d [] (fun f vs => PySem.call f vs) := by
  intro w s₀ s₁ mg mb G Y fa o pm cd doc dV kV ho hd hcd hD hmg hg args vals as hpre hlay hrd hwl hlo
  obtain rfl : dV = .none := Dflts.none hD hdf
  obtain rfl : kV = .none := Dflts.noKw hD
  obtain ⟨a, vs, ns, rfl, rfl, hobj, hints, hlen⟩ := script_of hn hpre hwl
  refine enter_call ?_
  refine call_cells_ret (o := o) (by rw [depth_caller]; decide) ho (fd_plain hd) G.T.nolimit hcd (hbind pm cd doc (.ref a)) (fun y hy => ?_) (fun h₁ tk F X => ?_) hco hgen hk
  · obtain rfl : y = (x, Value.ref a) := List.mem_singleton.mp hy
    rcases hx with e | e
    · exact .inl e
    · exact .inr ⟨e, cellsFrom_some _ _ _ (.inl e)⟩
  · refine wpAny_mono (body w s₀ s₁ { s₁ with heap := h₁, toks := tk } mg mb fa o pm cd doc a vs ns G Y ho (fd_plain hd) hcd hmg hobj hints hlen hg rfl F X) (fun f s' hq => ?_) (fun _ _ hq => hq)
    obtain ⟨rfl, h2, h3, h4⟩ := hq
    exact ⟨.inl ⟨.bool true, .bool true, [], rfl, fun _ => rfl, .bool true, post_true l _, fun _ => ⟨List.Pairwise.nil, fun _ hm => (nomatch hm)⟩⟩, h2, h3, h4⟩

/-- the same from a codeAny of the CALL (for a layer whose function contracts speak of calls) -/
theorem attach_call {l : OpenLaw} {n : Nat} {q : Program} {loose : List Str} {XP : (Str → Option Value) → Heap → Prop} {YP : World → Heap → Prop} {d : DefRec}
    (hn : l.most = some n) (hdf : d.params.defaults = [])
    (call : ∀ (w : World) (s₀ s₁ : Shared) (mg mb : Str → Option Value) (fa : Addr) (o : Obj) (pm cd doc : Value) (a : Addr) (vs : List Value) (ns : List Int),
      Ground q loose [] XP w s₀ mg mb s₁.heap → YP w s₁.heap →
      s₁.heap.get? fa = some o → o.data = .func (docDef d.name d.params d.body d.scope pm cd doc) → s₁.heap.CodeRec cd d.name → mg d.name = some (.ref fa) →
      s₁.heap.get? a = some { cls := .type "list", data := .seq vs.toArray } → IntsAre vs ns → ns.length ≤ n → s₁.gens = #[] →
      codeAny (model l.prog w) callerA (.call (.ref fa) ⟨[.ref a], []⟩) (fun r s' => r = .ok (.ret (.bool true)) ∧ OldK s₁.heap s'.heap ∧ s'.os = s₁.os ∧ AllBare s'.gens) s₁) :
    WalkO q loose XP YP l.row.toRowW d [] (fun f vs => PySem.call f vs) := by
  intro w s₀ s₁ mg mb G Y fa o pm cd doc dV kV ho hd hcd hD hmg hg args vals as hpre hlay hrd hwl hlo
  obtain rfl : dV = .none := Dflts.none hD hdf
  obtain rfl : kV = .none := Dflts.noKw hD
  obtain ⟨a, vs, ns, rfl, rfl, hobj, hints, hlen⟩ := script_of hn hpre hwl
  refine enter_call (codeAny_mono (call w s₀ s₁ mg mb fa o pm cd doc a vs ns G Y ho (fd_plain hd) hcd hmg hobj hints hlen hg) fun r s' hq => ?_)
  obtain ⟨rfl, h2, h3, h4⟩ := hq
  exact ⟨.inl ⟨.bool true, .bool true, [], rfl, fun _ => rfl, .bool true, post_true l _, fun _ => ⟨List.Pairwise.nil, fun _ hm => (nomatch hm)⟩⟩, h2, h3, h4⟩

/-- the same where the top left finished generators (o_head chose holds_openN): nothing may have changed at all and no generator may be left -/
theorem attachN {l : OpenLaw} {n : Nat} {q : Program} {loose : List Str} {XP : (Str → Option Value) → Heap → Prop} {YP : World → Heap → Prop} {d : DefRec} {x : Str}
    (hn : l.most = some n) (hdf : d.params.defaults = [])
    (hbind : ∀ pm cd doc v : Value, bindArgs (docDef d.name d.params d.body d.scope pm cd doc) ⟨[v], []⟩ = pure [(x, v)])
    (hx : d.scope.names.lookup x = some .local ∨ d.scope.names.lookup x = some .cell)
    (hk : d.scope.kind = .function) (hco : d.scope.isCoroutine = false) (hgen : d.scope.isGenerator = false)
    (body : ∀ (w : World) (s₀ s₁ s : Shared) (mg mb : Str → Option Value) (fa : Addr) (o : Obj) (pm cd doc : Value) (a : Addr) (vs : List Value) (ns : List Int),
      Ground q loose [] XP w s₀ mg mb s₁.heap → YP w s₁.heap →
      s₁.heap.get? fa = some o → o.data = .func (docDef d.name d.params d.body d.scope pm cd doc) → s₁.heap.CodeRec cd d.name → mg d.name = some (.ref fa) →
      s₁.heap.get? a = some { cls := .type "list", data := .seq vs.toArray } → IntsAre vs ns → ns.length ≤ n →
      s.gens = #[] → s.os = s₁.os →
      Fr s₁.heap s₁.heap.objs.size s.heap (bindL (envOfC d.name d.scope s₁.heap.objs.size fa cd).kindOf [(x, .ref a)] fun _ => none) →
      Cl s₁.heap.objs.size (cellsFrom (s₁.heap.objs.size + 1) d.scope.names []) s.heap (bindC (envOfC d.name d.scope s₁.heap.objs.size fa cd).kindOf [(x, .ref a)] fun _ => none) →
      wpAny (model l.prog w) (callerA.deeper (envOfC d.name d.scope s₁.heap.objs.size fa cd)) (execs d.body (envOfC d.name d.scope s₁.heap.objs.size fa cd))
        (fun f s' => f = .ret (.bool true) ∧ (∀ b o, s₁.heap.get? b = some o → s'.heap.get? b = some o) ∧ s'.os = s₁.os ∧ s'.gens = #[]) (fun _ _ => False) s) :
    WalkN q loose XP YP l.row.toRowW d [] (fun f vs => PySem.call f vs) := by
  intro w s₀ s₁ mg mb G Y fa o pm cd doc dV kV ho hd hcd hD hmg hg args vals as hpre hlay hrd hwl hlo
  obtain rfl : dV = .none := Dflts.none hD hdf
  obtain rfl : kV = .none := Dflts.noKw hD
  obtain ⟨a, vs, ns, rfl, rfl, hobj, hints, hlen⟩ := script_of hn hpre hwl
  refine enter_callW ?_
  refine call_cells_ret (o := o) (by rw [depth_caller]; decide) ho (fd_plain hd) G.T.nolimit hcd (hbind pm cd doc (.ref a)) (fun y hy => ?_) (fun h₁ tk F X => ?_) hco hgen hk
  · obtain rfl : y = (x, Value.ref a) := List.mem_singleton.mp hy
    rcases hx with e | e
    · exact .inl e
    · exact .inr ⟨e, cellsFrom_some _ _ _ (.inl e)⟩
  · refine wpAny_mono (body w s₀ s₁ { s₁ with heap := h₁, toks := tk } mg mb fa o pm cd doc a vs ns G Y ho (fd_plain hd) hcd hmg hobj hints hlen hg rfl F X) (fun f s' hq => ?_) (fun _ _ hq => hq)
    obtain ⟨rfl, h2, h3, h4⟩ := hq
    exact ⟨.inl ⟨.bool true, .bool true, [], rfl, fun _ => rfl, .bool true, post_true l _, fun _ => ⟨List.Pairwise.nil, fun _ hm => (nomatch hm)⟩⟩, h2, h3, h4⟩

/-! ### rules over ANY heap (no ledger) from facts about the written part K: the library's own take a ledger (News) for what they write -/
section
variable {prog : Program} {w : World} {A : Around} {E : Value → Shared → Prop} {s : Shared} {K : Frag}

/-- a def of the module, or a method (qual 'C.m'), entered: the frame is the next address; cells behind it -/
theorem call_fn {R : Result → Shared → Prop} {name qual : Str} {params : Arguments} {body : List Stmt} {scope : Scope} {dV kV doc pm cdv ct oc : Value} {an od : Option Addr} {osl : Array (Option Value)} {f : Addr} {args : Args} {binds : List (Str × Value)}
    (X : K.In s.heap) (hlim : s.heap.NoLimit) (ho : K.lookup f = some ⟨oc, od, .func (fnOf name qual params body scope dV kV doc pm an cdv ct), osl⟩) (hcd : codeIn K cdv qual = true) (hroom : A.depth < recursionLimit)
    (hbind : BindsTo s (fnOf name qual params body scope dV kV doc pm an cdv ct) args binds)
    (hkind : (binds.all fun y => scope.names.lookup y.1 == some .local || scope.names.lookup y.1 == some .cell) = true)
    (h : ∀ s₁, InCallC s s.heap.objs.size (bindL (envOfC qual scope s.heap.objs.size f cdv).kindOf binds fun _ => none) (cellsFrom (s.heap.objs.size + 1) scope.names [])
        (bindC (envOfC qual scope s.heap.objs.size f cdv).kindOf binds fun _ => none) s₁ →
      wpAny (model prog w) (A.deeper (envOfC qual scope s.heap.objs.size f cdv)) (execs body (envOfC qual scope s.heap.objs.size f cdv))
        (fun fl s' => R (.ok (.ret (match fl with | .ret v => v | _ => .none))) s')
        (fun e s' => wpAny (model prog w) (A.deeper (envOfC qual scope s.heap.objs.size f cdv)) (leaving (envOfC qual scope s.heap.objs.size f cdv) e) (fun _ s'' => R (.error e) s'') (fun e' s'' => R (.error e') s'') s') s₁)
    (hco : scope.isCoroutine = false) (hgen : scope.isGenerator = false) (hk : scope.kind = .function) : codeAny (model prog w) A (.call (.ref f) args) R s := by
  refine codeAny_call_function hroom (X _ _ ho) rfl hco hgen rfl (codeRec_of X hcd) (hbind _ _ _ _ ?_)
  refine wpAny_newFunctionEnv_cells hk (kindsX hkind _) fun env he s₁ x => ?_
  subst he
  exact ⟨hlim.keeps x.toInCall.keep, codeAny_func (h s₁ x)⟩

/-- C(..): dict at size, instance at size + 1, then __init__ -/
theorem make_obj {R : Result → Shared → Prop} {C fI : Addr} {rest : List Value} {kw : List (Str × Value)}
    (X : K.In s.heap) (hm : makesIn K C = true) (hi : findIn K (.ref C) "__init__" = some (some (.ref fI))) (hf : isFn K (.ref fI) = true)
    (h : codeAny (model prog w) (A.under (.builtin "type.__call__" ⟨.ref C :: rest, kw⟩)) (.call (.ref fI) ⟨.ref (s.heap.objs.size + 1) :: rest, kw⟩) (InitBack (s.heap.objs.size + 1) R)
      { s with heap := (s.heap.push emptyDict).push (instObj C s.heap.objs.size) }) : codeAny (model prog w) A (.call (.ref C) ⟨rest, kw⟩) R s := by
  obtain ⟨hh, g, d, t, os⟩ := s
  exact make_core (makes_of X hm) (looks_findIn X hi) (fun self => bind_fn X self (beq_iff_eq.mp hf)) (.inl rfl) h

/-- x.name where the instance's dict holds the name and the class does not -/
theorem get_field {x C : Addr} {ox : Obj} {es : List DictEntry} {n : Nat} {name : Str} {expr : Bool} {v : Value} {Q : Value → Shared → Prop}
    (X : K.In s.heap) (I : PySem.W.InstAt s.heap x ox C (some (dictOf es n))) (hg : plainGet K C name = true) (hh : hasDictIn K C = true) (ha : findIn K (.ref C) name = some none)
    (hl : getL name es = some (some v)) (hv : handedIn v = true) (h : Q v { s with toks := s.toks + 1 }) : wpAny (model prog w) A (getAttr (.ref x) name expr) Q E s :=
  get_value X I (plainGet_of hg).1 (findObj_own hh ha rfl hl) hv h

/-- x.m(..): the method found in the class -/
theorem get_method {x C f : Addr} {ox : Obj} {es : List DictEntry} {n : Nat} {name : Str} {pl : Sem Bool} {Q : Value × List Value → Shared → Prop}
    (X : K.In s.heap) (I : PySem.W.InstAt s.heap x ox C (some (dictOf es n))) (hg : plainGet K C name = true) (hf : findIn K (.ref C) name = some (some (.ref f))) (ht : isFn K (.ref f) = true)
    (hl : getL name es = some none) (h : Q (.ref f, [.ref x]) s) : wpAny (model prog w) A (getMethod (.ref x) name pl) Q E s :=
  method_fn X I (plainGet_of hg).1 (plainGet_of hg).2 hf (beq_iff_eq.mp ht) (by show (lookIn name (dictOf es n)).map _ = _; rw [lookIn_dict, hl]; rfl) h

/-! the whole heap as the ledger: makes every rule that writes through a ledger a rule over any heap -/
def noObjs (h : Heap) : Heap := { h with objs := #[] }
theorem noObjs_get (h : Heap) (b : Addr) : (noObjs h).get? b = none := by
  cases e : (noObjs h).get? b with
  | none => rfl
  | some o => exact absurd (Heap.lt_size e) (Nat.not_lt_zero _)
def ledger (h : Heap) (L d : Addr) : List (Addr × Obj) := (List.range h.objs.size).filterMap fun a => if a = L ∨ a = d then none else (h.get? a).map fun o => (a, o)
theorem mem_ledger {h : Heap} {L d a : Addr} {o : Obj} : (a, o) ∈ ledger h L d ↔ a ≠ L ∧ a ≠ d ∧ h.get? a = some o := by
  unfold ledger
  rw [List.mem_filterMap]
  constructor
  · rintro ⟨b, _, e⟩
    split at e
    · cases e
    · rename_i hb
      obtain ⟨o', ho, e'⟩ := Option.map_eq_some_iff.mp e
      cases e'
      exact ⟨fun q => hb (.inl q), fun q => hb (.inr q), ho⟩
  · rintro ⟨n1, n2, ho⟩
    refine ⟨a, List.mem_range.mpr (Heap.lt_size ho), ?_⟩
    rw [if_neg (show ¬ (a = L ∨ a = d) from fun q => q.elim n1 n2), ho] <;> rfl
theorem news_ledger {h : Heap} {L d : Addr} {od : Obj} (hne : d ≠ L) (ho : h.get? d = some od) : News (noObjs h) L h ([] ++ (d, od) :: ledger h L d) := by
  rintro ⟨a, o⟩ hp
  rcases List.mem_cons.mp hp with e | hp
  · cases e
    exact ⟨ho, hne, noObjs_get _ _⟩
  · obtain ⟨n1, n2, e⟩ := mem_ledger.mp hp
    exact ⟨e, n1, noObjs_get _ _⟩
theorem fr_all {h : Heap} {L : Addr} {m : Str → Option Value} (n : h.Ns L m) : Fr (noObjs h) L h m :=
  ⟨n, fun b o e => (by rw [noObjs_get] at e; cases e), Nat.zero_le _⟩
/-- Upd of the head entry (for append_K, setItem_K ..) -/
theorem upd_ledger {h : Heap} {L d : Addr} {o o' : Obj} : Upd d o o' ((d, o) :: ledger h L d) ((d, o') :: ledger h L d) :=
  .head fun ⟨_, _⟩ hp => (mem_ledger.mp hp).2.1

/-- x.name = v over any heap: L is any namespace of the heap (the frame's, say): its map stays, its object is not told; all else but the dict stays -/
theorem set_field {x C dx L : Addr} {ox : Obj} {m : Str → Option Value} {es es' : List DictEntry} {n n' : Nat} {name : Str} {v : Value} {Q : Unit → Shared → Prop}
    (X : K.In s.heap) (I : PySem.W.InstAt s.heap x ox C (some (dictOf es n))) (hd : ox.dict = some dx) (hL : s.heap.Ns L m) (hne : dx ≠ L)
    (hs : findIn K (.ref C) "__setattr__" = some (some (.builtin "object.__setattr__"))) (hp : plainOver K C = true) (ht : takerIn K C name = some none) (hh : hasDictIn K C = true) (hl : (getL name es).isSome = true)
    (e : (putL name (PyData.keyHash w.params name) (.str name (s.toks + 1)) v es, putN name es n) = (es', n')) (hz : es'.length ≤ 1000)
    (h : ∀ h' : Heap, h'.Ns L m → h'.get? dx = some (dictOf es' n') → (∀ b o, b ≠ dx → b ≠ L → s.heap.get? b = some o → h'.get? b = some o) → Q () { s with heap := h', toks := s.toks + 2 }) :
    wpAny (model prog w) A (setAttr (.ref x) name v) Q E s := by
  obtain ⟨e1, e2⟩ := Prod.mk.inj e
  have hdx : s.heap.get? dx = some (dictOf es n) := by
    have := I.dict
    rw [hd] at this
    exact this
  refine set_plain X I hs (osa_dict (s := { s with toks := s.toks + 1 }) (h₀ := noObjs s.heap) (L := L) (m := m) (od := dictOf es n) (od' := dictOf es' n') (es := es') (n := n') (pre := []) (post := ledger s.heap L dx)
    (fr_all hL) (news_ledger hne hdx) X I hd hp ht hh hl (fun _ q => nomatch q) (fun ⟨_, _⟩ q => (mem_ledger.mp q).2.1) (by rw [putName_dict, e1, e2]) rfl hz fun h' F' N' => ?_)
  exact h h' F'.ns (N'.get (List.Mem.head _)) fun b o n1 n2 ho => N'.get (List.Mem.tail _ (mem_ledger.mpr ⟨n2, n1, ho⟩))
end
end Att

namespace L2
open PySem PySem.Spec PyProof.Rows

theorem vals_ints : ∀ {vs : List Value} {ns : List Int}, IntsAre vs ns → Vals (ns.map V.int) vs
  | _, _, .nil => .nil
  | _, _, .cons n t h => .cons ⟨t, rfl⟩ (vals_ints h)

/-- nothing is tracked but the script, known to the object (or it is an object of the module) -/
def Only (H : Hp) : Prop := ∀ b, H b = none ∨ ∃ o xs, H b = some (.frz o (.lst xs))

/-- THE HEAD: the law's promise, at the heap behind the top. F, the promise of the law's def, may use that base is part of the heap (so K.In base, base.Ns mainGlobals mg stand in Mod) -/
theorem law_call {P : Program} {w : World} {K : PySem.W.Frag} {mg mb : Str → Option Value} {CX : CXT} {k : Nat} {fa a : Addr} {fd : FuncData} {x : Str} {sp : Sp} {s₁ : Shared} {vs : List Value} {ns : List Int}
    (KX : K.In s₁.heap) (hns : s₁.heap.Ns mainGlobals mg) (hb : s₁.heap.Ns builtinsNs mb) (hbb : ∀ x : Str, x ≠ "__name__" → mb x = bootBuiltins x) (hlim : s₁.heap.NoLimit) (hg : s₁.gens = #[])
    (ha : s₁.heap.get? a = some { cls := .type "list", data := .seq vs.toArray }) (hi : IntsAre vs ns) (hl : ns.length ≤ sizeLine) (hr : Room k callerA)
    (F : ∀ base : Heap, K.In base → base.Ns mainGlobals mg → FnOk P w K mg base CX k fa fd [x] sp) (hbind : ∀ (s : Shared) (u : Value), BindsTo s fd ⟨[u], []⟩ [(x, u)])
    (hsp : ∀ H : Hp, Only H → SqL K H a (ns.map V.int) → sp [.ref a] H (fun v _ => v = .bl true) fun _ _ _ => False)
    (hCX : ∀ H e s', CX [] H s₁ (fun _ _ _ => False) e s' → False) :
    codeAny (model P w) callerA (.call (.ref fa) ⟨[.ref a], []⟩) (fun r s' => r = .ok (.ret (.bool true)) ∧ OldK s₁.heap s'.heap ∧ s'.os = s₁.os ∧ AllBare s'.gens) s₁ := by
  have rv := vals_ints hi
  have lenV := hi.length
  -- from an abstract heap in which nothing but the script may be tracked
  have core : ∀ H : Hp, Only H → SqL K H a (ns.map V.int) → HOk P w H s₁.heap → (∀ b, H b ≠ none → b = a) → (H a ≠ none → K.lookup a = none) →
      codeAny (model P w) callerA (.call (.ref fa) ⟨[.ref a], []⟩) (fun r s' => r = .ok (.ret (.bool true)) ∧ OldK s₁.heap s'.heap ∧ s'.os = s₁.os ∧ AllBare s'.gens) s₁ := by
    intro H hO hS hok hA hK
    have base_of : ∀ {b : Addr} {o : Obj}, s₁.heap.get? b = some o → H b = none → (hidT s₁.heap H).get? b = some o := fun e n => hidT_get e n
    have noA : ∀ {b : Addr} {o : Obj} {es : Array DictEntry} {ep : Nat}, s₁.heap.get? b = some o → o.data = .dict es ep → H b = none := fun {b o es ep} e d => by
      cases q : H b with
      | none => rfl
      | some u =>
        have e' : b = a := hA b (by rw [q]; simp)
        subst e'
        rw [ha] at e; cases e
        have d' : Data.seq vs.toArray _ = Data.dict es ep := d
        cases d'
    have nsK : ∀ {b : Addr} {m : Str → Option Value}, s₁.heap.Ns b m → (hidT s₁.heap H).Ns b m := fun {b m} ⟨o, es, ep, e, d, r⟩ => ⟨o, es, ep, base_of e (noA e d), d, r⟩
    have hKb : K.In (hidT s₁.heap H) := fun b o e => base_of (KX b o e) (by
      cases q : H b with
      | none => rfl
      | some u =>
        have e' : b = a := hA b (by rw [q]; simp)
        subst e'
        rw [hK (by rw [q]; simp)] at e; cases e)
    have hM : Mod K mg (hidT s₁.heap H) := ⟨hKb, nsK hns, ⟨mb, nsK hb, hbb⟩, let ⟨mc, h1, h2⟩ := hlim; ⟨mc, nsK h1, h2⟩⟩
    have e0 : Env0 P w K mg (hidT s₁.heap H) callerA [] s₁ H := ⟨rfl, hM, fun b o e => of_hidT e, Nat.le_of_eq (hidT_size _ _), trivial, fun b hb => absurd (show b ∈ ([] : List Addr) from hb) (by simp), hok, .of_eq hg⟩
    refine codeAny_mono ((F _ hKb (nsK hns)).run callerA [] s₁ H ⟨[.ref a], []⟩ [.ref a] [.ref a] _ _ hr e0 (hbind s₁ (.ref a)) (.cons rfl .nil) (hsp H hO hS)) fun r s' h => ?_
    cases r with
    | error e => exact (hCX H e s' h).elim
    | ok fl =>
      cases fl with
      | next => exact False.elim h
      | brk => exact False.elim h
      | cont => exact False.elim h
      | ret u =>
        obtain ⟨v, H', os, bare, un, hok', r', q⟩ := h
        have q' : v = .bl true := q
        subst q'
        obtain rfl : u = Value.bool true := r'
        refine ⟨rfl, OldK.of_keep fun b o e => ?_, os, bare⟩
        cases q : H b with
        | none => exact un.keep b o e q (by intro z; exact absurd (show b ∈ ([] : List Addr) from z) (by simp)) (by simp)
        | some u =>
          rcases hO b with z | ⟨ob, xs, z⟩
          · rw [q] at z; cases z
          · have z2 := un.frzs b ob _ z
            obtain ⟨e1, _⟩ := hok b _ z
            obtain ⟨e2, _⟩ := hok' b _ z2
            rw [e] at e1; cases e1
            exact e2
  cases hk : K.lookup a with
  | some o =>
    -- the script is one of the module's own objects
    have e := KX a o hk
    rw [ha] at e
    cases e
    refine core (fun _ => none) (fun _ => .inl rfl) (.inr ⟨_, vs.toArray, _, hk, rfl, rfl, rfl, by rw [List.size_toArray, lenV]; exact hl, by simpa using rv⟩) (fun b u z => by have z' : (none : Option HO) = some u := z; cases z') (fun b z => absurd rfl z) fun z => absurd rfl z
  | none =>
    refine core (fun b => if b = a then some (.frz { cls := .type "list", data := .seq vs.toArray } (.lst (ns.map V.int))) else none) (fun b => ?_) (.inl (.inr ⟨{ cls := .type "list", data := .seq vs.toArray }, if_pos rfl⟩)) (fun b u z => ?_) (fun b z => ?_) fun _ => hk
    · by_cases hb : b = a
      · exact .inr ⟨_, _, if_pos hb⟩
      · exact .inl (if_neg hb)
    · by_cases hb : b = a
      · have z' := (if_pos hb).symm.trans z
        cases z'
        subst hb
        exact ⟨ha, by rw [List.length_map]; exact hl, vs, _, rv, ha⟩
      · have z' := (if_neg hb).symm.trans z
        cases z'
    · by_cases hb : b = a
      · exact hb
      · exact absurd (if_neg hb) z
end L2

namespace L2
open PySem PySem.Spec PyProof.Rows

abbrev KOf {K : PySem.W.Frag} {h : Heap} (_ : K.In h) : PySem.W.Frag := K

/-- the goal that k_head leaves (case hc), from the law's promise. F gives the function object fd (K's own) once, then the promise over every base -/
theorem walk_of {l : PySem.W.OpenLaw} {n k : Nat} {q : Program} {loose : List Str} {XP : (Str → Option Value) → Heap → Prop} {YP : World → Heap → Prop} {d : DefRec} {K : Params → PySem.W.Frag} {CX : World → CXT} {sp : World → Sp} {x : Str}
    (hn : l.most = some n) (hn2 : n ≤ sizeLine) (hdf : d.params.defaults = []) (hr : Room k callerA)
    (hY : ∀ (w : World) (h : Heap), YP w h → (K w.params).In h)
    (F : ∀ (w : World) (mg : Str → Option Value) (fa : Addr) (h : Heap), (K w.params).In h → h.Ns mainGlobals mg → mg d.name = some (.ref fa) →
      ∃ fd : FuncData, (∀ (s : Shared) (u : Value), BindsTo s fd ⟨[u], []⟩ [(x, u)]) ∧
        ∀ base : Heap, (K w.params).In base → base.Ns mainGlobals mg → FnOk l.prog w (K w.params) mg base (CX w) k fa fd [x] (sp w))
    (hsp : ∀ (w : World) (H : Hp) (a : Addr) (ns : List Int), ns.length ≤ n → Only H → SqL (K w.params) H a (ns.map V.int) → sp w [.ref a] H (fun v _ => v = .bl true) fun _ _ _ => False)
    (hCX : ∀ (w : World) (H : Hp) (s : Shared) (e : Value) (s' : Shared), CX w [] H s (fun _ _ _ => False) e s' → False) :
    PySem.W.WalkO q loose XP YP l.row.toRowW d [] (fun f vs => PySem.call f vs) := by
  refine Att.attach_call hn hdf fun w s₀ s₁ mg mb fa o pm cd doc a vs ns G Y ho hd hcd hmg hobj hints hlen hg => ?_
  have KX := hY w _ Y
  obtain ⟨fd, hb, hF⟩ := F w mg fa _ KX G.T.g hmg
  exact law_call KX G.T.g G.T.b G.T.builtins G.T.nolimit hg hobj hints (Nat.le_trans hlen hn2) hr hF hb (fun H hO hS => hsp w H a ns hlen hO hS) fun H e s' => hCX w H s₁ e s'
/-- the same where the promise hangs on the written part alone: (sp := My.sp_law), no hole under a binder -/
theorem walk_ofK {l : PySem.W.OpenLaw} {n k : Nat} {q : Program} {loose : List Str} {XP : (Str → Option Value) → Heap → Prop} {YP : World → Heap → Prop} {d : DefRec} {K : Params → PySem.W.Frag} {CX : CXT} {sp : PySem.W.Frag → Sp} {x : Str}
    (hn : l.most = some n) (hn2 : n ≤ sizeLine) (hdf : d.params.defaults = []) (hr : Room k callerA)
    (hY : ∀ (w : World) (h : Heap), YP w h → (K w.params).In h)
    (F : ∀ (w : World) (mg : Str → Option Value) (fa : Addr) (h : Heap), (K w.params).In h → h.Ns mainGlobals mg → mg d.name = some (.ref fa) →
      ∃ fd : FuncData, (∀ (s : Shared) (u : Value), BindsTo s fd ⟨[u], []⟩ [(x, u)]) ∧
        ∀ base : Heap, (K w.params).In base → base.Ns mainGlobals mg → FnOk l.prog w (K w.params) mg base CX k fa fd [x] (sp (K w.params)))
    (hsp : ∀ (K : PySem.W.Frag) (H : Hp) (a : Addr) (ns : List Int), ns.length ≤ n → Only H → SqL K H a (ns.map V.int) → sp K [.ref a] H (fun v _ => v = .bl true) fun _ _ _ => False)
    (hCX : ∀ (H : Hp) (s : Shared) (e : Value) (s' : Shared), CX [] H s (fun _ _ _ => False) e s' → False) :
    PySem.W.WalkO q loose XP YP l.row.toRowW d [] (fun f vs => PySem.call f vs) :=
  walk_of (K := K) (CX := fun _ => CX) (sp := fun w => sp (K w.params)) hn hn2 hdf hr hY F (fun w H a ns h1 h2 h3 => hsp (K w.params) H a ns h1 h2 h3) fun _ H s e s' => hCX H s e s'
end L2

/- THE LAST THEOREM (shape; LID, My.* are yours):
   My.Adr: a structure of the addresses that your layer names (classes, functions); My.Txt K t: a structure (Prop) of the equations over K;
   My.txt_mk : {K} {implicit addresses ..} (e1 : nsIn K mainGlobals "law" = some (some (.ref f))) (e2 : K.lookup f = some ⟨oc, od, .func (fnOf "law" "law" params body scope dV kV doc pm an cdv ct), sl⟩) (e3 : codeIn K cdv "law" = true) .. : ∃ t, My.Txt K t

set_option maxRecDepth 100000 in
set_option maxHeartbeats 0 in
theorem PySem.Challenge.cw_LID_holds : PySem.Challenge.rw_LID.Holds := by
  w_on; o_law; k_head; (case hw => w_witness2)
  k_fill
  refine L2.walk_of (l := PySem.Challenge.rw_LID) (n := 63) (k := 40) (x := "script") (CX := fun w => ..) (sp := fun _ => My.sp_law) rfl (by decide) rfl ⟨rfl, by decide, by decide⟩ (fun w h Y => PySem.W.kIn_of Y) ?F ?S ?C
  case F =>
    intro w mg fa h KX G hmg
    have T : ∃ t, My.Txt (L2.KOf KX) t := by
      dsimp only [L2.KOf]                          -- K must stand as «<heap const> w.params» for k_is
      refine' My.txt_mk ?e1 ?e2 ?e3 ..
      (case e1 => PySem.W.k_is)                    -- in the order: a name -> its address -> its object -> its parts
      (case e2 => PySem.W.k_is)
      ..
    obtain ⟨t, T⟩ := T
    have e0 := hmg.symm.trans (PySem.W.mg_of KX G T.law)
    cases e0                                       -- fa is the law's own address
    exact ⟨_, fun s u => .of_eq rfl, fun base kb nb => My.law_fn T kb nb⟩     -- if «.of_eq rfl» comes too early: refine' ⟨_, ?b, fun base kb nb => My.law_fn T kb nb⟩; exact fun s u => .of_eq rfl
  case S => exact fun w H a ns hl hO hS => ..
  case C => exact ..
(the tactic k_is has no namespace: write k_is) -/

/-! SHORT WORDS over the layer: a def of the text, its body, what a loop and a test want. -/
namespace L2
open PySem PySem.Spec PyProof.Rows

/-! ### the text by places -/
/-- the j-th statement of a class's body -/
def inClass (s : Stmt) (j : Nat) : Stmt := match s with
  | .ClassDef _ _ _ body _ _ _ _ _ _ _ => body.getD j (.Pass ⟨0, 0, 0, 0⟩)
  | _ => .Pass ⟨0, 0, 0, 0⟩
def defArgs (s : Stmt) : Arguments := match s with
  | .FunctionDef _ a _ _ _ _ _ _ _ _ => a
  | _ => { posonlyargs := [], args := [], vararg := none, kwonlyargs := [], kw_defaults := [], kwarg := none, defaults := [] }
def defBody (s : Stmt) : List Stmt := match s with
  | .FunctionDef _ _ b _ _ _ _ _ _ _ => b
  | _ => []
def defScope (s : Stmt) : Scope := match s with
  | .FunctionDef _ _ _ _ _ _ sc _ _ _ => sc
  | _ => { kind := .function, names := [], isGenerator := false, isCoroutine := false }

/-! ### no exception leaves a def -/
abbrev CX0 : CXT := fun _ _ _ _ _ _ => False
abbrev E0 : XK := fun _ _ _ => False
theorem pass0 {X : Cx} : Passes CX0 X E0 := fun _ _ _ _ _ _ _ h => h.elim

/-! ### a def (or method) of the text as it stands behind the top -/
structure Fun (K : PySem.W.Frag) (x qual : Str) (st : Stmt) (f : Addr) (fd : FuncData) : Prop where
  ex : ∃ (oc : Value) (od : Option Addr) (kV doc pm : Value) (an : Option Addr) (cdv ct : Value) (osl : Array (Option Value)),
    fd = PySem.W.fnOf x qual (defArgs st) (defBody st) (defScope st) .none kV doc pm an cdv ct ∧ K.lookup f = some ⟨oc, od, .func fd, osl⟩ ∧ PySem.W.codeIn K cdv qual = true
  kp : PySem.W.keepIn K (.ref f) = true
section
variable {P : Program} {w : World} {K : PySem.W.Frag} {mg : Str → Option Value} {base : Heap}
/-- THE RULE for a def: its body as a term of rules, and the reading of that term -/
theorem Fun.ok {x qual : Str} {st : Stmt} {f : Addr} {fd : FuncData} {N ps : List Str} {k : Nat} {sp : Sp} (F : Fun K x qual st f fd) (S : FnScope N ps (defScope st)) (len : ∀ vs H Q E, sp vs H Q E → vs.length = ps.length)
    (hbody : ∀ (cdv : Value) (A : Around) (outer : List Env) (s : Shared) (H : Hp) (vs : List V) (Q : VK) (E : XK), Room k (A.deeper (envOfC qual (defScope st) s.heap.objs.size f cdv)) → sp vs H Q E →
      ∃ t, PSs (cxOf CX0 P w K mg base N qual (defScope st) f cdv A outer s H E).nox (defBody st) t ∧ t { nx := fun _ H' => Q .non H', rt := Q } (start N vs) H) : FnOk P w K mg base CX0 (k + 1) f fd ps sp := by
  obtain ⟨oc, od, kV, doc, pm, an, cdv, ct, osl, rfl, lk, hcd⟩ := F.ex
  refine fn_of lk hcd S len fun A outer s H vs Q E hr hsp => ?_
  obtain ⟨t, h, q⟩ := hbody cdv A outer s H vs Q E hr hsp
  exact ⟨t, h.nox, q⟩
/-- how its arguments bind (no defaults): h is «fun _ _ _ _ _ _ us hl => match us, hl with | [_, _], _ => rfl», one _ a parameter -/
theorem Fun.binds {x qual : Str} {st : Stmt} {f : Addr} {fd : FuncData} {ps : List Str} (F : Fun K x qual st f fd)
    (h : ∀ (kV doc pm : Value) (an : Option Addr) (cdv ct : Value) (us : List Value), us.length = ps.length → bindArgs (PySem.W.fnOf x qual (defArgs st) (defBody st) (defScope st) .none kV doc pm an cdv ct) ⟨us, []⟩ = pure (ps.zip us)) : Binds K fd ps [] := by
  obtain ⟨oc, od, kV, doc, pm, an, cdv, ct, osl, rfl, lk, hcd⟩ := F.ex
  exact .all (h kV doc pm an cdv ct)
theorem fun_mk {x qual : Str} {st : Stmt} {f : Addr} {oc : Value} {od an : Option Addr} {osl : Array (Option Value)} {kV doc pm cdv ct : Value} (l : K.lookup f = some ⟨oc, od, .func (PySem.W.fnOf x qual (defArgs st) (defBody st) (defScope st) .none kV doc pm an cdv ct), osl⟩)
    (c : PySem.W.codeIn K cdv qual = true) (k : PySem.W.keepIn K (.ref f) = true) : Fun K x qual st f (PySem.W.fnOf x qual (defArgs st) (defBody st) (defScope st) .none kV doc pm an cdv ct) := ⟨⟨oc, od, kV, doc, pm, an, cdv, ct, osl, rfl, l, c⟩, k⟩
end
theorem hu_of {A : Around} {k : Nat} (hr : Room k A) : A.units + 1 < cLine := Nat.lt_of_le_of_lt (Nat.add_le_add_left (by decide : 1 ≤ 64) _) hr.units
theorem small1000 {n : Nat} (h : n ≤ 1000) : n < sizeLine := Nat.lt_of_le_of_lt h (by decide)

/-! ### expressions in short: the name that stands in the i-th slot -/
section
variable {X : Cx}
theorem pv (i : Nat) {x : Str} {pos : Pos} (hN : X.N[i]? = some x := by rfl) (hv : Vis X.env.scope x := by first | exact Or.inl rfl | exact Or.inr (Or.inl rfl) | exact Or.inr (Or.inr rfl)) (hd : (x == ("__debug__" : Str)) = false := by decide)
    (hcd : (x == ("__classdict__" : Str)) = false := by decide) : PE X (.Name x pos) (tVar i) := pe_var hN hv hd hcd
end

/-! ### tests -/
theorem iteF {A B : Prop} (h : B) : if false = true then A else B := by
  rw [if_neg Bool.false_ne_true]
  exact h
theorem iteT {A B : Prop} (h : A) : if true = true then A else B := by
  rw [if_pos rfl]
  exact h
theorem ite2 {c A B : Prop} [Decidable c] (h1 : c → A) (h2 : ¬ c → B) : if c then A else B := by
  by_cases h : c
  · rw [if_pos h]
    exact h1 h
  · rw [if_neg h]
    exact h2 h
theorem iteNS {c A B : Prop} [Decidable c] (hc : c) (h : B) : if (!decide c) = true then A else B := by
  rw [decide_eq_true hc]
  exact iteF h

/-! ### heaps -/
/-- all that was tracked is as it was -/
def Same (H H' : Hp) : Prop := ∀ b o, H b = some o → H' b = some o
theorem Same.refl (H : Hp) : Same H H := fun _ _ h => h
theorem Same.trans {H H1 H2 : Hp} (a : Same H H1) (b : Same H1 H2) : Same H H2 := fun c o h => b c o (a c o h)
theorem Same.free {H H' : Hp} (e : Same H H') {l : Addr} (h : H' l = Option.none) : H l = Option.none := by
  cases q : H l with
  | none => rfl
  | some o =>
    rw [e l o q] at h
    cases h
theorem Same.seq {K : PySem.W.Frag} {H H' : Hp} {a : Addr} {xs : List V} (e : Same H H') (h : SqL K H a xs) : SqL K H' a xs := by
  rcases h with (h | ⟨o, h⟩) | h
  · exact .inl (.inl (e _ _ h))
  · exact .inl (.inr ⟨o, e _ _ h⟩)
  · exact .inr h

end L2

set_option Elab.async false
set_option linter.all false
set_option maxRecDepth 100000
/-! Comprehensions over the hand layer. -/
namespace L2
open PySem PySem.Spec PyProof.Rows

theorem lookup_mem {α β : Type} [BEq α] [LawfulBEq α] : ∀ {l : List (α × β)} {x : α} {v : β}, l.lookup x = some v → (x, v) ∈ l
  | [], _, _, h => by simp at h
  | (a, b) :: r, x, v, h => by
    rw [List.lookup_cons] at h
    cases e : x == a with
    | true => rw [e] at h; have e' := eq_of_beq e; subst e'; cases h; exact List.mem_cons_self
    | false => rw [e] at h; exact List.mem_cons_of_mem _ (lookup_mem h)

theorem closure_go {env : Env} : ∀ (names : List (Str × NameKind)) (cs : List (Str × Addr)),
    (∀ y ∈ names, y.2 = .free → ∃ c, env.cells.lookup y.1 = some c) → (∀ x c, cs.lookup x = some c → env.cells.lookup x = some c) →
    ∃ cl, (forIn names cs fun x r => if (x.snd == NameKind.free) = true then do
                let z ← cellOf env x.fst
                pure (ForInStep.yield ((x.fst, z) :: r))
              else pure (ForInStep.yield r) : Sem (List (Str × Addr))) = pure cl ∧ (∀ x c, cl.lookup x = some c → env.cells.lookup x = some c) ∧
      (∀ x, (∃ c, cs.lookup x = some c) ∨ (x, NameKind.free) ∈ names → ∃ c, cl.lookup x = some c)
  | [], cs, _, h2 => ⟨cs, by simp, h2, fun x hx => by
      rcases hx with h | h
      · exact h
      · cases h⟩
  | (n, k) :: r, cs, h1, h2 => by
    rw [List.forIn_cons]
    by_cases hk : k = .free
    · subst hk
      obtain ⟨c, hc⟩ := h1 (n, .free) List.mem_cons_self rfl
      have e : cellOf env n = pure c := by unfold cellOf; rw [hc]
      obtain ⟨cl, e1, h3, h4⟩ := closure_go r ((n, c) :: cs) (fun y hy => h1 y (List.mem_cons_of_mem _ hy)) (fun x c' hx => by
        rw [List.lookup_cons] at hx
        cases q : x == n with
        | true => rw [q] at hx; cases hx; rw [eq_of_beq q]; exact hc
        | false => rw [q] at hx; exact h2 x c' hx)
      refine ⟨cl, ?_, h3, fun x hx => h4 x ?_⟩
      · simp only [beq_self_eq_true, if_true, e, pure_bind]
        exact e1
      · by_cases q : x = n
        · subst q; exact .inl ⟨c, by simp⟩
        · rcases hx with ⟨c', hx⟩ | hx
          · exact .inl ⟨c', by rw [List.lookup_cons, beq_eq_false_iff_ne.mpr q]; exact hx⟩
          · rcases List.mem_cons.mp hx with z | z
            · exact absurd (congrArg Prod.fst z) q
            · exact .inr z
    · have hb : (k == NameKind.free) = false := by simpa using hk
      obtain ⟨cl, e1, h3, h4⟩ := closure_go r cs (fun y hy => h1 y (List.mem_cons_of_mem _ hy)) h2
      refine ⟨cl, ?_, h3, fun x hx => h4 x ?_⟩
      · simp only [hb, Bool.false_eq_true, if_false, pure_bind]
        exact e1
      · rcases hx with hx | hx
        · exact .inl hx
        · rcases List.mem_cons.mp hx with z | z
          · exact absurd (congrArg Prod.snd z).symm hk
          · exact .inr z
theorem closure_of {sc : Scope} {env : Env} (h : ∀ y ∈ sc.names, y.2 = .free → ∃ c, env.cells.lookup y.1 = some c) :
    ∃ cl, closureFor sc env = pure cl ∧ (∀ x c, cl.lookup x = some c → env.cells.lookup x = some c) ∧ (∀ x, (x, NameKind.free) ∈ sc.names → ∃ c, cl.lookup x = some c) := by
  obtain ⟨cl, e, h1, h2⟩ := closure_go (env := env) sc.names [] h (fun x c z => by simp at z)
  refine ⟨cl, ?_, h1, fun x hx => h2 x (.inr hx)⟩
  simp only [closureFor]
  rw [bind_pure]
  exact e

/-- the context of a comprehension's block -/
abbrev Cx.comp (X : Cx) (N' : List Str) (scope : Scope) (cl : List (Str × Addr)) (C : Addr) (s2 : Shared) (H2 : Hp) (fp : List Addr) : Cx :=
  { X with N := N', env := compEnvC scope cl C X.env, s₀ := s2, H₀ := H2, outer := X.stack, stack := X.stack, ex := fp, fn := fun _ => false, pn := [], xe := fun _ _ => False }

/-- the block's names: k of its own, then the captured ones (ix: their slots outside) -/
structure CSc (psc : Scope) (N : List Str) (sc : Scope) (N' : List Str) (k : Nat) (ix : List Nat) : Prop where
  kind : sc.kind = .function
  nocell : ∀ y ∈ sc.names, y.2 ≠ .cell
  loc : ∀ y ∈ sc.names, y.2 = .local → sc.names.lookup y.1 = some .local
  fre : ∀ y ∈ sc.names, y.2 = .free → psc.names.lookup y.1 = some .cell ∨ psc.names.lookup y.1 = some .free
  len : N'.length = k + ix.length
  nd : N'.Nodup
  cap : ∀ (j i : Nat), ix[j]? = some i → ∃ y, N'[k + j]? = some y ∧ N[i]? = some y ∧ sc.names.lookup y = some .free
def cscOk (psc : Scope) (N : List Str) (sc : Scope) (N' : List Str) (k : Nat) (ix : List Nat) : Bool :=
  decide (sc.kind = .function) && sc.names.all (fun y => decide (y.2 ≠ .cell) && (decide (y.2 ≠ .local) || decide (sc.names.lookup y.1 = some .local)) && (decide (y.2 ≠ .free) || decide (psc.names.lookup y.1 = some .cell) || decide (psc.names.lookup y.1 = some .free))) &&
  decide (N'.length = k + ix.length) && decide N'.Nodup && (List.range ix.length).all (fun j => match N'[k + j]?, N[ix.getD j 0]? with
    | some y, some z => decide (y = z) && decide (sc.names.lookup y = some .free)
    | _, _ => false)
theorem CSc.of {psc : Scope} {N : List Str} {sc : Scope} {N' : List Str} {k : Nat} {ix : List Nat} (h : cscOk psc N sc N' k ix = true) : CSc psc N sc N' k ix := by
  unfold cscOk at h
  simp only [Bool.and_eq_true, decide_eq_true_eq, List.all_eq_true, Bool.or_eq_true] at h
  obtain ⟨⟨⟨⟨h1, h2⟩, h3⟩, h4⟩, h5⟩ := h
  refine ⟨h1, fun y hy => (h2 y hy).1.1, fun y hy e => ?_, fun y hy e => ?_, h3, h4, fun j i e => ?_⟩
  · rcases (h2 y hy).1.2 with z | z
    · exact absurd e z
    · exact z
  · rcases (h2 y hy).2 with (z | z) | z
    · exact absurd e z
    · exact .inl z
    · exact .inr z
  · obtain ⟨hj, ei⟩ := List.getElem?_eq_some_iff.mp e
    have := h5 j (List.mem_range.mpr hj)
    have e2 : ix.getD j 0 = i := by rw [List.getD_eq_getElem?_getD, e]; rfl
    rw [e2] at this
    split at this
    · rename_i y z ey ez
      simp only [Bool.and_eq_true, decide_eq_true_eq] at this
      obtain ⟨rfl, hl⟩ := this
      exact ⟨y, ey, ez, hl⟩
    · cases this

/-- the block's slots at a turn's start -/
def cS (k : Nat) (ix : List Nat) (σ : St) : St := List.replicate k none ++ ix.map fun i => (σ[i]?).join

theorem relabel_kind {sc : Scope} {env : Env} : (relabel sc env).kind = sc.kind := rfl
theorem relabel_free {env : Env} : ∀ {names : List (Str × NameKind)} {x : Str}, (∀ y ∈ names, y.2 ≠ NameKind.cell) →
    ((names.map fun (n, k) => if (k == NameKind.free && env.scope.kind == .function && env.kindOf n == some .cell) then (n, NameKind.cell) else (n, k)).lookup x = some .cell ∨
     (names.map fun (n, k) => if (k == NameKind.free && env.scope.kind == .function && env.kindOf n == some .cell) then (n, NameKind.cell) else (n, k)).lookup x = some .free) → names.lookup x = some .free
  | [], _, _, h => by simp at h
  | (n, k) :: r, x, hc, h => by
    have ih := @relabel_free env r x (fun y hy => hc y (List.mem_cons_of_mem _ hy))
    have hk : k ≠ .cell := hc (n, k) List.mem_cons_self
    rw [List.map_cons] at h
    dsimp only at h
    by_cases hcd : (k == NameKind.free && env.scope.kind == .function && env.kindOf n == some .cell) = true
    · have hkf : k = .free := by
        simp only [Bool.and_eq_true] at hcd
        exact eq_of_beq hcd.1.1
      rw [if_pos hcd] at h
      cases hx : x == n with
      | true => rw [List.lookup_cons, hx, hkf]
      | false => simp only [List.lookup_cons, hx] at h; simp only [List.lookup_cons, hx]; exact ih h
    · rw [if_neg hcd] at h
      cases hx : x == n with
      | true =>
        simp only [List.lookup_cons, hx] at h
        rw [List.lookup_cons, hx]
        rcases h with h | h
        · exact absurd (Option.some.inj h) hk
        · exact h
      | false => simp only [List.lookup_cons, hx] at h; simp only [List.lookup_cons, hx]; exact ih h
theorem relabel_cap {env : Env} : ∀ {names : List (Str × NameKind)} {x : Str}, names.lookup x = some .free →
    ((names.map fun (n, k) => if (k == NameKind.free && env.scope.kind == .function && env.kindOf n == some .cell) then (n, NameKind.cell) else (n, k)).lookup x = some .cell ∨
     (names.map fun (n, k) => if (k == NameKind.free && env.scope.kind == .function && env.kindOf n == some .cell) then (n, NameKind.cell) else (n, k)).lookup x = some .free)
  | [], _, h => by simp at h
  | (n, k) :: r, x, h => by
    have ih := @relabel_cap env r x
    rw [List.map_cons]
    dsimp only
    cases hx : x == n with
    | true =>
      rw [List.lookup_cons, hx] at h
      cases h
      by_cases hcd : (NameKind.free == NameKind.free && env.scope.kind == .function && env.kindOf n == some .cell) = true
      · rw [if_pos hcd]; simp [List.lookup_cons, hx]
      · rw [if_neg hcd]; simp [List.lookup_cons, hx]
    | false =>
      rw [List.lookup_cons, hx] at h
      by_cases hcd : (k == NameKind.free && env.scope.kind == .function && env.kindOf n == some .cell) = true
      · rw [if_pos hcd]; simp only [List.lookup_cons, hx]; exact ih h
      · rw [if_neg hcd]; simp only [List.lookup_cons, hx]; exact ih h

section
variable {X : Cx} {pins : List (Addr × Obj)} {σ : St} {H : Hp} {s2 : Shared}
theorem Inv.child {fp : List Addr} {sc : Scope} {N' : List Str} {ix : List Nat} {k : Nat} (I : Inv X pins σ H s2) (S : CSc X.env.scope X.N sc N' k ix) (hf : ∀ b ∈ fp, FpOk X pins H b)
    (hfo : ∀ b ∈ fp, ∃ o, s2.heap.get? b = some o) {cl : List (Str × Addr)} (hcl1 : ∀ x c, cl.lookup x = some c → X.env.cells.lookup x = some c) (hcl2 : ∀ x, (x, NameKind.free) ∈ sc.names → ∃ c, cl.lookup x = some c)
    {C : Addr} {s4 : Shared} (hC : s2.heap.objs.size ≤ C) (keep : ∀ b o, s2.heap.get? b = some o → s4.heap.get? b = some o) {m0 : Str → Option Value} (hns : s4.heap.Ns C m0) (ho : s4.os = s2.os) (hg : AllBare s4.gens) :
    Inv (X.comp N' sc cl C s2 H fp) [] (cS k ix σ) H s4 where
  ok := {
    mod := I.ok.mod
    kind := S.kind
    glob := I.ok.glob
    blt := I.ok.blt
    above := hC
    inj := fun x y c e1 e2 => I.ok.inj x y c (hcl1 x c e1) (hcl1 y c e2)
    has := fun x hx => by
      have := relabel_free (env := X.env) S.nocell hx
      exact hcl2 x (lookup_mem this)
    cab := fun x c h => by cases h
    hd := I.ok.hd
    frames := I.ok.frames
    stk := .inl rfl
    exf := fun b hb => by
      obtain ⟨f0, f1, f2, f3, f4, f5⟩ := hf b hb
      obtain ⟨o, e⟩ := hfo b hb
      exact ⟨Nat.ne_of_lt (Nat.lt_of_lt_of_le (Heap.lt_size e) hC), fun x c z => f4 x c (hcl1 x c z)⟩
    bs := fun b o e => I.bs b o e
    bsz := Nat.le_trans I.ok.bsz I.sz
    noex := fun b o e hb => by
      obtain ⟨f0, f1, f2, f3, f4, f5⟩ := hf b hb
      rcases f3 with z | z
      · exact I.ok.noex b o e z
      · exact absurd (Nat.lt_of_lt_of_le (Heap.lt_size (I.ok.bs b o e).1) z) (Nat.lt_irrefl _)
    exfs := fun b hb hz => by
      obtain ⟨f0, f1, f2, f3, f4, f5⟩ := hf b hb
      rcases List.mem_cons.mp (I.stkSub b hz) with z | z
      · exact f1 z
      · exact f2 z
    funs := I.stack
    frf := I.stkFree }
  os := ho
  bare := hg
  base := Un.kept keep
  loc := ⟨m0, hns, fun i x v e1 e2 e3 => by
    unfold cS at e2
    by_cases hi : i < k
    · rw [List.getElem?_append_left (by simpa using hi), List.getElem?_replicate, if_pos hi] at e2
      cases e2
    · obtain ⟨j, rfl⟩ : ∃ j, i = k + j := ⟨i - k, by omega⟩
      rw [List.getElem?_append_right (by simp), List.length_replicate, Nat.add_sub_cancel_left, List.getElem?_map] at e2
      cases q : ix[j]? with
      | none => rw [q] at e2; cases e2
      | some i0 =>
        rw [q] at e2
        obtain ⟨y, hy1, hy2, hy3⟩ := S.cap j i0 q
        have ey : y = x := by
          have : (X.comp N' sc cl C s2 H fp).N[k + j]? = some y := hy1
          rw [this] at e1; exact Option.some.inj e1
        subst ey
        have ev : σ[i0]? = some (some v) := by
          simp only [Option.map_some, Option.some.injEq] at e2
          cases r : σ[i0]? with
          | none => rw [r] at e2; cases e2
          | some z => rw [r] at e2; exact congrArg some e2
        obtain ⟨m, hn, hl⟩ := I.loc
        have hfr := S.fre (y, .free) (lookup_mem hy3) rfl
        have hv : Vis X.env.scope y := .inr hfr
        obtain ⟨u, r1, l1⟩ := hl i0 y v hy2 ev hv
        refine ⟨u, r1, .inr ⟨relabel_cap (env := X.env) hy3, ?_⟩⟩
        obtain ⟨c, hc⟩ := hcl2 y (lookup_mem hy3)
        refine ⟨c, hc, ?_⟩
        have hc' := hcl1 y c hc
        rcases l1 with ⟨hk, _⟩ | ⟨_, c', hc2, z⟩
        · have hk' : X.env.scope.names.lookup y = some .local := hk
          rcases hfr with w | w
          · rw [hk'] at w; cases w
          · rw [hk'] at w; cases w
        · rw [hc'] at hc2; cases hc2
          obtain ⟨ob, hob, hd⟩ := z
          exact ⟨ob, keep _ _ hob, hd⟩⟩
  cell := fun x c e => by
    obtain ⟨v, ob, hob, hd⟩ := I.cell x c (hcl1 x c e)
    exact ⟨v, ob, keep _ _ hob, hd⟩
  free := I.hok.fresh hC
  freeC := fun x c e => I.freeC x c (hcl1 x c e)
  pin := fun p hp => by cases hp
  hok := I.hok.kept keep
  len := by
    show (cS k ix σ).length = N'.length
    rw [S.len]; unfold cS; simp
/-- behind the block -/
theorem Inv.back {fp : List Addr} {sc : Scope} {N' : List Str} {cl : List (Str × Addr)} {C : Addr} {pl : List (Addr × Obj)} {σc : St} {H5 : Hp} {s5 : Shared} (I : Inv X pins σ H s2) (hf : ∀ b ∈ fp, FpOk X pins H b) (J : Inv (X.comp N' sc cl C s2 H fp) pl σc H5 s5) : Inv X pins σ H5 s5 :=
  I.call' (ch := fp) J.os J.base J.hok J.bare fun b hb => by
    obtain ⟨f0, f1, f2, f3, f4, f5⟩ := hf b hb
    exact ⟨f3, f1, f4, f5⟩
end

section
variable {X : Cx} {pins : List (Addr × Obj)} {σ : St} {H : Hp} {s : Shared}
/-- an untracked object of ours comes to be tracked -/
theorem Inv.track {a : Addr} {o : HO} (I : Inv X pins σ H s) (ha : X.s₀.heap.objs.size ≤ a) (hn : H a = none) (hL : a ≠ X.env.locals) (hc : ∀ x c, X.env.cells.lookup x = some c → c ≠ a) (hp : ∀ p ∈ X.pn ++ pins, p.1 ≠ a)
    (new : ObjOk X.prog X.w (upd H a o) s.heap a o) : Inv X pins σ (upd H a o) s where
  ok := I.ok
  os := I.os
  bare := I.bare
  base := {
    keep := I.base.keep
    slot := I.base.slot
    free := fun b ob e n hx => by
      rw [upd_ne (Nat.ne_of_lt (Nat.lt_of_lt_of_le (Heap.lt_size e) ha))]
      exact I.base.free b ob e n hx
    there := I.base.there
    tups := fun b xs e => by
      have := I.base.tups b xs e
      rw [upd_ne (ne_of_none this hn)]; exact this
    frzs := fun b ob u e => by
      have := I.base.frzs b ob u e
      rw [upd_ne (ne_of_none this hn)]; exact this
    tbls := fun b ps e => by
      obtain ⟨mo, this⟩ := I.base.tbls b ps e
      exact ⟨mo, by rw [upd_ne (ne_of_none this hn)]; exact this⟩ }
  loc := I.loc
  cell := I.cell
  free := by rw [upd_ne (Ne.symm hL)]; exact I.free
  freeC := fun x c e => by rw [upd_ne (hc x c e)]; exact I.freeC x c e
  pin := fun p h => by
    obtain ⟨e, n, r⟩ := I.pin p h
    exact ⟨e, by rw [upd_ne (hp p h)]; exact n, r⟩
  hok := fun b u q => by
    by_cases hb : b = a
    · subst hb; rw [upd_same] at q; cases q; exact new
    · rw [upd_ne hb] at q
      exact (I.hok b u q).stay (fun c v _ r => r) (fun c r => by rw [upd_ne (ne_of_none r hn)]; exact r) fun c xs r => by rw [upd_ne (ne_of_none r hn)]; exact r
  len := I.len
end

/-! ### the tests of a clause -/
def PF (X : Cx) (ifs : List Expr) (t : TT) : Prop :=
  ∀ (pins : List (Addr × Obj)) (s : Shared) (σ : St) (H : Hp) (Q : Bool → Hp → Prop), Inv X pins σ H s → t σ H Q →
    wpAny (model X.prog X.w) X.A (forIn ifs true fun c r => if r = true then do let ok ← isTrue c X.env (eval c X.env); pure (ForInStep.yield ok) else pure (ForInStep.yield r)) (TP X pins σ Q) X.xe s
def tTrue : TT := fun _ H Q => Q true H
theorem pf_nil {X : Cx} : PF X [] tTrue := fun _ _ _ H _ I h => wpAny_tests_nil ⟨H, I, h⟩
theorem pf_one {X : Cx} {c : Expr} {t : TT} (h : PT X c t) : PF X [c] t := fun pins s σ H Q I hw => wpAny_tests_one (h pins s σ H Q I hw)

/-! ### the loop of a comprehension -/
theorem compLoop_go {prog : Program} {w : World} {A : Around} {R : Result → Shared → Prop} {s : Shared} {elt target iter : Expr} {ifs : List Expr} {scope : Scope} {pos : Pos} {it acc : Value} {env : Env} (I : Nat → Shared → Prop)
    (turn : ∀ n s, I n s → wpAny (model prog w) A (pyNext it) (fun r s₁ => match r with
      | none => R (.ok .next) s₁
      | some v => wpAny (model prog w) A (letOwnedTupleGo target it v) (fun _ s₁ => wpAny (model prog w) A (assign target env v) (fun _ s₂ =>
          wpAny (model prog w) A (forIn ifs true fun c r => if r = true then do let ok ← isTrue c env (eval c env); pure (ForInStep.yield ok) else pure (ForInStep.yield r)) (fun ok s₃ =>
            if ok = true then wpAny (model prog w) A (eval elt env) (fun x s₄ =>
              wpAny (model prog w) A (call (.builtin "list.append") [acc, x]) (fun _ s₅ => ∃ m, m < n ∧ I m s₅) (fun _ _ => False) s₄) (fun _ _ => False) s₃
            else ∃ m, m < n ∧ I m s₃) (fun _ _ => False) s₂) (fun _ _ => False) s₁) (fun _ _ => False) s₁) (fun _ _ => False) s)
    (n : Nat) (h : I n s) :
    codeAny (model prog w) A (.compLoop (.ListComp elt [⟨target, iter, ifs, 0⟩] scope pos) 0 it acc env) R s := by
  refine codeAny_loop rfl I (fun n s hI => ?_) n h
  show wpAny _ A ((compTurn (.ListComp elt [⟨target, iter, ifs, 0⟩] scope pos) 0 it acc env).onRaise (fun x => do noteFrame x env; theTreesLotGoes x)) _ _ s
  refine wpAny_noted ?_
  rw [compTurn_list]
  refine wpAny_bind (wpAny_standAt (wpAny_bind (wpAny_mono (turn n s hI) (fun r s₁ h₁ => ?_) fun _ _ f => f.elim)))
  cases r with
  | none => exact wpAny_pure h₁
  | some v =>
    refine wpAny_bind (wpAny_mono h₁ (fun _ s₂ h₂ => ?_) fun _ _ f => f.elim)
    refine wpAny_bind (wpAny_mono h₂ (fun _ s₂ h₂ => wpAny_bind (wpAny_mono h₂ (fun ok s₃ h₃ => ?_) fun _ _ f => f.elim)) fun _ _ f => f.elim)
    cases ok with
    | false => exact wpAny_pure ⟨rfl, h₃⟩
    | true =>
      exact wpAny_bind (wpAny_bind (wpAny_mono h₃ (fun x s₄ h₄ => wpAny_bind (wpAny_mono h₄ (fun _ s₅ h₅ => wpAny_pure (wpAny_pure ⟨rfl, h₅⟩)) fun _ _ f => f.elim)) fun _ _ f => f.elim))

/-- what a comprehension asks: W by the turn, a measure and the items so far -/
def cRun (k : Nat) (ix : List Nat) (g : TG) (tt : TT) (te : TE) (σ : St) (J : It) (H1 : Hp) (Q : List V → Hp → Prop) : Prop :=
  ∃ W : Nat → Nat → List V → Hp → Prop, (∃ m, W 0 m [] H1) ∧ ∀ i m ys H, W i m ys H → ys.length < sizeLine ∧
    ((J.stop i H ∧ Q ys H) ∨ (J.go i H ∧ ∃ N : List V → Hp → Prop, (∀ ys' H', N ys' H' → ∃ m', m' < m ∧ W (i + 1) m' ys' H') ∧ ∀ x H', J.yld i H x H' → g x (cS k ix σ) H' fun σ2 H2 => σ2.drop k = (cS k ix σ).drop k ∧ tt σ2 H2 fun b H3 =>
      if b = true then te σ2 H3 fun y H4 => N (ys ++ [y]) H4 else N ys H3))
def tComp (k : Nat) (ix : List Nat) (wi : TI) (g : TG) (tt : TT) (te : TE) : TE := fun σ H Q =>
  wi σ H fun J H1 => cRun k ix g tt te σ J H1 fun ys H2 => ∀ p, H2 p = none → Q (.ref p) (upd H2 p (.lst ys))

abbrev lobj (ys : List Value) (n : Nat) : Obj := { cls := .type "list", data := .seq ys.toArray n }

section
variable {X : Cx} {pins : List (Addr × Obj)} {σ : St} {H : Hp} {s2 : Shared}
theorem comp_core {elt tg iter : Expr} {ifs : List Expr} {scope : Scope} {pos : Pos} {N' : List Str} {k : Nat} {ix : List Nat} {g : TG} {tt : TT} {te : TE} {cl : List (Str × Addr)} {it : Addr} {fp : List Addr} {tn : Nat → Heap → Prop} {J : It}
    {Q : List V → Hp → Prop} {RR : Value → Addr → Result → Shared → Prop} {E : Value → Shared → Prop} (hcalm : X.calm = true)
    (S : CSc X.env.scope X.N scope N' k ix)
    (hg : ∀ cl C s2 H2 fp, PG (X.comp N' scope cl C s2 H2 fp) tg g) (ht : ∀ cl C s2 H2 fp, PF (X.comp N' scope cl C s2 H2 fp) ifs tt) (he : ∀ cl C s2 H2 fp, PE (X.comp N' scope cl C s2 H2 fp) elt te)
    (I2 : Inv X pins σ H s2) (T : Turn X.prog X.w X.K tg J fp it tn) (st2 : tn 0 s2.heap) (f2 : ∀ b ∈ fp, FpOk X pins H b) (hR : cRun k ix g tt te σ J H Q)
    (hcl1 : ∀ x c, cl.lookup x = some c → X.env.cells.lookup x = some c) (hcl2 : ∀ x, (x, NameKind.free) ∈ scope.names → ∃ c, cl.lookup x = some c)
    (fin : ∀ (D C : Addr) (ys : List V) (H5 : Hp) (s5 : Shared) (m : Str → Option Value), Inv X pins σ (upd H5 D (.lst ys)) s5 → Q ys H5 → H5 D = none → s5.heap.Ns C m → C ≠ D → s2.heap.objs.size ≤ C → upd H5 D (.lst ys) C = none →
      RR (.ref D) C (.ok .next) s5) :
    wpAny (model X.prog X.w) X.A (newList []) (fun acc s₃ => wpAny (model X.prog X.w) X.A (newFunctionEnv scope X.env.globals cl [] X.env.qual none .none (some X.env)) (fun cenv s₄ =>
      codeAny (model X.prog X.w) X.A (.compStart (.ListComp elt [⟨tg, iter, ifs, 0⟩] scope pos) 0 (.ref it) acc { cenv with scope := relabel scope X.env }) (RR acc cenv.locals) s₄) E s₃) E s2 := by
  refine wpAny_newObj_type (wpAny_newFunctionEnv S.nocell (by intro y hy; simp at hy) (fun h₁ hns₁ hsb₁ => ?_) S.kind)
  dsimp only at hns₁ hsb₁ ⊢
  generalize hH2 : s2.heap.push { cls := .type "list", dict := none, data := .seq ([] : List Value).toArray } = G2 at hns₁ hsb₁ ⊢
  have hC : G2.objs.size = s2.heap.objs.size + 1 := by rw [← hH2, Heap.size_push]
  have hDC : s2.heap.objs.size ≠ G2.objs.size := by rw [hC]; exact Nat.ne_of_lt (Nat.lt_succ_self _)
  have hCle : s2.heap.objs.size ≤ G2.objs.size := by rw [hC]; exact Nat.le_succ _
  have below : ∀ b, b < s2.heap.objs.size → b ≠ G2.objs.size ∧ b ≠ s2.heap.objs.size := fun b hb => ⟨by rw [hC]; exact Nat.ne_of_lt (Nat.lt_succ_of_lt hb), Nat.ne_of_lt hb⟩
  have old : ∀ b o, s2.heap.get? b = some o → h₁.get? b = some o := fun b o e => hsb₁.extBut b o (below b (Heap.lt_size e)).1 (Heap.get?_push_of_some _ (hH2 ▸ Heap.get?_push_of_some _ e))
  have hacc : h₁.get? s2.heap.objs.size = some (lobj [] 0) := hsb₁.extBut _ _ hDC (Heap.get?_push_of_some _ (hH2 ▸ Heap.get?_push_size _ rfl))
  have st1 : tn 0 h₁ := T.keep _ _ _ st2 fun b _ o e => old b o e
  have hfo : ∀ b ∈ fp, ∃ o, s2.heap.get? b = some o := fun b hb => let ⟨o, e, _⟩ := T.obj _ _ st2 b hb; ⟨o, e⟩
  have Ic : Inv (X.comp N' scope cl G2.objs.size s2 H fp) [] (cS k ix σ) H { s2 with heap := h₁, toks := s2.toks + ([] : List (Str × Value)).length } :=
    I2.child S f2 hfo hcl1 hcl2 hCle old hns₁ rfl I2.bare
  -- the accumulator D, as a pin
  have dfs : s2.heap.objs.size ∉ (X.comp N' scope cl G2.objs.size s2 H fp).fs := fun hz => by
    rcases List.mem_cons.mp (I2.stkSub _ hz) with z | z
    · exact absurd I2.lt (by rw [← z]; exact Nat.lt_irrefl _)
    · exact I2.nofs (Nat.le_refl _) z
  have dcell : ∀ x c, cl.lookup x = some c → c ≠ s2.heap.objs.size := fun x c e => by
    obtain ⟨v, ob, hob, _⟩ := I2.cell x c (hcl1 x c e)
    exact Nat.ne_of_lt (Heap.lt_size hob)
  have dpin : ∀ (ys : List Value) (n : Nat) (σ' : St) (H' : Hp) (s' : Shared), Inv (X.comp N' scope cl G2.objs.size s2 H fp) [] σ' H' s' → s'.heap.get? s2.heap.objs.size = some (lobj ys n) → H' s2.heap.objs.size = none →
      Inv (X.comp N' scope cl G2.objs.size s2 H fp) [(s2.heap.objs.size, lobj ys n)] σ' H' s' := fun ys n σ' H' s' I' e hn => I'.pins_of fun p hp => by
    have e' : p = (s2.heap.objs.size, lobj ys n) := by simpa using hp
    subst e'
    exact ⟨e, hn, hDC, dfs, fun v z => by cases z⟩
  have fpc : ∀ (ys : List Value) (n : Nat) (H' : Hp), (∀ b ∈ fp, H' b = none) → ∀ b ∈ fp, FpOk (X.comp N' scope cl G2.objs.size s2 H fp) [(s2.heap.objs.size, lobj ys n)] H' b := fun ys n H' hn b hb => by
    obtain ⟨f0, f1, f2', f3, f4, f5⟩ := f2 b hb
    obtain ⟨o, e⟩ := hfo b hb
    have hb2 := below b (Heap.lt_size e)
    refine ⟨hn b hb, hb2.1, fun hz => ?_, .inl hb, fun x c z => f4 x c (hcl1 x c z), fun p hp => ?_⟩
    · rcases List.mem_cons.mp (I2.stkSub b hz) with z | z
      · exact f1 z
      · exact f2' z
    · have e' : p = (s2.heap.objs.size, lobj ys n) := by simpa using hp
      subst e'
      exact Ne.symm hb2.2
  obtain ⟨W, ⟨m0, w0⟩, turn⟩ := hR
  have loop : codeAny (model X.prog X.w) X.A (.compLoop (.ListComp elt [⟨tg, iter, ifs, 0⟩] scope pos) 0 (.ref it) (.ref s2.heap.objs.size) (compEnvC scope cl G2.objs.size X.env)) (RR (.ref s2.heap.objs.size) G2.objs.size)
      { s2 with heap := h₁, toks := s2.toks + ([] : List (Str × Value)).length } := by
    refine compLoop_go (fun n s' => ∃ i ys its c H', Inv (X.comp N' scope cl G2.objs.size s2 H fp) [(s2.heap.objs.size, lobj its c)] (cS k ix σ) H' s' ∧ Vals ys its ∧ tn i s'.heap ∧ (∀ b ∈ fp, H' b = none) ∧ W i n ys H') ?_ m0
      ⟨0, [], [], 0, H, dpin _ _ _ _ _ Ic hacc (I2.hok.fresh (Nat.le_refl _)), .nil, st1, fun b hb => (f2 b hb).1, w0⟩
    rintro n s3 ⟨i, ys, its, c, H3, I3, rv, st3, fr3, w3⟩
    obtain ⟨hlen, hw⟩ := turn i n ys H3 w3
    have hDn : H3 s2.heap.objs.size = none := (I3.pin (s2.heap.objs.size, lobj its c) (by simp)).2.1
    have hDe : s3.heap.get? s2.heap.objs.size = some (lobj its c) := (I3.pin (s2.heap.objs.size, lobj its c) (by simp)).1
    rcases hw with ⟨stop, q⟩ | ⟨go, N, hN, step⟩
    · refine thn (T.done (X.comp N' scope cl G2.objs.size s2 H fp) rfl rfl rfl hcalm i _ s3 _ H3 _ I3 (fpc _ _ _ fr3) st3 stop) fun r s4 ⟨hr, I4⟩ => ?_
      subst hr
      have hDe4 : s4.heap.get? s2.heap.objs.size = some (lobj its c) := (I4.pin (s2.heap.objs.size, lobj its c) (by simp)).1
      have Ib : Inv X pins σ H3 s4 := I2.back f2 I4
      have hz : ys.length ≤ sizeLine := Nat.le_of_lt hlen
      obtain ⟨m', hn', _⟩ := I4.loc
      have It : Inv X pins σ (upd H3 s2.heap.objs.size (.lst ys)) s4 := Ib.track I2.sz hDn (Ne.symm (Nat.ne_of_lt I2.lt)) (fun x c e => by
        obtain ⟨v, ob, hob, _⟩ := I2.cell x c e
        exact Nat.ne_of_lt (Heap.lt_size hob)) (fun p hp => Nat.ne_of_lt (Heap.lt_size (I2.pin p hp).1)) ⟨hz, its, c, rv, hDe4⟩
      exact fin _ _ ys H3 s4 m' It q hDn hn' (Ne.symm hDC) hCle (by rw [upd_ne (Ne.symm hDC)]; exact I4.free)
    · refine thn (T.item (X.comp N' scope cl G2.objs.size s2 H fp) rfl rfl rfl hcalm i _ s3 _ H3 _ I3 (fpc _ _ _ fr3) st3 go) fun r s4 ⟨u, hr, h4⟩ => ?_
      subst hr
      refine thn h4 fun _ s5 ⟨x, H5, I5, r5, y5, st5, fr5⟩ => ?_
      have I5' := I5.pinned (fpc its c H5 fr5) (T.obj _ _ st5)
      refine thn (hg _ _ _ _ _ _ s5 _ H5 x u _ I5' r5 (step x H5 y5)) fun _ s6 ⟨σ6, H6, I6, hσ, q6⟩ => ?_
      refine thn (ht _ _ _ _ _ _ s6 σ6 H6 _ I6 q6) fun ok s7 ⟨H7, I7, q7⟩ => ?_
      have wk : ∀ {pl : List (Addr × Obj)} {H' : Hp} {s' : Shared}, Inv (X.comp N' scope cl G2.objs.size s2 H fp) pl σ6 H' s' → Inv (X.comp N' scope cl G2.objs.size s2 H fp) pl (cS k ix σ) H' s' := fun {pl H' s'} I' =>
        I'.weak (by rw [Ic.len, I'.len]) fun j v ev => by
          by_cases hj : j < k
          · unfold cS at ev
            rw [List.getElem?_append_left (by simpa using hj), List.getElem?_replicate, if_pos hj] at ev
            cases ev
          · obtain ⟨j', rfl⟩ : ∃ j', j = k + j' := ⟨j - k, by omega⟩
            rw [← List.getElem?_drop, hσ, List.getElem?_drop]
            exact ev
      have itk : ∀ {σ' : St} {H' : Hp} {s' : Shared}, Inv (X.comp N' scope cl G2.objs.size s2 H fp) ([(s2.heap.objs.size, lobj its c)] ++ pinsAt fp s5.heap) σ' H' s' → tn (i + 1) s'.heap ∧ ∀ b ∈ fp, H' b = none := fun {σ' H' s'} I' =>
        ⟨T.keep _ _ _ st5 fun b hb o e => (I'.pin (b, o) (List.mem_append_right _ (List.mem_append_right _ (mem_pinsAt hb e)))).1, fun b hb => by
          obtain ⟨o, e, _⟩ := T.obj _ _ st5 b hb
          exact (I'.pin (b, o) (List.mem_append_right _ (List.mem_append_right _ (mem_pinsAt hb e)))).2.1⟩
      cases ok with
      | false =>
        rw [if_neg (by decide)] at q7 ⊢
        obtain ⟨m', hm, w7⟩ := hN _ _ q7
        obtain ⟨t7, f7⟩ := itk I7
        exact ⟨m', hm, i + 1, ys, its, c, H7, wk I7.unpinned, rv, t7, f7, w7⟩
      | true =>
        rw [if_pos rfl] at q7 ⊢
        refine thn (he _ _ _ _ _ _ s7 σ6 H7 _ I7 q7) fun yv s8 ⟨y, H8, I8, r8, n8q⟩ => ?_
        obtain ⟨m', hm, w8⟩ := hN _ _ n8q
        obtain ⟨t8, f8⟩ := itk I8
        have I8' : Inv (X.comp N' scope cl G2.objs.size s2 H fp) [(s2.heap.objs.size, lobj its c)] σ6 H8 s8 := I8.unpinned
        have e8 : s8.heap.get? s2.heap.objs.size = some (lobj its c) := (I8'.pin (s2.heap.objs.size, lobj its c) (by simp)).1
        have n8 : H8 s2.heap.objs.size = none := (I8'.pin (s2.heap.objs.size, lobj its c) (by simp)).2.1
        refine call_meets F.slot_list_append ⟨_, e8, rfl⟩ F.entry_list_append (F.args_list_append_2 _ _) (PySem.list_append s2.heap.objs.size its.toArray c yv (by
          have := rv.length
          rw [List.size_toArray]; omega)) ⟨e8, ?_⟩
        have q9 := PySem.IsL.update e8 (·.push yv)
        rw [show its.toArray.push yv = (its ++ [yv]).toArray by simp] at q9
        have I8n : Inv (X.comp N' scope cl G2.objs.size s2 H fp) [] σ6 H8 s8 := I8'.pins_of fun p hp => by cases hp
        have I9 : Inv (X.comp N' scope cl G2.objs.size s2 H fp) [] σ6 H8 { s8 with heap := s8.heap.update s2.heap.objs.size (Obj.mapSeq (·.push yv)) } :=
          I8n.turned (t' := s8.toks) (fun b o hb e => (Heap.get?_update_other s8.heap _ (Ne.symm hb)).trans e) n8 hDC (.inr (Nat.le_refl _)) (fun x c e => dcell x c e) (fun p hp => by cases hp)
        refine ⟨m', hm, i + 1, ys ++ [y], its ++ [yv], _, H8, wk (dpin _ _ _ _ _ I9 q9 n8), rv.append (.cons r8 .nil), ?_, f8, w8⟩
        exact T.keep _ _ _ t8 fun b hb o e => (Heap.get?_update_other s8.heap _ (by
          obtain ⟨o', e'⟩ := hfo b hb
          exact Ne.symm (below b (Heap.lt_size e')).2)).trans e
  exact codeAny_compStart_list loop (T.self X.A 0 _ _ _ st1 loop)

theorem comp_cells {X : Cx} {pins : List (Addr × Obj)} {σ : St} {H : Hp} {s : Shared} {scope : Scope} {N' : List Str} {k : Nat} {ix : List Nat} (I : Inv X pins σ H s) (S : CSc X.env.scope X.N scope N' k ix) :
    ∃ cl, closureFor scope X.env = pure cl ∧ (∀ x c, cl.lookup x = some c → X.env.cells.lookup x = some c) ∧ (∀ x, (x, NameKind.free) ∈ scope.names → ∃ c, cl.lookup x = some c) :=
  closure_of fun y hy e => by
    rcases S.fre y hy e with z | z
    · exact I.ok.has _ (.inl z)
    · exact I.ok.has _ (.inr z)
theorem Inv.letgo {H5 : Hp} {s5 : Shared} {σ5 : St} {C : Addr} {h' : Heap} (I2 : Inv X pins σ H s2) (I5 : Inv X pins σ5 H5 s5) (hCs : s2.heap.objs.size ≤ C) (hCn : H5 C = none) (hs : Heap.SameBut C s5.heap h') : Inv X pins σ5 H5 { s5 with heap := h' } :=
  I5.turned (t' := s5.toks) (it := C) (fun b o hb e => (hs.2 b hb).trans e) hCn (Ne.symm (Nat.ne_of_lt (Nat.lt_of_lt_of_le I2.lt hCs))) (.inr (Nat.le_trans I2.sz hCs))
    (fun x c e => by
      obtain ⟨v, ob, hob, _⟩ := I2.cell x c e
      exact Nat.ne_of_lt (Nat.lt_of_lt_of_le (Heap.lt_size hob) hCs))
    (fun p hp => Nat.ne_of_lt (Nat.lt_of_lt_of_le (Heap.lt_size (I2.pin p hp).1) hCs))
end

section
variable {X : Cx} {elt tg iter : Expr} {ifs : List Expr} {scope : Scope} {pos : Pos} {N' : List Str} {k : Nat} {ix : List Nat} {g : TG} {tt : TT} {te : TE} {wi : TI}
theorem pe_comp (hcalm : X.calm = true) (S : CSc X.env.scope X.N scope N' k ix) (hi : PI X tg iter wi)
    (hg : ∀ cl C s2 H2 fp, PG (X.comp N' scope cl C s2 H2 fp) tg g) (ht : ∀ cl C s2 H2 fp, PF (X.comp N' scope cl C s2 H2 fp) ifs tt) (he : ∀ cl C s2 H2 fp, PE (X.comp N' scope cl C s2 H2 fp) elt te)
    (hs : ∀ x, foldedSetIterable iter X.env x = pure x := by intro _; rfl) : PE X (.ListComp elt [⟨tg, iter, ifs, 0⟩] scope pos) (tComp k ix wi g tt te) := by
  intro pins s σ H Q I h
  obtain ⟨cl, ecl, hcl1, hcl2⟩ := comp_cells I S
  rw [eval_ListComp]
  refine wpAny_comprehension_free (use := none) rfl hs ecl S.kind S.loc (thn (hi pins s σ H _ I h) fun v s1 h1 => thn h1 fun itv s2 h2 => ?_)
  obtain ⟨it, fp, tn, J, H2, e, I2, T, st2, f2, hR⟩ := h2
  subst e
  refine comp_core (RR := fun acc C => compPost (model X.prog X.w) X.A X.xe none (EP X pins σ Q) acc C) hcalm S hg ht he I2 T st2 f2 hR hcl1 hcl2 ?_
  intro D C ys H5 s5 m I5 q hD hn hCD hCs hCn
  exact ⟨m, hn, fun h' hs' => ⟨.ref D, upd H5 D (.lst ys), I2.letgo I5 hCs hCn hs', rfl, q D hD⟩⟩
/-- x = [..] on one row, x a plain local: the store comes ahead of the block's end -/
theorem ps_setC {i : Nat} {x : Str} {pos' spos : Pos} (hN : X.N.Nodup) (hi' : X.N[i]? = some x) (hx : Loc X.env.scope x) (hcalm : X.calm = true) (S : CSc X.env.scope X.N scope N' k ix) (hi : PI X tg iter wi)
    (hg : ∀ cl C s2 H2 fp, PG (X.comp N' scope cl C s2 H2 fp) tg g) (ht : ∀ cl C s2 H2 fp, PF (X.comp N' scope cl C s2 H2 fp) ifs tt) (he : ∀ cl C s2 H2 fp, PE (X.comp N' scope cl C s2 H2 fp) elt te)
    (hsw : swapsWith (.ListComp elt [⟨tg, iter, ifs, 0⟩] scope pos) (some (.Name x pos')) spos.line X.env = pure true)
    (hs : ∀ x, foldedSetIterable iter X.env x = pure x := by intro _; rfl) (hf : X.fn x = true ∨ X.env.scope.names.lookup x = some .local := by first | exact .inl rfl | exact .inr rfl | assumption) :
    PS X (.Assign [.Name x pos'] (.ListComp elt [⟨tg, iter, ifs, 0⟩] scope pos) spos) (tAsg (tComp k ix wi g tt te) (gName i)) := by
  intro pins s σ H D' I h
  obtain ⟨cl, ecl, hcl1, hcl2⟩ := comp_cells I S
  rw [exec_Assign_Name_used _ _ _ _ hsw]
  refine wpAny_bind (wpAny_standAt (wpAny_bind ?_))
  show wpAny _ X.A (do let _ ← comprehension (.ListComp elt [⟨tg, iter, ifs, 0⟩] scope pos) scope X.env _ (newList []) false (eval iter X.env) (some (assign (.Name x pos') X.env))) _ _ s
  refine wpAny_bind (wpAny_mono (wpAny_comprehension_free (use := some (assign (.Name x pos') X.env)) (Q := fun _ s' => SP X pins D' .next s') rfl hs ecl S.kind S.loc
    (thn (hi pins s σ H _ I h) fun v s1 h1 => thn h1 fun itv s2 h2 => ?_)) (fun _ s' hq => wpAny_pure (wpAny_pure hq)) fun _ _ e => e)
  obtain ⟨it, fp, tn, J, H2, e, I2, T, st2, f2, hR⟩ := h2
  subst e
  refine comp_core (RR := fun acc C => compPost (model X.prog X.w) X.A X.xe (some (assign (.Name x pos') X.env)) (fun _ s' => SP X pins D' .next s') acc C) hcalm S hg ht he I2 T st2 f2 hR hcl1 hcl2 ?_
  intro D C ys H5 s5 m I5 q hD hn hCD hCs hCn
  show wpAny _ X.A (assign (.Name x pos') X.env (.ref D)) _ _ s5
  refine wpAny_assign_Name (store_ok2 (v := .ref D) I5 hN hi' hx rfl (fun s' I' ⟨a, sb, ha⟩ => ?_) hf)
  have hCa : C ≠ a := by
    rcases ha with rfl | ha
    · exact Ne.symm (Nat.ne_of_lt (Nat.lt_of_lt_of_le I2.lt hCs))
    · obtain ⟨v, ob, hob, _⟩ := I2.cell x a ha
      exact Ne.symm (Nat.ne_of_lt (Nat.lt_of_lt_of_le (Heap.lt_size hob) hCs))
  exact ⟨m, hn.sameBut sb hCa, fun h' hs' => ⟨_, _, I2.letgo I' hCs hCn hs', q D hD⟩⟩
end

/-! ### the forms one uses -/
theorem comp_range {k : Nat} {ix : List Nat} {g : TG} {tt : TT} {te : TE} {σ : St} {lo : Int} {n : Nat} {H : Hp} {Q : List V → Hp → Prop} (Pv : Nat → List V → Hp → Prop) (h0 : Pv 0 [] H) (hl : ∀ i ys H, i ≤ n → Pv i ys H → ys.length < sizeLine)
    (hs : ∀ i ys H, i < n → Pv i ys H → g (.int (lo + i)) (cS k ix σ) H fun σ2 H2 => σ2.drop k = (cS k ix σ).drop k ∧ tt σ2 H2 fun b H3 => if b = true then te σ2 H3 fun y H4 => Pv (i + 1) (ys ++ [y]) H4 else Pv (i + 1) ys H3)
    (hd : ∀ ys H, Pv n ys H → Q ys H) : cRun k ix g tt te σ (Itr lo n) H Q := by
  refine ⟨fun i m ys H => m = n - i ∧ i ≤ n ∧ Pv i ys H, ⟨n, by simp, Nat.zero_le _, h0⟩, ?_⟩
  rintro i m ys H ⟨rfl, hi, p⟩
  refine ⟨hl i ys H hi p, ?_⟩
  by_cases hlt : i < n
  · refine .inr ⟨hlt, Pv (i + 1), fun ys' H' p' => ⟨n - (i + 1), by omega, rfl, hlt, p'⟩, fun x H' y => ?_⟩
    obtain ⟨e, y⟩ := y
    subst e y
    exact hs i ys _ hlt p
  · have e : i = n := by omega
    subst e
    exact .inl ⟨Nat.le_refl _, hd ys H p⟩
theorem comp_list {K : PySem.W.Frag} {a : Addr} {xs : List V} {k : Nat} {ix : List Nat} {g : TG} {tt : TT} {te : TE} {σ : St} {H : Hp} {Q : List V → Hp → Prop} (Pv : Nat → List V → Hp → Prop) (h0 : Pv 0 [] H) (hl : ∀ i ys H, i ≤ xs.length → Pv i ys H → ys.length < sizeLine ∧ SqL K H a xs)
    (hs : ∀ i x ys H, xs[i]? = some x → Pv i ys H → g x (cS k ix σ) H fun σ2 H2 => σ2.drop k = (cS k ix σ).drop k ∧ tt σ2 H2 fun b H3 => if b = true then te σ2 H3 fun y H4 => Pv (i + 1) (ys ++ [y]) H4 else Pv (i + 1) ys H3)
    (hd : ∀ ys H, Pv xs.length ys H → Q ys H) : cRun k ix g tt te σ (Itl K a) H Q := by
  refine ⟨fun i m ys H => m = xs.length - i ∧ i ≤ xs.length ∧ Pv i ys H, ⟨xs.length, by simp, Nat.zero_le _, h0⟩, ?_⟩
  rintro i m ys H ⟨rfl, hi, p⟩
  obtain ⟨q1, q⟩ := hl i ys H hi p
  refine ⟨q1, ?_⟩
  by_cases hlt : i < xs.length
  · refine .inr ⟨⟨xs, xs[i], q, by simp [hlt]⟩, Pv (i + 1), fun ys' H' p' => ⟨xs.length - (i + 1), by omega, rfl, hlt, p'⟩, fun x H' y => ?_⟩
    obtain ⟨e, y⟩ := y
    subst e
    exact hs i x ys _ (y xs q) p
  · have e : i = xs.length := by omega
    subst e
    exact .inl ⟨⟨xs, q, Nat.le_refl _⟩, hd ys H p⟩
theorem comp_tup {K : PySem.W.Frag} {a : Addr} {xs : List V} {k : Nat} {ix : List Nat} {g : TG} {tt : TT} {te : TE} {σ : St} {H : Hp} {Q : List V → Hp → Prop} (Pv : Nat → List V → Hp → Prop) (h0 : Pv 0 [] H) (hl : ∀ i ys H, i ≤ xs.length → Pv i ys H → ys.length < sizeLine ∧ SqT K H a xs)
    (hs : ∀ i x ys H, xs[i]? = some x → Pv i ys H → g x (cS k ix σ) H fun σ2 H2 => σ2.drop k = (cS k ix σ).drop k ∧ tt σ2 H2 fun b H3 => if b = true then te σ2 H3 fun y H4 => Pv (i + 1) (ys ++ [y]) H4 else Pv (i + 1) ys H3)
    (hd : ∀ ys H, Pv xs.length ys H → Q ys H) : cRun k ix g tt te σ (Itt K a) H Q := by
  refine ⟨fun i m ys H => m = xs.length - i ∧ i ≤ xs.length ∧ Pv i ys H, ⟨xs.length, by simp, Nat.zero_le _, h0⟩, ?_⟩
  rintro i m ys H ⟨rfl, hi, p⟩
  obtain ⟨q1, q⟩ := hl i ys H hi p
  refine ⟨q1, ?_⟩
  by_cases hlt : i < xs.length
  · refine .inr ⟨⟨xs, xs[i], q, by simp [hlt]⟩, Pv (i + 1), fun ys' H' p' => ⟨xs.length - (i + 1), by omega, rfl, hlt, p'⟩, fun x H' y => ?_⟩
    obtain ⟨e, y⟩ := y
    subst e
    exact hs i x ys _ (y xs q) p
  · have e : i = xs.length := by omega
    subst e
    exact .inl ⟨⟨xs, q, Nat.le_refl _⟩, hd ys H p⟩
end L2

set_option Elab.async false
set_option linter.all false
set_option maxRecDepth 100000
/-! Plain data over the abstract heap, and expressions that only make such data. -/
namespace L2
open PySem PySem.Spec PyProof.Rows

mutual
/-- the value v stands for the data d; no list of it lies in M -/
inductive Rep (M : Addr → Prop) (H : Hp) : V → PyData → Prop
  | none : Rep M H .non .none
  | bool (b : Bool) : Rep M H (.bl b) (.bool b)
  | int (i : Int) : Rep M H (.int i) (.int i)
  | str (x : Str) : Rep M H (.str x) (.str x)
  | list {a : Addr} {vs : List V} {ds : List PyData} : H a = some (.lst vs) → ¬ M a → RepL M H vs ds → Rep M H (.ref a) (.list ds)
  | tuple {a : Addr} {vs : List V} {ds : List PyData} : H a = some (.tup vs) → RepL M H vs ds → Rep M H (.ref a) (.tuple ds)
inductive RepL (M : Addr → Prop) (H : Hp) : List V → List PyData → Prop
  | nil : RepL M H [] []
  | cons {v : V} {vs : List V} {d : PyData} {ds : List PyData} : Rep M H v d → RepL M H vs ds → RepL M H (v :: vs) (d :: ds)
end

/-- what lies outside M is as it was -/
def SameM (M : Addr → Prop) (H H' : Hp) : Prop := ∀ b o, ¬ M b → H b = some o → H' b = some o
/-- a tuple never changes: it need not lie outside M -/
def TupM (H H' : Hp) : Prop := ∀ b xs, H b = some (.tup xs) → H' b = some (.tup xs)
structure Grow (M : Addr → Prop) (H H' : Hp) : Prop where
  same : SameM M H H'
  tups : TupM H H'
  stay : ∀ b, H b ≠ none → H' b ≠ none
theorem Same.grow {M : Addr → Prop} {H H' : Hp} (s : Same H H') : Grow M H H' :=
  ⟨fun b o _ e => s b o e, fun b xs e => s b _ e, fun b h => by
    cases q : H b with
    | none => exact absurd q h
    | some o => rw [s b o q]; exact fun z => nomatch z⟩
theorem Grow.refl (M : Addr → Prop) (H : Hp) : Grow M H H := (Same.refl H).grow
theorem Grow.trans {M : Addr → Prop} {H H1 H2 : Hp} (a : Grow M H H1) (b : Grow M H1 H2) : Grow M H H2 :=
  ⟨fun c o n e => b.same c o n (a.same c o n e), fun c xs e => b.tups c xs (a.tups c xs e), fun c h => b.stay c (a.stay c h)⟩
theorem Grow.mono {M M' : Addr → Prop} {H H' : Hp} (a : Grow M H H') (h : ∀ b, M b → M' b) : Grow M' H H' := ⟨fun c o n e => a.same c o (fun z => n (h c z)) e, a.tups, a.stay⟩

mutual
theorem Rep.grow {M : Addr → Prop} {H H' : Hp} (g : Grow M H H') : ∀ {v : V} {d : PyData}, Rep M H v d → Rep M H' v d
  | _, _, .none => .none
  | _, _, .bool b => .bool b
  | _, _, .int i => .int i
  | _, _, .str x => .str x
  | _, _, .list e n r => .list (g.same _ _ n e) n (RepL.grow g r)
  | _, _, .tuple e r => .tuple (g.tups _ _ e) (RepL.grow g r)
theorem RepL.grow {M : Addr → Prop} {H H' : Hp} (g : Grow M H H') : ∀ {vs : List V} {ds : List PyData}, RepL M H vs ds → RepL M H' vs ds
  | _, _, .nil => .nil
  | _, _, .cons r t => .cons (Rep.grow g r) (RepL.grow g t)
end
mutual
/-- fewer addresses may change; or one more that is not there -/
theorem Rep.less {M M' : Addr → Prop} {H : Hp} (g : ∀ b, M' b → H b ≠ none → M b) : ∀ {v : V} {d : PyData}, Rep M H v d → Rep M' H v d
  | _, _, .none => .none
  | _, _, .bool b => .bool b
  | _, _, .int i => .int i
  | _, _, .str x => .str x
  | _, _, .list e n r => .list e (fun z => n (g _ z (by rw [e]; exact fun z => nomatch z))) (RepL.less g r)
  | _, _, .tuple e r => .tuple e (RepL.less g r)
theorem RepL.less {M M' : Addr → Prop} {H : Hp} (g : ∀ b, M' b → H b ≠ none → M b) : ∀ {vs : List V} {ds : List PyData}, RepL M H vs ds → RepL M' H vs ds
  | _, _, .nil => .nil
  | _, _, .cons r t => .cons (Rep.less g r) (RepL.less g t)
end
theorem RepL.length {M : Addr → Prop} {H : Hp} : ∀ {vs : List V} {ds : List PyData}, RepL M H vs ds → vs.length = ds.length
  | _, _, .nil => rfl
  | _, _, .cons _ t => by rw [List.length_cons, List.length_cons, RepL.length t]
theorem RepL.append {M : Addr → Prop} {H : Hp} : ∀ {vs ws : List V} {ds es : List PyData}, RepL M H vs ds → RepL M H ws es → RepL M H (vs ++ ws) (ds ++ es)
  | _, _, _, _, .nil, s => s
  | _, _, _, _, .cons r t, s => .cons r (RepL.append t s)
theorem RepL.get {M : Addr → Prop} {H : Hp} : ∀ {vs : List V} {ds : List PyData} {i : Nat} {v : V}, RepL M H vs ds → vs[i]? = some v → ∃ d, ds[i]? = some d ∧ Rep M H v d
  | _, _, _, _, .nil, e => by simp at e
  | _, _, 0, _, .cons r _, e => by simp at e; subst e; exact ⟨_, rfl, r⟩
  | _, _, i + 1, v, .cons _ t, e => by
    obtain ⟨u, h1, h2⟩ := RepL.get (i := i) (v := v) t (by simpa using e)
    exact ⟨u, by simpa using h1, h2⟩
theorem RepL.get' {M : Addr → Prop} {H : Hp} {vs : List V} {ds : List PyData} {i : Nat} {d : PyData} (r : RepL M H vs ds) (e : ds[i]? = some d) : ∃ v, vs[i]? = some v ∧ Rep M H v d := by
  have hl := r.length
  have hi : i < vs.length := by rw [hl]; exact (List.getElem?_eq_some_iff.mp e).1
  obtain ⟨d', e', r'⟩ := r.get (i := i) (v := vs[i]) (by simp [hi])
  rw [e] at e'; cases e'
  exact ⟨vs[i], by simp [hi], r'⟩
theorem RepL.take {M : Addr → Prop} {H : Hp} : ∀ {vs : List V} {ds : List PyData} (n : Nat), RepL M H vs ds → RepL M H (vs.take n) (ds.take n)
  | _, _, 0, _ => .nil
  | _, _, _ + 1, .nil => .nil
  | _, _, n + 1, .cons r t => .cons r (RepL.take n t)
theorem RepL.drop {M : Addr → Prop} {H : Hp} : ∀ {vs : List V} {ds : List PyData} (n : Nat), RepL M H vs ds → RepL M H (vs.drop n) (ds.drop n)
  | _, _, 0, r => r
  | _, _, _ + 1, .nil => .nil
  | _, _, n + 1, .cons _ t => RepL.drop n t
theorem RepL.set {M : Addr → Prop} {H : Hp} {v : V} {d : PyData} (r : Rep M H v d) : ∀ {vs : List V} {ds : List PyData} (i : Nat), RepL M H vs ds → RepL M H (vs.set i v) (ds.set i d)
  | _, _, _, .nil => .nil
  | _, _, 0, .cons _ t => .cons r t
  | _, _, i + 1, .cons q t => .cons q (RepL.set r i t)
theorem RepL.ints {M : Addr → Prop} {H : Hp} : ∀ (ns : List Int), RepL M H (ns.map V.int) (ns.map PyData.int)
  | [] => .nil
  | n :: ns => .cons (.int n) (RepL.ints ns)

mutual
theorem Rep.reads {P : Program} {w : World} {M : Addr → Prop} {H : Hp} {h : Heap} (ok : HOk P w H h) : ∀ {v : V} {d : PyData} {u : Value}, Rep M H v d → RelV v u → ∃ as, Reads h u d as
  | _, _, _, .none, r => by cases (show _ = Value.none from r); exact ⟨_, .none⟩
  | _, _, _, .bool b, r => by cases (show _ = Value.bool b from r); exact ⟨_, .bool b⟩
  | _, _, _, .int i, r => by obtain ⟨t, e⟩ := (show ∃ t, _ = Value.int i t from r); cases e; exact ⟨_, .int i t⟩
  | _, _, _, .str x, r => by obtain ⟨t, e⟩ := (show ∃ t, _ = Value.str x t from r); cases e; exact ⟨_, .str x t⟩
  | _, _, _, .list (a := a) (vs := vs) e n q, r => by
    cases (show _ = Value.ref a from r)
    obtain ⟨_, its, c, rv, ho⟩ := (show ObjOk P w H h a (.lst vs) from ok a _ e)
    obtain ⟨as, z⟩ := RepL.reads ok q rv
    exact ⟨_, .list ho rfl rfl (by simpa using z)⟩
  | _, _, _, .tuple (a := a) (vs := vs) e q, r => by
    cases (show _ = Value.ref a from r)
    obtain ⟨_, its, rv, o, ho, hc, c, hd⟩ := (show ObjOk P w H h a (.tup vs) from ok a _ e)
    obtain ⟨as, z⟩ := RepL.reads ok q rv
    exact ⟨_, .tuple ho hc hd (by simpa using z)⟩
theorem RepL.reads {P : Program} {w : World} {M : Addr → Prop} {H : Hp} {h : Heap} (ok : HOk P w H h) : ∀ {vs : List V} {ds : List PyData} {us : List Value}, RepL M H vs ds → Vals vs us → ∃ as, ReadsAll h us ds as
  | _, _, _, .nil, r => by cases r; exact ⟨_, .nil⟩
  | _, _, _, .cons q t, r => by
    cases r with
    | cons r rs =>
      obtain ⟨as, z⟩ := Rep.reads ok q r
      obtain ⟨bs, y⟩ := RepL.reads ok t rs
      exact ⟨_, .cons z y⟩
end

/-! ### the judgements by themselves -/
section
variable (X : Cx)
def wpE (e : Expr) : TE := fun σ H Q => ∀ (pins : List (Addr × Obj)) (s : Shared), Inv X pins σ H s → wpAny (model X.prog X.w) X.A (eval e X.env) (EP X pins σ Q) X.xe s
def wpT (e : Expr) : TT := fun σ H Q => ∀ (pins : List (Addr × Obj)) (s : Shared), Inv X pins σ H s → wpAny (model X.prog X.w) X.A (isTrue e X.env (eval e X.env)) (TP X pins σ Q) X.xe s
def wpW (e : Expr) : TT := fun σ H Q => ∀ (whole : Sem Value) (pins : List (Addr × Obj)) (s : Shared), Inv X pins σ H s → wpAny (model X.prog X.w) X.A (isTrue e X.env whole) (TP X pins σ Q) X.xe s
def wpA (es : List Expr) : TA := fun σ H Q => ∀ (pos : Pos) (pins : List (Addr × Obj)) (s : Shared), Inv X pins σ H s → wpAny (model X.prog X.w) X.A (spliced (backTo pos (starEach es X.env))) (AP X pins σ Q) X.xe s
def wpS (st : Stmt) : TS := fun D σ H => ∀ (pins : List (Addr × Obj)) (s : Shared), Inv X pins σ H s → wpAny (model X.prog X.w) X.A (exec st X.env) (SP X pins D) X.xe s
def wpB (st : List Stmt) : TS := fun D σ H => ∀ (pins : List (Addr × Obj)) (s : Shared), Inv X pins σ H s → wpAny (model X.prog X.w) X.A (execs st X.env) (SP X pins D) X.xe s
def wpG (tg : Expr) : TG := fun v σ H Q => ∀ (pins : List (Addr × Obj)) (s : Shared) (u : Value), Inv X pins σ H s → RelV v u → wpAny (model X.prog X.w) X.A (assign tg X.env u) (fun _ s' => ∃ σ' H', Inv X pins σ' H' s' ∧ Q σ' H') X.xe s
def wpF (ifs : List Expr) : TT := fun σ H Q => ∀ (pins : List (Addr × Obj)) (s : Shared), Inv X pins σ H s →
  wpAny (model X.prog X.w) X.A (forIn ifs true fun c r => if r = true then do let ok ← isTrue c X.env (eval c X.env); pure (ForInStep.yield ok) else pure (ForInStep.yield r)) (TP X pins σ Q) X.xe s
def wpI (tg iter : Expr) : TI := fun σ H R => ∀ (pins : List (Addr × Obj)) (s : Shared), Inv X pins σ H s →
    wpAny (model X.prog X.w) X.A (eval iter X.env) (fun v s1 => wpAny (model X.prog X.w) X.A (pyIter v) (PIE X pins σ tg R) X.xe s1) X.xe s
end
section
variable {X : Cx} {e : Expr} {es : List Expr} {st : Stmt} {sts : List Stmt} {tg iter : Expr} {σ : St} {H : Hp}
theorem pe_self : PE X e (wpE X e) := fun pins s σ H Q I h => h pins s I
theorem pt_self : PT X e (wpT X e) := fun pins s σ H Q I h => h pins s I
theorem pw_self : PW X e (wpW X e) := fun wh pins s σ H Q I h => h wh pins s I
theorem pa_self : PA X es (wpA X es) := fun pos pins s σ H Q I h => h pos pins s I
theorem ps_self : PS X st (wpS X st) := fun pins s σ H D I h => h pins s I
theorem pss_self : PSs X sts (wpB X sts) := fun pins s σ H D I h => h pins s I
theorem pg_self : PG X tg (wpG X tg) := fun pins s σ H v u Q I r h => h pins s u I r
theorem pf_self {ifs : List Expr} : PF X ifs (wpF X ifs) := fun pins s σ H Q I h => h pins s I
theorem pi_self : PI X tg iter (wpI X tg iter) := fun pins s σ H R I h => h pins s I
theorem PE.wp {t : TE} {Q : VK} (h : PE X e t) (q : t σ H Q) : wpE X e σ H Q := fun pins s I => h pins s σ H Q I q
theorem PT.wp {t : TT} {Q : Bool → Hp → Prop} (h : PT X e t) (q : t σ H Q) : wpT X e σ H Q := fun pins s I => h pins s σ H Q I q
theorem PW.wp {t : TT} {Q : Bool → Hp → Prop} (h : PW X e t) (q : t σ H Q) : wpW X e σ H Q := fun wh pins s I => h wh pins s σ H Q I q
theorem PA.wp {t : TA} {Q : List V → Hp → Prop} (h : PA X es t) (q : t σ H Q) : wpA X es σ H Q := fun pos pins s I => h pos pins s σ H Q I q
theorem PS.wp {t : TS} {D : Ends} (h : PS X st t) (q : t D σ H) : wpS X st D σ H := fun pins s I => h pins s σ H D I q
theorem PSs.wp {t : TS} {D : Ends} (h : PSs X sts t) (q : t D σ H) : wpB X sts D σ H := fun pins s I => h pins s σ H D I q
theorem PG.wp {t : TG} {v : V} {Q : St → Hp → Prop} (h : PG X tg t) (q : t v σ H Q) : wpG X tg v σ H Q := fun pins s u I r => h pins s σ H v u Q I r q
theorem PF.wp {ifs : List Expr} {t : TT} {Q : Bool → Hp → Prop} (h : PF X ifs t) (q : t σ H Q) : wpF X ifs σ H Q := fun pins s I => h pins s σ H Q I q
theorem PI.wp {t : TI} {R : It → Hp → Prop} (h : PI X tg iter t) (q : t σ H R) : wpI X tg iter σ H R := fun pins s I => h pins s σ H R I q
theorem wpE.mono {Q Q' : VK} (h : wpE X e σ H Q) (k : ∀ v H', Q v H' → Q' v H') : wpE X e σ H Q' := fun pins s I => thn (h pins s I) fun u s' ⟨v, H', a, b, c⟩ => ⟨v, H', a, b, k v H' c⟩
theorem wpT.mono {Q Q' : Bool → Hp → Prop} (h : wpT X e σ H Q) (k : ∀ v H', Q v H' → Q' v H') : wpT X e σ H Q' := fun pins s I => thn (h pins s I) fun u s' ⟨H', a, c⟩ => ⟨H', a, k _ H' c⟩
theorem wpA.mono {Q Q' : List V → Hp → Prop} (h : wpA X es σ H Q) (k : ∀ v H', Q v H' → Q' v H') : wpA X es σ H Q' := fun pos pins s I => thn (h pos pins s I) fun u s' ⟨v, H', a, b, c⟩ => ⟨v, H', a, b, k v H' c⟩
end

/-! ### plain evaluation -/
/-- M is laid -/
def Al (M : Addr → Prop) (H : Hp) : Prop := ∀ a, M a → H a ≠ none
theorem Al.grow {M M' : Addr → Prop} {H H' : Hp} (a : Al M H) (g : Grow M' H H') : Al M H' := fun b h => g.stay b (a b h)
theorem Al.new {M : Addr → Prop} {H : Hp} {a : Addr} (h : Al M H) (n : H a = none) : ¬ M a := fun z => h a z n
/-- what is known of a name: the data that it stands for, or its very value -/
inductive Ent where
  | d (x : PyData)
  | v (x : V)
abbrev Ge := List (Option Ent)
structure RS (M : Addr → Prop) (Γ : Ge) (σ : St) (H : Hp) : Prop where
  al : Al M H
  at' : ∀ (i : Nat) (d : PyData), Γ[i]? = some (some (.d d)) → ∃ v, σ[i]? = some (some v) ∧ Rep M H v d
  av : ∀ (i : Nat) (v : V), Γ[i]? = some (some (.v v)) → σ[i]? = some (some v)
theorem RS.grow {M : Addr → Prop} {Γ : Ge} {σ : St} {H H' : Hp} (r : RS M Γ σ H) (g : Grow M H H') : RS M Γ σ H' := ⟨r.al.grow g, fun i d e => let ⟨v, e1, r1⟩ := r.at' i d e; ⟨v, e1, r1.grow g⟩, r.av⟩
theorem RS.nil {M : Addr → Prop} {σ : St} {H : Hp} (h : Al M H) : RS M [] σ H := ⟨h, fun i d e => by simp at e, fun i d e => by simp at e⟩
theorem RS.less {M M' : Addr → Prop} {Γ : Ge} {σ : St} {H : Hp} (r : RS M Γ σ H) (g : ∀ b, M' b → H b ≠ none → M b) (al : Al M' H) : RS M' Γ σ H := ⟨al, fun i d e => let ⟨v, e1, r1⟩ := r.at' i d e; ⟨v, e1, r1.less g⟩, r.av⟩
theorem RS.sub {M : Addr → Prop} {Γ Γ' : Ge} {σ : St} {H : Hp} (r : RS M Γ σ H) (h : ∀ (i : Nat) (z : Ent), Γ'[i]? = some (some z) → Γ[i]? = some (some z)) : RS M Γ' σ H := ⟨r.al, fun i d e => r.at' i d (h i _ e), fun i v e => r.av i v (h i _ e)⟩
/-- the slot i is given the value v, that stands for z -/
def EntOk (M : Addr → Prop) (H : Hp) (v : V) : Ent → Prop
  | .d d => Rep M H v d
  | .v u => v = u
theorem RS.setE {M : Addr → Prop} {Γ : Ge} {σ : St} {H : Hp} {v : V} {z : Ent} {i : Nat} (h : RS M Γ σ H) (r : EntOk M H v z) (hi : i < σ.length) : RS M (Γ.set i (some z)) (σ.set i (some v)) H := ⟨h.al, fun j d' e => by
  by_cases hj : j = i
  · subst hj
    by_cases hl : j < Γ.length
    · rw [List.getElem?_set_self hl] at e
      cases e
      exact ⟨v, by rw [List.getElem?_set_self hi], r⟩
    · rw [List.getElem?_eq_none (by simpa using hl)] at e; cases e
  · rw [List.getElem?_set_ne (Ne.symm hj)] at e ⊢
    exact h.at' j d' e, fun j d' e => by
  by_cases hj : j = i
  · subst hj
    by_cases hl : j < Γ.length
    · rw [List.getElem?_set_self hl] at e
      cases e
      rw [List.getElem?_set_self hi]; exact congrArg (fun x => some (some x)) r
    · rw [List.getElem?_eq_none (by simpa using hl)] at e; cases e
  · rw [List.getElem?_set_ne (Ne.symm hj)] at e ⊢
    exact h.av j d' e⟩
theorem RS.set {M : Addr → Prop} {Γ : Ge} {σ : St} {H : Hp} {v : V} {d : PyData} {i : Nat} (h : RS M Γ σ H) (r : Rep M H v d) (hi : i < σ.length) : RS M (Γ.set i (some (.d d))) (σ.set i (some v)) H := h.setE r hi
theorem RS.setV {M : Addr → Prop} {Γ : Ge} {σ : St} {H : Hp} {v : V} {i : Nat} (h : RS M Γ σ H) (hi : i < σ.length) : RS M (Γ.set i (some (.v v))) (σ.set i (some v)) H := h.setE rfl hi

/-- e makes the data d, and changes nothing -/
def EV (X : Cx) (Γ : Ge) (e : Expr) (d : PyData) : Prop := ∀ (M : Addr → Prop) (σ : St) (H : Hp) (Q : VK), RS M Γ σ H → (∀ v H', Same H H' → Rep M H' v d → Q v H') → wpE X e σ H Q
/-- .. a new list -/
def EN (X : Cx) (Γ : Ge) (e : Expr) (ds : List PyData) : Prop := ∀ (M : Addr → Prop) (σ : St) (H : Hp) (Q : VK), RS M Γ σ H →
  (∀ a vs H', Same H H' → H a = none → H' a = some (.lst vs) → RepL M H' vs ds → Q (.ref a) H') → wpE X e σ H Q
def EA (X : Cx) (Γ : Ge) (es : List Expr) (ds : List PyData) : Prop := ∀ (M : Addr → Prop) (σ : St) (H : Hp) (Q : List V → Hp → Prop), RS M Γ σ H → (∀ vs H', Same H H' → RepL M H' vs ds → Q vs H') → wpA X es σ H Q
def ET (X : Cx) (Γ : Ge) (e : Expr) (b : Bool) : Prop := ∀ (M : Addr → Prop) (σ : St) (H : Hp) (Q : Bool → Hp → Prop), RS M Γ σ H → (∀ H', Same H H' → Q b H') → wpT X e σ H Q
/-- a test whatever its whole is -/
def EW (X : Cx) (Γ : Ge) (e : Expr) (b : Bool) : Prop := ∀ (M : Addr → Prop) (σ : St) (H : Hp) (Q : Bool → Hp → Prop), RS M Γ σ H → (∀ H', Same H H' → Q b H') → wpW X e σ H Q

section
variable {X : Cx} {Γ : Ge} {pos p : Pos} {a b c : Expr} {es : List Expr} {d d1 d2 : PyData} {ds : List PyData}
theorem EN.ev (h : EN X Γ a ds) : EV X Γ a (.list ds) := fun M σ H Q r k => h M σ H Q r fun l vs H' s n e q => k _ H' s (.list e (r.al.new n) q)
theorem EW.et (h : EW X Γ a true) : ET X Γ a true := fun M σ H Q r k pins s I => h M σ H Q r k _ pins s I
theorem EW.et' {x : Bool} (h : EW X Γ a x) : ET X Γ a x := fun M σ H Q r k pins s I => h M σ H Q r k _ pins s I
theorem ev_var (i : Nat) {x : Str} (hN : X.N[i]? = some x := by rfl) (hv : Vis X.env.scope x := by first | exact Or.inl rfl | exact Or.inr (Or.inl rfl) | exact Or.inr (Or.inr rfl)) (hg : Γ[i]? = some (some (.d d)) := by rfl) (hd : (x == ("__debug__" : Str)) = false := by decide)
    (hcd : (x == ("__classdict__" : Str)) = false := by decide) : EV X Γ (.Name x pos) d := fun M σ H Q r k => by
  obtain ⟨v, e, q⟩ := r.at' i d hg
  exact (pe_var hN hv hd hcd).wp ⟨v, e, k v H (Same.refl H) q⟩
theorem ev_int {i j} : EV X Γ (.Constant (.int i) j pos) (.int i) := fun M σ H Q r k => pe_int.wp (k _ H (Same.refl H) (.int i))
theorem ev_bool {x j} : EV X Γ (.Constant (.bool x) j pos) (.bool x) := fun M σ H Q r k => pe_bl.wp (k _ H (Same.refl H) (.bool x))
theorem ev_none {j} : EV X Γ (.Constant .none j pos) .none := fun M σ H Q r k => pe_non.wp (k _ H (Same.refl H) .none)
theorem ev_str {x j} : EV X Γ (.Constant (.str x) j pos) (.str x) := fun M σ H Q r k => pe_str.wp (k _ H (Same.refl H) (.str x))
/-- a number of the top -/
theorem ev_gint {x : Str} {i : Int} (hg : Gl X x) (hm : ∃ t, X.mg x = some (.int i t)) (hd : (x == ("__debug__" : Str)) = false := by decide) : EV X Γ (.Name x pos) (.int i) := fun M σ H Q r k => by
  obtain ⟨t, hm⟩ := hm
  exact (pe_glob (v := .int i) hg hm ⟨t, rfl⟩ hd).wp (k _ H (Same.refl H) (.int i))
theorem ev_gstr {x : Str} {z : Str} (hg : Gl X x) (hm : ∃ t, X.mg x = some (.str z t)) (hd : (x == ("__debug__" : Str)) = false := by decide) : EV X Γ (.Name x pos) (.str z) := fun M σ H Q r k => by
  obtain ⟨t, hm⟩ := hm
  exact (pe_glob (v := .str z) hg hm ⟨t, rfl⟩ hd).wp (k _ H (Same.refl H) (.str z))

theorem ea_nil : EA X Γ [] [] := fun M σ H Q r k => pa_nil.wp (k _ H (Same.refl H) .nil)
theorem ea_cons (ha : EV X Γ a d) (hr : EA X Γ es ds) (hs : starEach (a :: es) X.env = (false, eval a X.env) :: starEach es X.env := by rfl) : EA X Γ (a :: es) (d :: ds) := fun M σ H Q r k =>
  (pa_cons pe_self pa_self hs).wp (ha M σ H _ r fun v H1 s1 q1 => hr M σ H1 _ (r.grow s1.grow) fun vs H2 s2 q2 => k _ H2 (s1.trans s2) (.cons (q1.grow s2.grow) q2))
theorem upd_new {H : Hp} {p : Addr} {o : HO} (n : H p = none) : Same H (upd H p o) := fun b u e => by rw [upd_ne (ne_of_none e n)]; exact e
theorem ev_tuple {x1} (h : EA X Γ es ds) (hz : ds.length ≤ sizeLine := by first | decide | (simp only [List.length_cons, List.length_nil]; decide)) : EV X Γ (.Tuple es x1 pos) (.tuple ds) := fun M σ H Q r k =>
  (pe_tup pa_self).wp (h M σ H _ r fun vs H1 s1 q1 => ⟨by rw [q1.length]; exact hz, fun p n => k _ _ (s1.trans (upd_new n)) (.tuple upd_same (q1.grow (upd_new n).grow))⟩)
theorem en_list (h : EA X Γ es ds) (hz : ds.length ≤ sizeLine := by first | decide | (simp only [List.length_cons, List.length_nil]; decide)) : EN X Γ (.List es pos) ds := fun M σ H Q r k =>
  (pe_lst pa_self).wp (h M σ H _ r fun vs H1 s1 q1 => ⟨by rw [q1.length]; exact hz, fun p n => k p vs _ (s1.trans (upd_new n)) (s1.free n) upd_same (q1.grow (upd_new n).grow)⟩)

/-- an operator by its rule -/
theorem ev_op {op : Operator} {r : R2} (ho : OpR X (binaryOp op) r) (ha : EV X Γ a d1) (hb : EV X Γ b d2)
    (hr : ∀ (M : Addr → Prop) (H : Hp) (v u : V) (Q : VK), Al M H → Rep M H v d1 → Rep M H u d2 → (∀ z H', Same H H' → Rep M H' z d → Q z H') → r v u H Q) : EV X Γ (.BinOp a op b pos) d := fun M σ H Q rs k =>
  (pe_op ho pe_self pe_self).wp (ha M σ H _ rs fun v H1 s1 q1 => hb M σ H1 _ (rs.grow s1.grow) fun u H2 s2 q2 =>
    hr M H2 v u Q ((rs.grow s1.grow).grow s2.grow).al (q1.grow s2.grow) q2 fun z H3 s3 q3 => k z H3 ((s1.trans s2).trans s3) q3)
theorem ev_add {i j : Int} (ha : EV X Γ a (.int i)) (hb : EV X Γ b (.int j)) : EV X Γ (.BinOp a .Add b pos) (.int (i + j)) := ev_op op_add ha hb fun M H v u Q _ q1 q2 k => by
  cases q1; cases q2; exact ⟨_, _, rfl, rfl, k _ H (Same.refl H) (.int _)⟩
theorem ev_sub {i j : Int} (ha : EV X Γ a (.int i)) (hb : EV X Γ b (.int j)) : EV X Γ (.BinOp a .Sub b pos) (.int (i - j)) := ev_op op_sub ha hb fun M H v u Q _ q1 q2 k => by
  cases q1; cases q2; exact ⟨_, _, rfl, rfl, k _ H (Same.refl H) (.int _)⟩
theorem ev_mul {i j : Int} (ha : EV X Γ a (.int i)) (hb : EV X Γ b (.int j)) (hc : CMul i j) : EV X Γ (.BinOp a .Mult b pos) (.int (i * j)) := ev_op op_mul ha hb fun M H v u Q _ q1 q2 k => by
  cases q1; cases q2; exact ⟨_, _, rfl, rfl, hc, k _ H (Same.refl H) (.int _)⟩
theorem ev_mod {i j : Int} (ha : EV X Γ a (.int i)) (hb : EV X Γ b (.int j)) (hc : 0 < j) : EV X Γ (.BinOp a .Mod b pos) (.int (i % j)) := ev_op op_mod ha hb fun M H v u Q _ q1 q2 k => by
  cases q1; cases q2; exact ⟨_, _, rfl, rfl, hc, k _ H (Same.refl H) (.int _)⟩
theorem ev_fdiv {i j : Int} (ha : EV X Γ a (.int i)) (hb : EV X Γ b (.int j)) (hc : CDiv i j) : EV X Γ (.BinOp a .FloorDiv b pos) (.int (i / j)) := ev_op op_fdiv ha hb fun M H v u Q _ q1 q2 k => by
  cases q1; cases q2; exact ⟨_, _, rfl, rfl, hc, k _ H (Same.refl H) (.int _)⟩
theorem ev_pow {i j : Int} (ha : EV X Γ a (.int i)) (hb : EV X Γ b (.int j)) (hc : CPow i j) : EV X Γ (.BinOp a .Pow b pos) (.int (i ^ j.toNat)) := ev_op op_pow ha hb fun M H v u Q _ q1 q2 k => by
  cases q1; cases q2; exact ⟨_, _, rfl, rfl, hc, k _ H (Same.refl H) (.int _)⟩

/-- a comparison by its rule -/
def CmpR (X : Cx) (op : CmpOp) (d1 d2 : PyData) (x : Bool) : Prop := ∃ r : R2, OpR X (compareOp op) r ∧ ∀ (M : Addr → Prop) (H : Hp) (v u : V) (Q : VK), Al M H → Rep M H v d1 → Rep M H u d2 → Q (.bl x) H → r v u H Q
theorem ev_cmp {op : CmpOp} {x : Bool} (h : CmpR X op d1 d2 x) (ha : EV X Γ a d1) (hb : EV X Γ b d2) (hm : behindInMarks op b = false := by first | exact nomark _ | rfl) : EV X Γ (.Compare a [op] [b] pos) (.bool x) := fun M σ H Q rs k => by
  obtain ⟨r, ho, hr⟩ := h
  exact (pe_cmpR ho pe_self pe_self hm).wp (ha M σ H _ rs fun v H1 s1 q1 => hb M σ H1 _ (rs.grow s1.grow) fun u H2 s2 q2 =>
    hr M H2 v u Q ((rs.grow s1.grow).grow s2.grow).al (q1.grow s2.grow) q2 (k _ H2 (s1.trans s2) (.bool x)))
theorem et_cmp {op : CmpOp} {x : Bool} (h : CmpR X op d1 d2 x) (ha : EV X Γ a d1) (hb : EV X Γ b d2) (hm : behindInMarks op b = false := by first | exact nomark _ | rfl) : ET X Γ (.Compare a [op] [b] pos) x := fun M σ H Q rs k => by
  obtain ⟨r, ho, hr⟩ := h
  exact (pt_cmpR ho pe_self pe_self hm).wp (ha M σ H _ rs fun v H1 s1 q1 => hb M σ H1 _ (rs.grow s1.grow) fun u H2 s2 q2 =>
    hr M H2 v u _ ((rs.grow s1.grow).grow s2.grow).al (q1.grow s2.grow) q2 ⟨x, rfl, k H2 (s1.trans s2)⟩)
theorem cr_lt {i j : Int} : CmpR X .Lt (.int i) (.int j) (decide (i < j)) := ⟨_, op_lt, fun M H v u Q _ q1 q2 k => by cases q1; cases q2; exact ⟨_, _, rfl, rfl, k⟩⟩
theorem cr_le {i j : Int} : CmpR X .LtE (.int i) (.int j) (decide (i ≤ j)) := ⟨_, op_le, fun M H v u Q _ q1 q2 k => by cases q1; cases q2; exact ⟨_, _, rfl, rfl, k⟩⟩
theorem cr_gt {i j : Int} : CmpR X .Gt (.int i) (.int j) (decide (j < i)) := ⟨_, op_gt, fun M H v u Q _ q1 q2 k => by cases q1; cases q2; exact ⟨_, _, rfl, rfl, k⟩⟩
theorem cr_ge {i j : Int} : CmpR X .GtE (.int i) (.int j) (decide (j ≤ i)) := ⟨_, op_ge, fun M H v u Q _ q1 q2 k => by cases q1; cases q2; exact ⟨_, _, rfl, rfl, k⟩⟩
/-- a < b <= c of ints -/
theorem ev_chain {op op' : CmpOp} {f g : Int → Int → Bool} {i j k : Int} (ho : OpR X (compareOp op) (rI0 fun i j => .bl (f i j))) (ho' : OpR X (compareOp op') (rI0 fun i j => .bl (g i j))) (ha : EV X Γ a (.int i)) (hb : EV X Γ b (.int j)) (hc : EV X Γ c (.int k))
    (hm : lastMarks [op, op'] [b, c] = false := by with_unfolding_all rfl) : EV X Γ (.Compare a [op, op'] [b, c] pos) (.bool (f i j && g j k)) := fun M σ H Q rs kk => by
  refine (pe_chain ho ho' pe_self pe_self pe_self hm).wp (ha M σ H _ rs fun v H1 s1 q1 => hb M σ H1 _ (rs.grow s1.grow) fun u H2 s2 q2 => ?_)
  cases q1; cases q2
  refine ⟨_, _, rfl, rfl, _, rfl, ?_⟩
  cases e : f i j with
  | false => exact iteF (kk _ H2 (s1.trans s2) (by rw [e]; exact .bool _))
  | true =>
    refine iteT (hc M σ H2 _ ((rs.grow s1.grow).grow s2.grow) fun z H3 s3 q3 => ?_)
    cases q3
    exact ⟨_, _, rfl, rfl, kk _ H3 ((s1.trans s2).trans s3) (by rw [e]; exact .bool _)⟩
theorem et_chain {op op' : CmpOp} {f g : Int → Int → Bool} {i j k : Int} (ho : OpR X (compareOp op) (rI0 fun i j => .bl (f i j))) (ho' : OpR X (compareOp op') (rI0 fun i j => .bl (g i j))) (ha : EV X Γ a (.int i)) (hb : EV X Γ b (.int j)) (hc : EV X Γ c (.int k))
    (hm : lastMarks [op, op'] [b, c] = false := by with_unfolding_all rfl) : ET X Γ (.Compare a [op, op'] [b, c] pos) (f i j && g j k) := fun M σ H Q rs kk => by
  refine (pt_chain ho ho' pe_self pe_self pe_self hm).wp (ha M σ H _ rs fun v H1 s1 q1 => hb M σ H1 _ (rs.grow s1.grow) fun u H2 s2 q2 => ?_)
  cases q1; cases q2
  refine ⟨_, _, rfl, rfl, _, rfl, ?_⟩
  cases e : f i j with
  | false => exact iteF ⟨_, rfl, by rw [e] at kk; exact kk H2 (s1.trans s2)⟩
  | true =>
    refine iteT (hc M σ H2 _ ((rs.grow s1.grow).grow s2.grow) fun z H3 s3 q3 => ?_)
    cases q3
    exact ⟨_, _, rfl, rfl, _, rfl, by rw [e] at kk; exact kk H3 ((s1.trans s2).trans s3)⟩
theorem op_deepEq (hu : ∀ n, n ≤ 60 → X.A.units + n < cLine) : OpR X (compareOp .Eq) (fun x y H Q => ∃ M M' d1 d2, Rep M H x d1 ∧ Rep M' H y d2 ∧ d1.canLay0 = true ∧ d2.canLay0 = true ∧ min d1.depth d2.depth ≤ 60 ∧ Q (.bl (PyData.eqv d1 d2)) H) := by
  intro pins s σ H x y v u Q I rx ry h
  obtain ⟨M, M', d1, d2, r1, r2, c1, c2, hd, q⟩ := h
  obtain ⟨as, z1⟩ := r1.reads I.hok rx
  obtain ⟨bs, z2⟩ := r2.reads I.hok ry
  exact SeqAt.compareEq_reads z1 z2 c1 c2 (hu _ hd) ⟨.bl _, H, I, rfl, q⟩
theorem op_deepNe (hu : ∀ n, n ≤ 60 → X.A.units + n < cLine) : OpR X (compareOp .NotEq) (fun x y H Q => ∃ M M' d1 d2, Rep M H x d1 ∧ Rep M' H y d2 ∧ d1.canLay0 = true ∧ d2.canLay0 = true ∧ min d1.depth d2.depth ≤ 60 ∧ Q (.bl (!PyData.eqv d1 d2)) H) := by
  intro pins s σ H x y v u Q I rx ry h
  obtain ⟨M, M', d1, d2, r1, r2, c1, c2, hd, q⟩ := h
  obtain ⟨as, z1⟩ := r1.reads I.hok rx
  obtain ⟨bs, z2⟩ := r2.reads I.hok ry
  exact SeqAt.compareNe_reads z1 z2 c1 c2 (hu _ hd) ⟨.bl _, H, I, rfl, q⟩
theorem Room.u60 {k : Nat} {A : Around} (r : Room k A) : ∀ n, n ≤ 60 → A.units + n < cLine := fun n h => by have := r.units; omega
/-- data that == takes: no dict, few levels -/
structure Pl (d : PyData) : Prop where
  lay : d.canLay0 = true
  dep : d.depth ≤ 60
theorem cr_eq {k : Nat} (hr : Room k X.A) (c1 : Pl d1) (c2 : Pl d2) : CmpR X .Eq d1 d2 (PyData.eqv d1 d2) := ⟨_, op_deepEq hr.u60, fun M H v u Q _ q1 q2 kk => ⟨M, M, d1, d2, q1, q2, c1.lay, c2.lay, Nat.le_trans (Nat.min_le_left _ _) c1.dep, kk⟩⟩
theorem cr_ne {k : Nat} (hr : Room k X.A) (c1 : Pl d1) (c2 : Pl d2) : CmpR X .NotEq d1 d2 (!PyData.eqv d1 d2) := ⟨_, op_deepNe hr.u60, fun M H v u Q _ q1 q2 kk => ⟨M, M, d1, d2, q1, q2, c1.lay, c2.lay, Nat.le_trans (Nat.min_le_left _ _) c1.dep, kk⟩⟩

/-! tests -/
theorem et_val {x : Bool} (h : EV X Γ a (.bool x)) (he : ∀ whole, isTrue a X.env whole = (do let v ← whole; standAt a.pos; holding [v] (truthy v)) := by intro _; rfl) : ET X Γ a x := fun M σ H Q r k =>
  (pt_val pe_self he).wp (h M σ H _ r fun v H1 s1 q1 => by cases q1; exact ⟨x, rfl, k H1 s1⟩)
theorem et_not {x : Bool} (h : ET X Γ a x) : ET X Γ (.UnaryOp .Not a pos) (!x) := fun M σ H Q r k => (pt_not pt_self).wp (h M σ H _ r fun H1 s1 => k H1 s1)
theorem ew_and1 {x : Bool} (h : ET X Γ a x) : EW X Γ (.BoolOp .And [a] pos) x := fun M σ H Q r k => (pw_and1 pt_self).wp (h M σ H _ r k)
theorem ew_or1 {x : Bool} (h : ET X Γ a x) : EW X Γ (.BoolOp .Or [a] pos) x := fun M σ H Q r k => (pw_or1 pt_self).wp (h M σ H _ r k)
theorem ew_and {x y : Bool} (ha : ET X Γ a x) (hb : x = true → EW X Γ (.BoolOp .And (b :: es) pos) y) : EW X Γ (.BoolOp .And (a :: b :: es) pos) (x && y) := fun M σ H Q r k =>
  (pw_and pt_self pw_self).wp (ha M σ H _ r fun H1 s1 => by
    cases x with
    | false => exact iteF (k H1 s1)
    | true => exact iteT (hb rfl M σ H1 _ (r.grow s1.grow) fun H2 s2 => k H2 (s1.trans s2)))
theorem ew_or {x y : Bool} (ha : ET X Γ a x) (hb : x = false → EW X Γ (.BoolOp .Or (b :: es) pos) y) : EW X Γ (.BoolOp .Or (a :: b :: es) pos) (x || y) := fun M σ H Q r k =>
  (pw_or pt_self pw_self).wp (ha M σ H _ r fun H1 s1 => by
    cases x with
    | true => exact iteT (k H1 s1)
    | false => exact iteF (hb rfl M σ H1 _ (r.grow s1.grow) fun H2 s2 => k H2 (s1.trans s2)))
theorem ev_one {op} (h : EV X Γ a d) : EV X Γ (.BoolOp op [a] pos) d := fun M σ H Q r k => (pe_one pe_self).wp (h M σ H _ r k)
theorem ev_and {x y : Bool} (ha : EV X Γ a (.bool x)) (hb : x = true → EV X Γ (.BoolOp .And (b :: es) pos) (.bool y)) : EV X Γ (.BoolOp .And (a :: b :: es) pos) (.bool (x && y)) := fun M σ H Q r k =>
  (pe_and pe_self pe_self).wp (ha M σ H _ r fun v H1 s1 q1 => by
    cases q1
    refine ⟨x, rfl, ?_⟩
    cases x with
    | false => exact iteF (k _ H1 s1 (.bool _))
    | true => exact iteT (hb rfl M σ H1 _ (r.grow s1.grow) fun v H2 s2 q2 => k v H2 (s1.trans s2) q2))
theorem ev_or {x y : Bool} (ha : EV X Γ a (.bool x)) (hb : x = false → EV X Γ (.BoolOp .Or (b :: es) pos) (.bool y)) : EV X Γ (.BoolOp .Or (a :: b :: es) pos) (.bool (x || y)) := fun M σ H Q r k =>
  (pe_or pe_self pe_self).wp (ha M σ H _ r fun v H1 s1 q1 => by
    cases q1
    refine ⟨x, rfl, ?_⟩
    cases x with
    | true => exact iteT (k _ H1 s1 (.bool _))
    | false => exact iteF (hb rfl M σ H1 _ (r.grow s1.grow) fun v H2 s2 q2 => k v H2 (s1.trans s2) q2))
theorem ev_not {x : Bool} (h : EV X Γ a (.bool x)) : EV X Γ (.UnaryOp .Not a pos) (.bool (!x)) := fun M σ H Q r k => (pe_not pe_self).wp (h M σ H _ r fun v H1 s1 q1 => by cases q1; exact ⟨x, rfl, k _ H1 s1 (.bool _)⟩)
theorem ev_if {x : Bool} (hc : ET X Γ c x) (ha : x = true → EV X Γ a d1) (hb : x = false → EV X Γ b d2) : EV X Γ (.IfExp c a b pos) (if x then d1 else d2) := fun M σ H Q r k =>
  (pe_ifExp pt_self pe_self pe_self).wp (hc M σ H _ r fun H1 s1 => by
    cases x with
    | true => exact iteT (ha rfl M σ H1 _ (r.grow s1.grow) fun v H2 s2 q2 => k v H2 (s1.trans s2) q2)
    | false => exact iteF (hb rfl M σ H1 _ (r.grow s1.grow) fun v H2 s2 q2 => k v H2 (s1.trans s2) q2))
end
end L2

set_option Elab.async false
set_option linter.all false
set_option maxRecDepth 100000
/-! More built-in operations over plain data. -/
namespace PySem
open PySem.AutoSeq1 (wpAny_loadPart')
theorem tuple_mulW3 (l : Addr) (items : Array Value) (n : Nat) (dd : Option Addr) (sl : Array (Option Value)) (x : Int) (u : Tok) (hb1 : ¬ (decide (x < -(2 ^ 63)) || decide (x ≥ 2 ^ 63)) = true) (hc0 : ¬ (items.isEmpty || x == 1) = true) (hc1 : ¬ (decide (x ≤ 0) || items.isEmpty) = true) (hc2 : ¬ (items.size : Int) * x > (2 ^ 63 - 1) / 8) (hc3 : ¬ Builtin.Tuple.tupleTooMany ((items.size : Int) * x) = true) (hsz : ((List.replicate x.toNat items).foldl (· ++ ·) #[]).size ≤ sizeLine) :
    Meets (Builtin.«tuple.__mul__» ⟨[.ref l, .int x u], []⟩) (fun _ R s => s.heap.get? l = some { cls := .type "tuple", dict := dd, data := .seq items n, slots := sl } ∧ R (.ok (.ret (Value.ref s.heap.objs.size))) { s with heap := s.heap.push { cls := Value.type "tuple", data := Data.seq ((List.replicate x.toNat items).foldl (· ++ ·) #[]) }, toks := s.toks }) :=
  .of_wp fun prog w A R s h => by
    obtain ⟨hp, g, d, tk, os⟩ := s; obtain ⟨hl, h⟩ := h
    have f1 := AutoSeq1.idx_int
    wp_walk using wpAny_loadPart' hl
    refine wpAny_ite_false (decide_eq_false hb1) ?_
    wp_walk using wpAny_loadPart' hl
    first | (refine wpAny_ite_false (decide_eq_false hc2) ?_; wp_walk using wpAny_loadPart' hl) | skip
    first | (refine wpAny_ite_false (decide_eq_false (Nat.not_lt.mpr hsz)) ?_; wp_walk using wpAny_loadPart' hl) | skip
    exact ⟨_, rfl, h⟩
theorem tuple_mulW0 (l : Addr) (items : Array Value) (n : Nat) (dd : Option Addr) (sl : Array (Option Value)) (x : Int) (u : Tok) (hb1 : ¬ (decide (x < -(2 ^ 63)) || decide (x ≥ 2 ^ 63)) = true) (hc0 : (items.isEmpty || x == 1) = true) :
    Meets (Builtin.«tuple.__mul__» ⟨[.ref l, .int x u], []⟩) (fun _ R s => s.heap.get? l = some { cls := .type "tuple", dict := dd, data := .seq items n, slots := sl } ∧ R (.ok (.ret (Value.ref l))) { s with heap := s.heap, toks := s.toks }) :=
  .of_wp fun prog w A R s h => by
    obtain ⟨hp, g, d, tk, os⟩ := s; obtain ⟨hl, h⟩ := h
    have f1 := AutoSeq1.idx_int
    wp_walk using wpAny_loadPart' hl
    refine wpAny_ite_false (decide_eq_false hb1) ?_
    wp_walk using wpAny_loadPart' hl
    exact ⟨_, rfl, h⟩
theorem tuple_mulW1 (l : Addr) (items : Array Value) (n : Nat) (dd : Option Addr) (sl : Array (Option Value)) (x : Int) (u : Tok) (hb1 : ¬ (decide (x < -(2 ^ 63)) || decide (x ≥ 2 ^ 63)) = true) (hc0 : ¬ (items.isEmpty || x == 1) = true) (hc1 : (decide (x ≤ 0) || items.isEmpty) = true) :
    Meets (Builtin.«tuple.__mul__» ⟨[.ref l, .int x u], []⟩) (fun _ R s => s.heap.get? l = some { cls := .type "tuple", dict := dd, data := .seq items n, slots := sl } ∧ R (.ok (.ret (Value.ref s.heap.objs.size))) { s with heap := s.heap.push { cls := Value.type "tuple", data := Data.seq #[] }, toks := s.toks }) :=
  .of_wp fun prog w A R s h => by
    obtain ⟨hp, g, d, tk, os⟩ := s; obtain ⟨hl, h⟩ := h
    have f1 := AutoSeq1.idx_int
    wp_walk using wpAny_loadPart' hl
    refine wpAny_ite_false (decide_eq_false hb1) ?_
    wp_walk using wpAny_loadPart' hl
    exact ⟨_, rfl, h⟩
theorem noFill_tuple_mulW : fillsNumberSlot (.type "tuple") "mul" = pure false :=
  fillsNumberSlot_seq (id := "tuple.__mul__") (r := some (.builtin "tuple.__rmul__")) F.slot_tuple_mul.lookup (by decide +kernel) F.slot_tuple_rmul.lookup (by decide +kernel)
theorem repeat_tupleW : seqRepeat? (.type "tuple") = pure (some (.builtin "tuple.__mul__")) := by
  unfold seqRepeat?
  rw [seqSlot_of (T := "tuple") (name := "__mul__") (id := "tuple.__mul__") F.slot_tuple_mul.lookup (by decide +kernel), seqSlot_of (T := "tuple") (name := "__rmul__") (id := "tuple.__rmul__") F.slot_tuple_rmul.lookup (by decide +kernel)]
  rfl
theorem int_rmul_tupleW (a : Int) (t : Tok) (l : Addr) (items : Array Value) (n : Nat) (dd : Option Addr) (sl : Array (Option Value)) :
    Meets (Builtin.«int.__rmul__» ⟨[.int a t, .ref l], []⟩) (fun _ R s => s.heap.get? l = some { cls := .type "tuple", dict := dd, data := .seq items n, slots := sl } ∧ R (.ok (.ret Value.notImplemented)) s) :=
  .of_wp fun prog w A R s h => by obtain ⟨hp, g, d, tk, os⟩ := s; obtain ⟨hl, h⟩ := h; wp_walk using wpAny_loadPart' hl; exact ⟨_, rfl, h⟩
end PySem
namespace L2
open PySem PySem.Spec PyProof.Rows
section
variable {X : Cx}
/-- t * n -/
def rRepT (K : PySem.W.Frag) : R2 := fun x y H Q => ∃ l k xs, x = .ref l ∧ y = .int k ∧ SqT K H l xs ∧ -(2 ^ 63) ≤ k ∧ k < 2 ^ 63 ∧ xs.length * k.toNat ≤ sizeLine ∧
  ((xs = [] ∨ k = 1) → Q (.ref l) H) ∧ ∀ p, H p = none → Q (.ref p) (upd H p (.tup (List.replicate k.toNat xs).flatten))
theorem op_repT : OpR X (binaryOp .Mult) (rRepT X.K) := by
  intro pins s σ H x y v u Q I rx ry h
  obtain ⟨l, k, xs, rfl, rfl, hH, h1, h2, hz, qs, q⟩ := h
  cases rx
  obtain ⟨t, rfl⟩ := ry
  obtain ⟨its, r, hit, hzz⟩ := I.tuple hH
  have hl := r.length
  obtain ⟨⟨cls, dd, data, sl⟩, ho, hc, n, hd⟩ := id hit
  simp only at hc hd
  subst hc hd
  have hb1 : ¬ (decide (k < -(2 ^ 63)) || decide (k ≥ 2 ^ 63)) = true := by
    simp only [Bool.or_eq_true, decide_eq_true_eq]; omega
  have hnew : List.foldl (fun x1 x2 => x1 ++ x2) #[] (List.replicate k.toNat its.toArray) = (List.replicate k.toNat its).flatten.toArray := by
    have := foldl_rep its k.toNat []
    rw [List.nil_append] at this
    exact this
  refine wpAny_binaryOp_repeat_ref (T := "tuple") (U := "int") (by decide) ⟨_, ho, rfl⟩ (fun s' => typeIs_int s' k t) noFill_tuple_mulW F.fills_int_mul F.slot_int_rmul repeat_tupleW F.slot_int_index.lookup
    (call_meets F.slot_int_rmul (typeIs_int s k t) F.entry_int_rmul (F.args_int_rmul_2 _ _) (int_rmul_tupleW k t l its.toArray n dd sl) ⟨ho, rfl, ⟨_, ho, rfl⟩, ?_⟩)
  by_cases hc0 : (its.toArray.isEmpty || k == 1) = true
  · refine call_meets F.slot_tuple_mul ⟨_, ho, rfl⟩ F.entry_tuple_mul (F.args_tuple_mul_2 _ _) (tuple_mulW0 l its.toArray n dd sl k t hb1 hc0) ⟨ho, ?_⟩
    refine ⟨.ref l, H, I, rfl, qs ?_⟩
    simp only [Bool.or_eq_true, beq_iff_eq] at hc0
    rcases hc0 with z | z
    · left
      have : its = [] := by simpa using z
      subst this
      exact List.eq_nil_of_length_eq_zero hl
    · exact .inr z
  · by_cases hc1 : (decide (k ≤ 0) || its.toArray.isEmpty) = true
    · refine call_meets F.slot_tuple_mul ⟨_, ho, rfl⟩ F.entry_tuple_mul (F.args_tuple_mul_2 _ _) (tuple_mulW1 l its.toArray n dd sl k t hb1 hc0 hc1) ⟨ho, ?_⟩
      have e0 : (List.replicate k.toNat xs).flatten = [] := by
        simp only [Bool.or_eq_true, decide_eq_true_eq] at hc1
        rcases hc1 with z | z
        · rw [show k.toNat = 0 by omega]; rfl
        · exact absurd (by simp [z]) hc0
      refine ⟨.ref s.heap.objs.size, _, I.laid (t' := s.toks) (o := .tup []) (fun b u e => Heap.get?_push_of_some _ e) (Nat.le_refl _) ?_, rfl, by have := q _ (I.hok.fresh (Nat.le_refl _)); rw [e0] at this; exact this⟩
      exact ⟨Nat.zero_le _, [], .nil, ⟨_, Heap.get?_push_size _ rfl, rfl, _, rfl⟩⟩
    · have hlen : its.length * k.toNat ≤ sizeLine := by rw [← hl]; exact hz
      have hk0 : 0 < k := by
        simp only [Bool.or_eq_true, decide_eq_true_eq] at hc1; omega
      have hm : ((its.toArray.size : Int) * k) = ((its.length * k.toNat : Nat) : Int) := by
        rw [List.size_toArray]
        have : k = (k.toNat : Int) := by omega
        rw [Int.natCast_mul, ← this]
      have hsl : (sizeLine : Nat) ≤ (2 ^ 63 - 1) / 8 := by decide
      have hc2 : ¬ (its.toArray.size : Int) * k > (2 ^ 63 - 1) / 8 := by
        rw [hm]
        have h63 : ((2 ^ 63 - 1) / 8 : Int) = (((2 ^ 63 - 1) / 8 : Nat) : Int) := by decide
        rw [h63]
        intro z
        have := Int.ofNat_lt.mp z
        omega
      have hc3 : ¬ Builtin.Tuple.tupleTooMany ((its.toArray.size : Int) * k) = true := by
        unfold Builtin.Tuple.tupleTooMany
        rw [hm, decide_eq_true_eq]
        intro z
        have := Int.ofNat_lt.mp z
        omega
      refine call_meets F.slot_tuple_mul ⟨_, ho, rfl⟩ F.entry_tuple_mul (F.args_tuple_mul_2 _ _) (tuple_mulW3 l its.toArray n dd sl k t hb1 hc0 hc1 hc2 hc3 (by rw [hnew, List.size_toArray, len_rep, Nat.mul_comm]; exact hlen)) ⟨ho, ?_⟩
      rw [hnew]
      refine ⟨.ref s.heap.objs.size, _, I.laid (t' := s.toks) (o := .tup (List.replicate k.toNat xs).flatten) (fun b u e => Heap.get?_push_of_some _ e) (Nat.le_refl _) ?_, rfl, q _ (I.hok.fresh (Nat.le_refl _))⟩
      exact ⟨by rw [len_rep, Nat.mul_comm]; exact hz, _, r.rep k.toNat, ⟨_, Heap.get?_push_size _ rfl, rfl, _, rfl⟩⟩
theorem RepL.rep {M : Addr → Prop} {H : Hp} {vs : List V} {ds : List PyData} (h : RepL M H vs ds) : ∀ k : Nat, RepL M H (List.replicate k vs).flatten (List.replicate k ds).flatten
  | 0 => .nil
  | k + 1 => by rw [List.replicate_succ, List.replicate_succ, List.flatten_cons, List.flatten_cons]; exact h.append (RepL.rep h k)

/-- a tuple's items, by its data -/
theorem Rep.tup_inv {M : Addr → Prop} {H : Hp} {v : V} {ds : List PyData} (r : Rep M H v (.tuple ds)) : ∃ a vs, v = .ref a ∧ H a = some (.tup vs) ∧ RepL M H vs ds := by
  cases r with
  | tuple e q => exact ⟨_, _, rfl, e, q⟩
theorem Rep.lst_inv {M : Addr → Prop} {H : Hp} {v : V} {ds : List PyData} (r : Rep M H v (.list ds)) : ∃ a vs, v = .ref a ∧ H a = some (.lst vs) ∧ ¬ M a ∧ RepL M H vs ds := by
  cases r with
  | list e n q => exact ⟨_, _, rfl, e, n, q⟩
variable {Γ : Ge} {pos p p2 : Pos} {a b c : Expr} {es : List Expr} {d d1 d2 : PyData} {ds ds1 ds2 : List PyData}
theorem ev_trep {n : Int} (ha : EV X Γ a (.tuple ds)) (hb : EV X Γ b (.int n)) (h0 : 0 ≤ n) (h1 : n < 2 ^ 63) (hz : ds.length * n.toNat ≤ sizeLine) : EV X Γ (.BinOp a .Mult b pos) (.tuple (List.replicate n.toNat ds).flatten) :=
  ev_op op_repT ha hb fun M H v u Q _ q1 q2 k => by
    obtain ⟨l, vs, rfl, e, r⟩ := q1.tup_inv
    cases q2
    refine ⟨l, n, vs, rfl, rfl, SqT.of e, by omega, h1, by rw [r.length]; exact hz, fun hs => k _ H (Same.refl H) ?_, fun p np => k _ _ (upd_new np) (.tuple upd_same ((r.rep n.toNat).grow (upd_new np).grow))⟩
    rcases hs with z | z
    · subst z
      have : ds = [] := List.eq_nil_of_length_eq_zero r.length.symm
      subst this
      have : (List.replicate n.toNat ([] : List PyData)).flatten = [] := by simp
      rw [this]; exact q1
    · subst z
      have : (List.replicate (1 : Int).toNat ds).flatten = ds := by simp
      rw [this]; exact q1
/-- t + u -/
def rCatT2 (K : PySem.W.Frag) : R2 := fun x y H Q => ∃ a b xs ys, x = .ref a ∧ y = .ref b ∧ SqT K H a xs ∧ SqT K H b ys ∧ xs.length + ys.length ≤ sizeLine ∧ (xs = [] → Q (.ref b) H) ∧ (ys = [] → Q (.ref a) H) ∧ ∀ p, H p = none → Q (.ref p) (upd H p (.tup (xs ++ ys)))
theorem op_catT2 : OpR X (binaryOp .Add) (rCatT2 X.K) := by
  intro pins s σ H x y v u Q I rx ry h
  obtain ⟨a, b, xs, ys, rfl, rfl, ha, hb, hz, q0, q1, q⟩ := h
  cases rx
  cases ry
  obtain ⟨its, r, hit, _⟩ := I.tuple ha
  obtain ⟨its2, r2, hit2, _⟩ := I.tuple hb
  by_cases hv : its = []
  · obtain ⟨⟨cls, dd, data, sl⟩, ho, hc, n, hd⟩ := id hit
    obtain ⟨⟨cls2, dd2, data2, sl2⟩, ho2, hc2, n2, hd2⟩ := id hit2
    simp only at hc hd hc2 hd2
    subst hc hd hc2 hd2
    refine concat_meets ⟨_, ho, rfl⟩ ⟨_, ho2, rfl⟩ noFill_tuple_add seq_tuple_add PySem.F.slot_tuple_add PySem.F.entry_tuple_add (PySem.F.args_tuple_add_2 _ _)
      (tuple_addW0 a b its.toArray its2.toArray n n2 dd dd2 sl sl2 (by simp [hv])) ⟨ho, ho2, ⟨.ref b, H, I, rfl, q0 ?_⟩⟩
    exact r.nil_iff.mp hv
  · refine HT.cat_tup hit hit2 hv (fun hw => ⟨.ref a, H, I, rfl, q1 (r2.nil_iff.mp hw)⟩) (fun _ => ?_) (by rw [← r.length, ← r2.length]; exact hz)
    refine ⟨.ref s.heap.objs.size, _, I.laid (t' := s.toks) (o := .tup (xs ++ ys)) (fun b u e => Heap.get?_push_of_some _ e) (Nat.le_refl _) ?_, rfl, q _ (I.hok.fresh (Nat.le_refl _))⟩
    exact ⟨by rw [List.length_append]; exact hz, _, r.append r2, ⟨_, Heap.get?_push_size _ rfl, rfl, _, rfl⟩⟩
theorem ev_tcat (ha : EV X Γ a (.tuple ds1)) (hb : EV X Γ b (.tuple ds2)) (hz : ds1.length + ds2.length ≤ sizeLine) : EV X Γ (.BinOp a .Add b pos) (.tuple (ds1 ++ ds2)) :=
  ev_op op_catT2 ha hb fun M H v u Q _ q1 q2 k => by
    obtain ⟨l, vs, rfl, e, r⟩ := q1.tup_inv
    obtain ⟨l2, vs2, rfl, e2, r2⟩ := q2.tup_inv
    refine ⟨l, l2, vs, vs2, rfl, rfl, SqT.of e, SqT.of e2, by rw [r.length, r2.length]; exact hz, fun z => k _ H (Same.refl H) ?_, fun z => k _ H (Same.refl H) ?_, fun p np => k _ _ (upd_new np) (.tuple upd_same ((r.append r2).grow (upd_new np).grow))⟩
    · subst z
      have : ds1 = [] := List.eq_nil_of_length_eq_zero r.length.symm
      subst this; exact q2
    · subst z
      have : ds2 = [] := List.eq_nil_of_length_eq_zero r2.length.symm
      subst this; rw [List.append_nil]; exact q1
/-- xs + ys of lists: a new one -/
theorem en_op {op : Operator} {r : R2} (ho : OpR X (binaryOp op) r) (ha : EV X Γ a d1) (hb : EV X Γ b d2)
    (hr : ∀ (M : Addr → Prop) (H : Hp) (v u : V) (Q : VK), Al M H → Rep M H v d1 → Rep M H u d2 → (∀ l vs H', Same H H' → H l = none → H' l = some (.lst vs) → RepL M H' vs ds → Q (.ref l) H') → r v u H Q) : EN X Γ (.BinOp a op b pos) ds := fun M σ H Q rs k =>
  (pe_op ho pe_self pe_self).wp (ha M σ H _ rs fun v H1 s1 q1 => hb M σ H1 _ (rs.grow s1.grow) fun u H2 s2 q2 =>
    hr M H2 v u Q ((rs.grow s1.grow).grow s2.grow).al (q1.grow s2.grow) q2 fun l vs H3 s3 n e q3 => k l vs H3 ((s1.trans s2).trans s3) ((s1.trans s2).free n) e q3)
theorem en_cat (ha : EV X Γ a (.list ds1)) (hb : EV X Γ b (.list ds2)) (hz : ds1.length + ds2.length ≤ sizeLine) : EN X Γ (.BinOp a .Add b pos) (ds1 ++ ds2) :=
  en_op op_cat ha hb fun M H v u Q _ q1 q2 k => by
    obtain ⟨l, vs, rfl, e, _, r⟩ := q1.lst_inv
    obtain ⟨l2, vs2, rfl, e2, _, r2⟩ := q2.lst_inv
    exact ⟨l, l2, vs, vs2, rfl, rfl, e, e2, by rw [r.length, r2.length]; exact hz, fun p np => k p _ _ (upd_new np) np upd_same ((r.append r2).grow (upd_new np).grow)⟩

/-! ### items and slices -/
theorem ev_ix {r : R2} (ho : IxR X r) (ha : EV X Γ a d1) (hb : EV X Γ b d2) (hs : PlainIx b)
    (hr : ∀ (M : Addr → Prop) (H : Hp) (v u : V) (Q : VK), Al M H → Rep M H v d1 → Rep M H u d2 → (∀ z, Rep M H z d → Q z H) → r v u H Q) : EV X Γ (.Subscript a b pos) d := fun M σ H Q rs k =>
  (pe_ix ho pe_self pe_self hs).wp (ha M σ H _ rs fun v H1 s1 q1 => hb M σ H1 _ (rs.grow s1.grow) fun u H2 s2 q2 =>
    hr M H2 v u Q ((rs.grow s1.grow).grow s2.grow).al (q1.grow s2.grow) q2 fun z q3 => k z H2 (s1.trans s2) q3)
theorem ixN_len {n : Nat} {i : Int} {j : Nat} (h : ixN n i = some j) : j < n := (ixN_seq h).2.1
theorem atI_rep {M : Addr → Prop} {H : Hp} {vs : List V} {ds : List PyData} {i : Int} {d : PyData} (r : RepL M H vs ds) (h : atI ds i = some d) : ∃ v, atI vs i = some v ∧ Rep M H v d := by
  unfold atI at h ⊢
  rw [r.length]
  cases e : ixN ds.length i with
  | none => rw [e] at h; cases h
  | some j =>
    rw [e] at h
    exact r.get' h
theorem ev_lix {i : Int} (ha : EV X Γ a (.list ds)) (hb : EV X Γ b (.int i)) (h : atI ds i = some d) (hs : PlainIx b := by intro _ _; rfl) : EV X Γ (.Subscript a b pos) d :=
  ev_ix ix_list ha hb hs fun M H v u Q _ q1 q2 k => by
    obtain ⟨l, vs, rfl, e, _, r⟩ := q1.lst_inv
    cases q2
    obtain ⟨z, hz, rz⟩ := atI_rep r h
    exact ⟨l, vs, i, z, rfl, rfl, SqL.of e, hz, k z rz⟩
theorem ev_tix {i : Int} (ha : EV X Γ a (.tuple ds)) (hb : EV X Γ b (.int i)) (h : atI ds i = some d) (hs : PlainIx b := by intro _ _; rfl) : EV X Γ (.Subscript a b pos) d :=
  ev_ix ix_tup ha hb hs fun M H v u Q _ q1 q2 k => by
    obtain ⟨l, vs, rfl, e, r⟩ := q1.tup_inv
    cases q2
    obtain ⟨z, hz, rz⟩ := atI_rep r h
    exact ⟨l, vs, i, z, rfl, rfl, SqT.of e, hz, k z rz⟩

/-! ### calls of built-ins -/
theorem ev_callB {id : String} {x : Str} {r : List V → Hp → VK → Prop} (hc : CallR X (.builtin id) r) (hg : Gl X x) (hm : X.mg x = none) (hv : bootBuiltins x = some (.builtin id)) (ha : EA X Γ (a :: es) ds)
    (hr : ∀ (M : Addr → Prop) (H : Hp) (vs : List V) (Q : VK), Al M H → RepL M H vs ds → (∀ z H', Same H H' → Rep M H' z d → Q z H') → r vs H Q) (hn : x ≠ "__name__" := by decide) (hdb : (x == ("__debug__" : Str)) = false := by decide)
    (he : starEach (a :: es) X.env = (false, eval a X.env) :: starEach es X.env := by rfl) (hpl : (backTo pos (starEach es X.env)).any (·.1) = false := by rfl) : EV X Γ (.Call (.Name x p) (a :: es) [] pos) d := fun M σ H Q rs k =>
  (pe_callB hc hg hm hv pa_self hn hdb he hpl).wp (ha M σ H _ rs fun vs H1 s1 q1 => hr M H1 vs Q (rs.grow s1.grow).al q1 fun z H2 s2 q2 => k z H2 (s1.trans s2) q2)
theorem ev_callTy {T : String} {x : Str} {r : List V → Hp → VK → Prop} (hc : CallR X (.type T) r) (hg : Gl X x) (hm : X.mg x = none) (hv : bootBuiltins x = some (.type T)) (ha : EA X Γ (a :: es) ds)
    (hr : ∀ (M : Addr → Prop) (H : Hp) (vs : List V) (Q : VK), Al M H → RepL M H vs ds → (∀ z H', Same H H' → Rep M H' z d → Q z H') → r vs H Q) (hn : x ≠ "__name__" := by decide) (hdb : (x == ("__debug__" : Str)) = false := by decide)
    (he : starEach (a :: es) X.env = (false, eval a X.env) :: starEach es X.env := by rfl) (hpl : (backTo pos (starEach es X.env)).any (·.1) = false := by rfl) : EV X Γ (.Call (.Name x p) (a :: es) [] pos) d := fun M σ H Q rs k =>
  (pe_callTy hc hg hm hv pa_self hn hdb he hpl).wp (ha M σ H _ rs fun vs H1 s1 q1 => hr M H1 vs Q (rs.grow s1.grow).al q1 fun z H2 s2 q2 => k z H2 (s1.trans s2) q2)
theorem en_callTy {T : String} {x : Str} {r : List V → Hp → VK → Prop} {ds' : List PyData} (hc : CallR X (.type T) r) (hg : Gl X x) (hm : X.mg x = none) (hv : bootBuiltins x = some (.type T)) (ha : EA X Γ (a :: es) ds)
    (hr : ∀ (M : Addr → Prop) (H : Hp) (vs : List V) (Q : VK), Al M H → RepL M H vs ds → (∀ l ws H', Same H H' → H l = none → H' l = some (.lst ws) → RepL M H' ws ds' → Q (.ref l) H') → r vs H Q) (hn : x ≠ "__name__" := by decide) (hdb : (x == ("__debug__" : Str)) = false := by decide)
    (he : starEach (a :: es) X.env = (false, eval a X.env) :: starEach es X.env := by rfl) (hpl : (backTo pos (starEach es X.env)).any (·.1) = false := by rfl) : EN X Γ (.Call (.Name x p) (a :: es) [] pos) ds' := fun M σ H Q rs k =>
  (pe_callTy hc hg hm hv pa_self hn hdb he hpl).wp (ha M σ H _ rs fun vs H1 s1 q1 => hr M H1 vs Q (rs.grow s1.grow).al q1 fun l ws H2 s2 n e q2 => k l ws H2 (s1.trans s2) (s1.free n) e q2)
theorem RepL.one {M : Addr → Prop} {H : Hp} {vs : List V} {d : PyData} (r : RepL M H vs [d]) : ∃ v, vs = [v] ∧ Rep M H v d := by
  cases r with
  | cons q t => cases t; exact ⟨_, rfl, q⟩
theorem RepL.two {M : Addr → Prop} {H : Hp} {vs : List V} {d e : PyData} (r : RepL M H vs [d, e]) : ∃ v u, vs = [v, u] ∧ Rep M H v d ∧ Rep M H u e := by
  cases r with
  | cons q t =>
    obtain ⟨u, rfl, q2⟩ := t.one
    exact ⟨_, _, rfl, q, q2⟩
theorem ev_lenL (hg : Gl X "len") (hm : X.mg "len" = none) (ha : EV X Γ a (.list ds)) (hs : starEach [a] X.env = [(false, eval a X.env)] := by rfl) : EV X Γ (.Call (.Name "len" p) [a] [] pos) (.int ds.length) :=
  ev_callB call_len_seq hg hm PySem.boot_len (ea_cons ha ea_nil hs) (fun M H vs Q _ r k => by
    obtain ⟨v, rfl, q⟩ := r.one
    obtain ⟨l, ws, rfl, e, _, rr⟩ := q.lst_inv
    exact ⟨l, ws, rfl, .inl (SqL.of e), by rw [rr.length]; exact k _ H (Same.refl H) (.int _)⟩) (by decide) (by decide) hs
theorem ev_lenT (hg : Gl X "len") (hm : X.mg "len" = none) (ha : EV X Γ a (.tuple ds)) (hs : starEach [a] X.env = [(false, eval a X.env)] := by rfl) : EV X Γ (.Call (.Name "len" p) [a] [] pos) (.int ds.length) :=
  ev_callB call_len_seq hg hm PySem.boot_len (ea_cons ha ea_nil hs) (fun M H vs Q _ r k => by
    obtain ⟨v, rfl, q⟩ := r.one
    obtain ⟨l, ws, rfl, e, rr⟩ := q.tup_inv
    exact ⟨l, ws, rfl, .inr (SqT.of e), by rw [rr.length]; exact k _ H (Same.refl H) (.int _)⟩) (by decide) (by decide) hs
end
end L2

set_option Elab.async false
set_option linter.all false
set_option maxRecDepth 100000
/-! isinstance, all, any; walks; comprehensions, statements and defs over plain data. -/
namespace L2
open PySem PySem.Spec PyProof.Rows

/-! ### isinstance(x, T) of a built-in T -/
def tyD : PyData → String
  | .none => "NoneType"
  | .bool _ => "bool"
  | .int _ => "int"
  | .str _ => "str"
  | .list _ => "list"
  | .tuple _ => "tuple"
  | .dict _ => "dict"
theorem Rep.ty {K : PySem.W.Frag} {M : Addr → Prop} {H : Hp} {v : V} {d : PyData} (r : Rep M H v d) : TyOf K H v (.type (tyD d)) := by
  cases r with
  | none => exact .non
  | bool b => exact .bl b
  | int i => exact .int i
  | str x => exact .str x
  | list e n q => exact .lst e
  | tuple e q => exact .tup e
section
variable {X : Cx}
theorem call_isi : CallR X (.builtin "isinstance") (fun xs H Q => ∃ x T t k, xs = [x, .ty T] ∧ TyOf X.K H x t ∧ PySem.W.kitOne X.K t (.type T) = some k ∧ Q (.bl k) H) := by
  intro pins s σ H xs us Q I r h
  obtain ⟨x, T, t, k, rfl, ty, e, q⟩ := h
  obtain ⟨u, w', rfl, rx, rc⟩ := vals2 r
  cases (show w' = Value.type T from rc)
  exact isinst_ok I rx ty e fun tk => ⟨.bl k, H, I.tok tk, rfl, q⟩
variable {Γ : Ge} {pos p p2 : Pos} {a b c : Expr} {es : List Expr} {d d1 d2 : PyData} {ds ds1 ds2 : List PyData}
theorem ev_isi {x : Str} {T : String} {k : Bool} (hg : Gl X "isinstance") (hm : X.mg "isinstance" = none) (ha : EV X Γ a d) (hgT : Gl X x) (hmT : X.mg x = none) (hvT : bootBuiltins x = some (.type T)) (hk : PySem.W.kitOne X.K (.type (tyD d)) (.type T) = some k)
    (hnT : x ≠ "__name__" := by decide) (hdT : (x == ("__debug__" : Str)) = false := by decide)
    (hs : starEach [a, .Name x p2] X.env = [(false, eval a X.env), (false, eval (.Name x p2) X.env)] := by rfl) (hs2 : starEach [.Name x p2] X.env = [(false, eval (.Name x p2) X.env)] := by rfl)
    (hpl : (backTo pos (starEach [Expr.Name x p2] X.env)).any (·.1) = false := by rfl) : EV X Γ (.Call (.Name "isinstance" p) [a, .Name x p2] [] pos) (.bool k) := fun M σ H Q rs kk =>
  (pe_callB call_isi hg hm boot_isinstance (pa_cons pe_self (pa_cons (pe_bltn (v := .ty T) hgT hmT hvT rfl hnT hdT) pa_nil (by rw [hs2]; rfl)) (by rw [hs, hs2])) (by decide) (by decide) (by rw [hs, hs2]) hpl).wp
    (ha M σ H _ rs fun v H1 s1 q1 => ⟨v, T, _, k, rfl, q1.ty, hk, kk _ H1 s1 (.bool k)⟩)

/-! ### all, any of a list of bools -/
theorem range_all (bs : List Bool) : (List.range bs.length).all (fun i => (bs[i]?).getD false) = bs.all id := by
  have e : (List.range bs.length).map (fun i => (bs[i]?).getD false) = bs := by
    apply List.ext_getElem
    · simp
    · intro i h1 h2
      simp [h2]
  have h := congrArg (fun l => List.all l id) e
  rw [List.all_map] at h
  exact h
theorem range_any (bs : List Bool) : (List.range bs.length).any (fun i => (bs[i]?).getD false) = bs.any id := by
  have e : (List.range bs.length).map (fun i => (bs[i]?).getD false) = bs := by
    apply List.ext_getElem
    · simp
    · intro i h1 h2
      simp [h2]
  have h := congrArg (fun l => List.any l id) e
  rw [List.any_map] at h
  exact h
theorem vals_bl {bs : List Bool} {its : List Value} (rv : Vals (bs.map V.bl) its) {i : Nat} {v : Value} (e : its[i]? = some v) : ∃ b, bs[i]? = some b ∧ v = .bool b := by
  have hi : i < its.length := (List.getElem?_eq_some_iff.mp e).1
  have hl := rv.length
  rw [List.length_map] at hl
  have hb : i < bs.length := by omega
  obtain ⟨u, hu, ru⟩ := rv.get (i := i) (x := V.bl bs[i]) (by simp [hb])
  rw [e] at hu; cases hu
  exact ⟨bs[i], by simp [hb], ru⟩
theorem call_allB (hc : X.calm = true) : CallR X (.builtin "all") (fun xs H Q => ∃ (p : Addr) (bs : List Bool), xs = [.ref p] ∧ SqL X.K H p (bs.map V.bl) ∧ Q (.bl (bs.all id)) H) := by
  intro pins s σ H xs us Q I r h
  obtain ⟨p, bs, rfl, hq, q⟩ := h
  obtain ⟨u, rfl, rx⟩ := vals1 r
  cases rx
  obtain ⟨its, rv, pl, hz⟩ := I.list hq
  have hne : p ≠ s.heap.objs.size := by
    obtain ⟨o, n, e, _⟩ := pl
    exact Nat.ne_of_lt (Heap.lt_size e)
  have hl := rv.length
  rw [List.length_map] at hl
  refine call_all_walk (wpAny_pyIter_list pl.isList ⟨s.heap.objs.size, _, _, _, _, _, fun i => (bs[i]?).getD false, rfl, Walks.list (A := X.A.in1) (show X.A.in1.handled = none from I.ok.hd hc) s.heap.objs.size p hne its.toArray,
    ⟨⟨_, Heap.get?_push_size _ rfl, rfl, rfl⟩, pl.isList.at fun o e => Heap.get?_push_of_some _ e⟩, fun i v s' Q' E' hP hQ => ?_, fun h' tk hk => ?_⟩)
  · obtain ⟨b, hb, rfl⟩ := vals_bl rv (by simpa using hP)
    dsimp only at hQ; rw [hb] at hQ
    exact wpAny_truthy_bool hQ
  · rw [List.size_toArray, ← hl, range_all]
    refine ⟨.bl _, H, I.kept (t' := tk) fun b o e => hk b o ?_ (Heap.get?_push_of_some _ e), rfl, q⟩
    intro z
    rw [List.mem_singleton] at z
    exact absurd (Heap.lt_size e) (by rw [z]; exact Nat.lt_irrefl _)
theorem call_anyB (hc : X.calm = true) : CallR X (.builtin "any") (fun xs H Q => ∃ (p : Addr) (bs : List Bool), xs = [.ref p] ∧ SqL X.K H p (bs.map V.bl) ∧ Q (.bl (bs.any id)) H) := by
  intro pins s σ H xs us Q I r h
  obtain ⟨p, bs, rfl, hq, q⟩ := h
  obtain ⟨u, rfl, rx⟩ := vals1 r
  cases rx
  obtain ⟨its, rv, pl, hz⟩ := I.list hq
  have hne : p ≠ s.heap.objs.size := by
    obtain ⟨o, n, e, _⟩ := pl
    exact Nat.ne_of_lt (Heap.lt_size e)
  have hl := rv.length
  rw [List.length_map] at hl
  refine call_any_walk (wpAny_pyIter_list pl.isList ⟨s.heap.objs.size, _, _, _, _, _, fun i => (bs[i]?).getD false, rfl, Walks.list (A := X.A.in1) (show X.A.in1.handled = none from I.ok.hd hc) s.heap.objs.size p hne its.toArray,
    ⟨⟨_, Heap.get?_push_size _ rfl, rfl, rfl⟩, pl.isList.at fun o e => Heap.get?_push_of_some _ e⟩, fun i v s' Q' E' hP hQ => ?_, fun h' tk hk => ?_⟩)
  · obtain ⟨b, hb, rfl⟩ := vals_bl rv (by simpa using hP)
    dsimp only at hQ; rw [hb] at hQ
    exact wpAny_truthy_bool hQ
  · rw [List.size_toArray, ← hl, range_any]
    refine ⟨.bl _, H, I.kept (t' := tk) fun b o e => hk b o ?_ (Heap.get?_push_of_some _ e), rfl, q⟩
    intro z
    rw [List.mem_singleton] at z
    exact absurd (Heap.lt_size e) (by rw [z]; exact Nat.lt_irrefl _)
theorem RepL.bls {M : Addr → Prop} {H : Hp} : ∀ {vs : List V} {bs : List Bool}, RepL M H vs (bs.map PyData.bool) → vs = bs.map V.bl
  | _, [], .nil => rfl
  | _, b :: bs, .cons q t => by cases q; rw [List.map_cons, ← RepL.bls t]
theorem boot_allW : bootBuiltins "all" = some (.builtin "all") := by decide +kernel
theorem boot_anyW : bootBuiltins "any" = some (.builtin "any") := by decide +kernel
theorem ev_all {bs : List Bool} (hc : X.calm = true) (hg : Gl X "all") (hm : X.mg "all" = none) (ha : EV X Γ a (.list (bs.map PyData.bool))) (hs : starEach [a] X.env = [(false, eval a X.env)] := by rfl) : EV X Γ (.Call (.Name "all" p) [a] [] pos) (.bool (bs.all id)) :=
  ev_callB (call_allB hc) hg hm boot_allW (ea_cons ha ea_nil hs) (fun M H vs Q _ r k => by
    obtain ⟨v, rfl, q⟩ := r.one
    obtain ⟨l, ws, rfl, e, _, rr⟩ := q.lst_inv
    rw [rr.bls] at e
    exact ⟨l, bs, rfl, SqL.of e, k _ H (Same.refl H) (.bool _)⟩) (by decide) (by decide) hs
theorem ev_any {bs : List Bool} (hc : X.calm = true) (hg : Gl X "any") (hm : X.mg "any" = none) (ha : EV X Γ a (.list (bs.map PyData.bool))) (hs : starEach [a] X.env = [(false, eval a X.env)] := by rfl) : EV X Γ (.Call (.Name "any" p) [a] [] pos) (.bool (bs.any id)) :=
  ev_callB (call_anyB hc) hg hm boot_anyW (ea_cons ha ea_nil hs) (fun M H vs Q _ r k => by
    obtain ⟨v, rfl, q⟩ := r.one
    obtain ⟨l, ws, rfl, e, _, rr⟩ := q.lst_inv
    rw [rr.bls] at e
    exact ⟨l, bs, rfl, SqL.of e, k _ H (Same.refl H) (.bool _)⟩) (by decide) (by decide) hs
theorem boot_listW : bootBuiltins "list" = some (.type "list") := by decide +kernel
theorem boot_tupleW : bootBuiltins "tuple" = some (.type "tuple") := by decide +kernel
theorem boot_intW : bootBuiltins "int" = some (.type "int") := by decide +kernel
theorem boot_boolW : bootBuiltins "bool" = some (.type "bool") := by decide +kernel
theorem boot_setW : bootBuiltins "set" = some (.type "set") := by decide +kernel
/-- list(xs), tuple(xs) -/
theorem en_listL (hg : Gl X "list") (hm : X.mg "list" = none) (ha : EV X Γ a (.list ds)) (hs : starEach [a] X.env = [(false, eval a X.env)] := by rfl) : EN X Γ (.Call (.Name "list" p) [a] [] pos) ds :=
  en_callTy call_list_of hg hm boot_listW (ea_cons ha ea_nil hs) (fun M H vs Q _ r k => by
    obtain ⟨v, rfl, q⟩ := r.one
    obtain ⟨l, ws, rfl, e, _, rr⟩ := q.lst_inv
    exact ⟨l, ws, rfl, .inl (SqL.of e), fun p np => k p ws _ (upd_new np) np upd_same (rr.grow (upd_new np).grow)⟩) (by decide) (by decide) hs
theorem en_listT (hg : Gl X "list") (hm : X.mg "list" = none) (ha : EV X Γ a (.tuple ds)) (hs : starEach [a] X.env = [(false, eval a X.env)] := by rfl) : EN X Γ (.Call (.Name "list" p) [a] [] pos) ds :=
  en_callTy call_list_of hg hm boot_listW (ea_cons ha ea_nil hs) (fun M H vs Q _ r k => by
    obtain ⟨v, rfl, q⟩ := r.one
    obtain ⟨l, ws, rfl, e, rr⟩ := q.tup_inv
    exact ⟨l, ws, rfl, .inr (SqT.of e), fun p np => k p ws _ (upd_new np) np upd_same (rr.grow (upd_new np).grow)⟩) (by decide) (by decide) hs
theorem ev_tupleL (hg : Gl X "tuple") (hm : X.mg "tuple" = none) (ha : EV X Γ a (.list ds)) (hs : starEach [a] X.env = [(false, eval a X.env)] := by rfl) : EV X Γ (.Call (.Name "tuple" p) [a] [] pos) (.tuple ds) :=
  ev_callTy call_tuple_of hg hm boot_tupleW (ea_cons ha ea_nil hs) (fun M H vs Q _ r k => by
    obtain ⟨v, rfl, q⟩ := r.one
    obtain ⟨l, ws, rfl, e, _, rr⟩ := q.lst_inv
    exact ⟨l, ws, rfl, .inl ⟨SqL.of e, fun p np => k _ _ (upd_new np) (.tuple upd_same (rr.grow (upd_new np).grow))⟩⟩) (by decide) (by decide) hs
end

/-! ### what is walked, by data -/
/-- from H1 on, whatever grows, J yields the data ds -/
def JIt (M : Addr → Prop) (J : It) (ds : List PyData) (H1 : Hp) : Prop := ∀ i H', Grow M H1 H' →
  (∀ d, ds[i]? = some d → J.go i H' ∧ ∀ x H2, J.yld i H' x H2 → Same H' H2 ∧ Rep M H2 x d) ∧ (ds.length ≤ i → J.stop i H')
def IV (X : Cx) (Γ : Ge) (tg iter : Expr) (ds : List PyData) : Prop := ∀ (M : Addr → Prop) (σ : St) (H : Hp) (R : It → Hp → Prop), RS M Γ σ H → (∀ J H1, Same H H1 → JIt M J ds H1 → R J H1) → wpI X tg iter σ H R
section
variable {X : Cx} {Γ : Ge} {tg iter a b : Expr} {ds : List PyData} {p pos : Pos}
theorem iv_list (h : EV X Γ iter (.list ds)) : IV X Γ tg iter ds := fun M σ H R rs k =>
  (pi_list pe_self).wp (h M σ H _ rs fun v H1 s1 q1 => by
    obtain ⟨l, vs, rfl, e, n, r⟩ := q1.lst_inv
    refine ⟨l, rfl, ⟨vs, SqL.of e⟩, k _ H1 s1 fun i H' g => ⟨fun d hd => ?_, fun hl => ⟨vs, SqL.of (g.same _ _ n e), by rw [r.length]; exact hl⟩⟩⟩
    obtain ⟨v, hv, rv⟩ := r.get' hd
    exact ⟨⟨vs, v, SqL.of (g.same _ _ n e), hv⟩, fun x H2 ⟨e2, y⟩ => by
      subst e2
      have := y vs (SqL.of (g.same _ _ n e))
      rw [hv] at this; cases this
      exact ⟨Same.refl _, rv.grow g⟩⟩)
theorem iv_tup (h : EV X Γ iter (.tuple ds)) : IV X Γ tg iter ds := fun M σ H R rs k =>
  (pi_tup pe_self).wp (h M σ H _ rs fun v H1 s1 q1 => by
    obtain ⟨l, vs, rfl, e, r⟩ := q1.tup_inv
    refine ⟨l, rfl, ⟨vs, SqT.of e⟩, k _ H1 s1 fun i H' g => ⟨fun d hd => ?_, fun hl => ⟨vs, SqT.of (g.tups _ _ e), by rw [r.length]; exact hl⟩⟩⟩
    obtain ⟨v, hv, rv⟩ := r.get' hd
    exact ⟨⟨vs, v, SqT.of (g.tups _ _ e), hv⟩, fun x H2 ⟨e2, y⟩ => by
      subst e2
      have := y vs (SqT.of (g.tups _ _ e))
      rw [hv] at this; cases this
      exact ⟨Same.refl _, rv.grow g⟩⟩)
/-- 0, 1, .. below n -/
def rangeD (n : Nat) : List PyData := (List.range n).map fun (i : Nat) => PyData.int (i : Int)
theorem rangeD_length (n : Nat) : (rangeD n).length = n := by simp [rangeD]
theorem rangeD_get {n i : Nat} {d : PyData} (h : (rangeD n)[i]? = some d) : i < n ∧ d = .int (i : Int) := by
  unfold rangeD at h
  rw [List.getElem?_map] at h
  have hi : i < n := by
    cases e : (List.range n)[i]? with
    | none => rw [e] at h; cases h
    | some j => simpa using (List.getElem?_eq_some_iff.mp e).1
  rw [List.getElem?_range hi] at h
  exact ⟨hi, (Option.some.inj h).symm⟩
theorem mem_rangeD {n : Nat} {d : PyData} (h : d ∈ rangeD n) : ∃ i : Nat, i < n ∧ d = .int (i : Int) := by
  unfold rangeD at h
  obtain ⟨i, hi, e⟩ := List.mem_map.mp h
  exact ⟨i, List.mem_range.mp hi, e.symm⟩
theorem jit_range {M : Addr → Prop} (lo : Int) (n : Nat) (H1 : Hp) : JIt M (Itr lo n) ((List.range n).map fun (i : Nat) => PyData.int (lo + i)) H1 := fun i H' g => ⟨fun d hd => by
  rw [List.getElem?_map] at hd
  have hi : i < n := by
    cases e : (List.range n)[i]? with
    | none => rw [e] at hd; cases hd
    | some j => simpa using (List.getElem?_eq_some_iff.mp e).1
  rw [List.getElem?_range hi] at hd
  cases hd
  exact ⟨hi, fun x H2 ⟨e, y⟩ => by subst e y; exact ⟨Same.refl _, .int _⟩⟩, fun hl => by
  show n ≤ i
  simpa using hl⟩
theorem iv_range1 {n : Int} (hg : Gl X "range") (hm : X.mg "range" = none) (ha : EV X Γ a (.int n)) (h1 : -(2 ^ 62) ≤ n) (h2 : n < 2 ^ 62) (hs : starEach [a] X.env = [(false, eval a X.env)] := by rfl) : IV X Γ tg (.Call (.Name "range" p) [a] [] pos) (rangeD n.toNat) := fun M σ H R rs k =>
  (pi_range1 hg hm pa_self hs).wp ((ea_cons ha ea_nil hs) M σ H _ rs fun vs H1 s1 q1 => by
    obtain ⟨v, rfl, q⟩ := q1.one
    cases q
    refine ⟨n, rfl, h1, h2, k _ H1 s1 ?_⟩
    have := jit_range (M := M) 0 n.toNat H1
    unfold rangeD
    simpa using this)
theorem iv_range2 {m n : Int} (hg : Gl X "range") (hm : X.mg "range" = none) (ha : EV X Γ a (.int m)) (hb : EV X Γ b (.int n)) (h1 : -(2 ^ 62) ≤ m) (h2 : m < 2 ^ 62) (h3 : -(2 ^ 62) ≤ n) (h4 : n < 2 ^ 62)
    (hs : starEach [a, b] X.env = [(false, eval a X.env), (false, eval b X.env)] := by rfl) (hs2 : starEach [b] X.env = [(false, eval b X.env)] := by rfl) : IV X Γ tg (.Call (.Name "range" p) [a, b] [] pos) ((List.range (n - m).toNat).map fun (i : Nat) => PyData.int (m + i)) := fun M σ H R rs k =>
  (pi_range2 hg hm pa_self hs hs2).wp ((ea_cons ha (ea_cons hb ea_nil hs2) (by rw [hs, hs2])) M σ H _ rs fun vs H1 s1 q1 => by
    obtain ⟨v, u, rfl, q, q'⟩ := q1.two
    cases q; cases q'
    exact ⟨m, n, rfl, ⟨h1, h2, h3, h4⟩, k _ H1 s1 (jit_range m _ H1)⟩)
end

/-! ### targets by data: only slots below k are given -/
def GV (X : Cx) (k : Nat) (Γ : Ge) (tg : Expr) (d : PyData) (Γ' : Ge) : Prop := ∀ (M : Addr → Prop) (σ : St) (H : Hp) (v : V) (Q : St → Hp → Prop), RS M Γ σ H → σ.length = X.N.length → Rep M H v d →
  (∀ σ', RS M Γ' σ' H → σ'.length = σ.length → σ'.drop k = σ.drop k → Q σ' H) → wpG X tg v σ H Q
def wpGs (X : Cx) (ts : List Expr) : TGs := fun vs σ H Q => ∀ (pins : List (Addr × Obj)) (s : Shared) (us : List Value), Inv X pins σ H s → Vals vs us →
    wpAny (model X.prog X.w) X.A (assignInOrder ((assignEach ts X.env).map (·.2)) us) (fun _ s' => ∃ σ' H', Inv X pins σ' H' s' ∧ Q σ' H') X.xe s
theorem pgs_self {X : Cx} {ts : List Expr} : PGs X ts (wpGs X ts) := fun pins s σ H vs us Q I r h => h pins s us I r
theorem PGs.wp {X : Cx} {ts : List Expr} {t : TGs} {vs : List V} {σ : St} {H : Hp} {Q : St → Hp → Prop} (h : PGs X ts t) (q : t vs σ H Q) : wpGs X ts vs σ H Q := fun pins s us I r => h pins s σ H vs us Q I r q
def GVs (X : Cx) (k : Nat) (Γ : Ge) (ts : List Expr) (ds : List PyData) (Γ' : Ge) : Prop := ∀ (M : Addr → Prop) (σ : St) (H : Hp) (vs : List V) (Q : St → Hp → Prop), RS M Γ σ H → σ.length = X.N.length → RepL M H vs ds →
  (∀ σ', RS M Γ' σ' H → σ'.length = σ.length → σ'.drop k = σ.drop k → Q σ' H) → wpGs X ts vs σ H Q
section
variable {X : Cx} {k : Nat} {Γ Γ1 Γ2 : Ge} {tg : Expr} {ts : List Expr} {d : PyData} {ds : List PyData} {pos : Pos}
theorem drop_set {α : Type} {l : List α} {i k : Nat} {x : α} (h : i < k) : (l.set i x).drop k = l.drop k := by
  apply List.ext_getElem?
  intro j
  rw [List.getElem?_drop, List.getElem?_drop, List.getElem?_set_ne (by omega)]
theorem gv_name (i : Nat) {x : Str} (hN : X.N.Nodup) (hk : i < k := by decide) (hi : X.N[i]? = some x := by rfl) (hx : Loc X.env.scope x := by first | exact Or.inl rfl | exact Or.inr rfl) (hf : X.fn x = true ∨ X.env.scope.names.lookup x = some .local := by first | exact .inl rfl | exact .inr rfl | assumption) :
    GV X k Γ (.Name x pos) d (Γ.set i (some (.d d))) := fun M σ H v Q rs hl r kk =>
  (pg_name hN hi hx hf).wp (kk _ (rs.set r (by rw [hl]; exact (List.getElem?_eq_some_iff.mp hi).1)) (by simp) (drop_set hk))
theorem gvs_nil : GVs X k Γ [] [] Γ := fun M σ H vs Q rs hl r kk => pgs_nil.wp (by cases r; exact ⟨rfl, kk σ rs rfl rfl⟩)
theorem gvs_cons (h1 : GV X k Γ tg d Γ1) (h2 : GVs X k Γ1 ts ds Γ2) (hs : (assignEach (tg :: ts) X.env).map (·.2) = assign tg X.env :: (assignEach ts X.env).map (·.2) := by rfl) : GVs X k Γ (tg :: ts) (d :: ds) Γ2 := fun M σ H vs Q rs hl r kk =>
  (pgs_cons pg_self pgs_self hs).wp (by
    cases r with
    | cons q t => exact ⟨_, _, rfl, h1 M σ H _ _ rs hl q fun σ1 rs1 l1 d1 => h2 M σ1 H _ _ rs1 (l1.trans hl) t fun σ2 rs2 l2 d2 => kk σ2 rs2 (l2.trans l1) (d2.trans d1)⟩)
theorem gv_tup {n : Nat} (hc : X.calm = true) (h : GVs X k Γ ts ds Γ1) (hl : ds.length = (assignEach ts X.env).length := by rfl) (hst : (assignEach ts X.env).findIdx? (·.1) = none := by rfl) : GV X k Γ (.Tuple ts n pos) (.tuple ds) Γ1 := fun M σ H v Q rs hσ r kk =>
  (pg_tup hc pgs_self rfl hst).wp (by
    obtain ⟨a, xs, rfl, e, q⟩ := r.tup_inv
    exact ⟨a, xs, rfl, SqT.of e, by rw [q.length, hl], h M σ H xs Q rs hσ q kk⟩)
end

/-! ### comprehensions -/
def cG (k : Nat) (ix : List Nat) (Γ : Ge) : Ge := List.replicate k none ++ ix.map fun i => (Γ[i]?).join
theorem cG_get {k : Nat} {ix : List Nat} {Γ : Ge} {i : Nat} {z : Ent} (e : (cG k ix Γ)[i]? = some (some z)) : ∃ j i0, i = k + j ∧ ix[j]? = some i0 ∧ Γ[i0]? = some (some z) := by
  unfold cG at e
  by_cases hi : i < k
  · rw [List.getElem?_append_left (by simpa using hi), List.getElem?_replicate, if_pos hi] at e
    cases e
  · obtain ⟨j, rfl⟩ : ∃ j, i = k + j := ⟨i - k, by omega⟩
    rw [List.getElem?_append_right (by simp), List.length_replicate, Nat.add_sub_cancel_left, List.getElem?_map] at e
    cases q : ix[j]? with
    | none => rw [q] at e; cases e
    | some i0 =>
      rw [q] at e
      refine ⟨j, i0, rfl, q, ?_⟩
      simp only [Option.map_some, Option.some.injEq] at e
      cases z : Γ[i0]? with
      | none => rw [z] at e; cases e
      | some y => rw [z] at e; exact congrArg some e
theorem cS_get {k : Nat} {ix : List Nat} {σ : St} {j i0 : Nat} {v : V} (q : ix[j]? = some i0) (h : σ[i0]? = some (some v)) : (cS k ix σ)[k + j]? = some (some v) := by
  unfold cS
  rw [List.getElem?_append_right (by simp), List.length_replicate, Nat.add_sub_cancel_left, List.getElem?_map, q]
  simp [h]
theorem RS.comp {M : Addr → Prop} {Γ : Ge} {σ : St} {H : Hp} {k : Nat} {ix : List Nat} (r : RS M Γ σ H) : RS M (cG k ix Γ) (cS k ix σ) H := ⟨r.al, fun i d e => by
  obtain ⟨j, i0, rfl, q, e'⟩ := cG_get e
  obtain ⟨v, hv, rv⟩ := r.at' i0 d e'
  exact ⟨v, cS_get q hv, rv⟩, fun i v e => by
  obtain ⟨j, i0, rfl, q, e'⟩ := cG_get e
  exact cS_get q (r.av i0 v e')⟩
section
variable {X : Cx} {elt tg iter : Expr} {ifs : List Expr} {scope : Scope} {pos : Pos} {N' : List Str} {k : Nat} {ix : List Nat} {Γ : Ge} {ds : List PyData} {M : Addr → Prop} {σ : St} {H : Hp} {Q : VK}
/-- the parts of a block, whatever its frame -/
def gU (X : Cx) (N' : List Str) (scope : Scope) (tg : Expr) : TG := fun v σ H Q => ∀ cl C s2 H2 fp, wpG (X.comp N' scope cl C s2 H2 fp) tg v σ H Q
def fU (X : Cx) (N' : List Str) (scope : Scope) (ifs : List Expr) : TT := fun σ H Q => ∀ cl C s2 H2 fp, wpF (X.comp N' scope cl C s2 H2 fp) ifs σ H Q
def eU (X : Cx) (N' : List Str) (scope : Scope) (elt : Expr) : TE := fun σ H Q => ∀ cl C s2 H2 fp, wpE (X.comp N' scope cl C s2 H2 fp) elt σ H Q
theorem pe_compU (hcalm : X.calm = true) (S : CSc X.env.scope X.N scope N' k ix) (hf : ∀ x, foldedSetIterable iter X.env x = pure x := by intro _; rfl) :
    PE X (.ListComp elt [⟨tg, iter, ifs, 0⟩] scope pos) (tComp k ix (wpI X tg iter) (gU X N' scope tg) (fU X N' scope ifs) (eU X N' scope elt)) :=
  pe_comp hcalm S pi_self (fun cl C s2 H2 fp pins s σ H v u Q I r h => h cl C s2 H2 fp pins s u I r) (fun cl C s2 H2 fp pins s σ H Q I h => h cl C s2 H2 fp pins s I)
    (fun cl C s2 H2 fp pins s σ H Q I h => h cl C s2 H2 fp pins s I) hf
theorem ps_setU {i : Nat} {x : Str} {pos' spos : Pos} (hN : X.N.Nodup) (hi' : X.N[i]? = some x) (hx : Loc X.env.scope x) (hcalm : X.calm = true) (S : CSc X.env.scope X.N scope N' k ix)
    (hsw : swapsWith (.ListComp elt [⟨tg, iter, ifs, 0⟩] scope pos) (some (.Name x pos')) spos.line X.env = pure true) (hs : ∀ x, foldedSetIterable iter X.env x = pure x := by intro _; rfl)
    (hf : X.fn x = true ∨ X.env.scope.names.lookup x = some .local := by first | exact .inl rfl | exact .inr rfl | assumption) :
    PS X (.Assign [.Name x pos'] (.ListComp elt [⟨tg, iter, ifs, 0⟩] scope pos) spos) (tAsg (tComp k ix (wpI X tg iter) (gU X N' scope tg) (fU X N' scope ifs) (eU X N' scope elt)) (gName i)) :=
  ps_setC hN hi' hx hcalm S pi_self (fun cl C s2 H2 fp pins s σ H v u Q I r h => h cl C s2 H2 fp pins s u I r) (fun cl C s2 H2 fp pins s σ H Q I h => h cl C s2 H2 fp pins s I)
    (fun cl C s2 H2 fp pins s σ H Q I h => h cl C s2 H2 fp pins s I) hsw hs hf
/-- by an invariant (H1: the heap when the walk begins); what the walk yields may be new -/
theorem comp_tr (hi : IV X Γ tg iter ds) (rs : RS M Γ σ H) (Pv : Hp → Nat → List V → Hp → Prop) (h0 : ∀ H1, Same H H1 → Pv H1 0 [] H1)
    (hst : ∀ H1 i ys Ha Hb, Same Ha Hb → Pv H1 i ys Ha → Pv H1 i ys Hb) (hgr : ∀ H1 i ys Ha, Same H H1 → Pv H1 i ys Ha → Grow M H1 Ha ∧ ys.length ≤ i) (hz : ds.length < sizeLine)
    (hs : ∀ H1 i d x ys Ha, Same H H1 → ds[i]? = some d → Pv H1 i ys Ha → Rep M Ha x d → ∀ cl C s2 H2 fp, wpG (X.comp N' scope cl C s2 H2 fp) tg x (cS k ix σ) Ha fun σ2 H3 => σ2.drop k = (cS k ix σ).drop k ∧ ∀ cl C s2 H2 fp, wpF (X.comp N' scope cl C s2 H2 fp) ifs σ2 H3 fun b H4 =>
      if b = true then ∀ cl C s2 H2 fp, wpE (X.comp N' scope cl C s2 H2 fp) elt σ2 H4 fun y H5 => Pv H1 (i + 1) (ys ++ [y]) H5 else Pv H1 (i + 1) ys H4)
    (hd : ∀ H1 ys Ha, Same H H1 → Pv H1 ds.length ys Ha → ∀ p, Ha p = none → Q (.ref p) (upd Ha p (.lst ys))) :
    tComp k ix (wpI X tg iter) (gU X N' scope tg) (fU X N' scope ifs) (eU X N' scope elt) σ H Q := by
  refine hi M σ H _ rs fun J H1 s1 hJ => ?_
  refine ⟨fun i m ys H' => m = ds.length - i ∧ i ≤ ds.length ∧ Pv H1 i ys H', ⟨ds.length, by simp, Nat.zero_le _, h0 H1 s1⟩, ?_⟩
  rintro i m ys H' ⟨rfl, hil, p⟩
  obtain ⟨g, hyl⟩ := hgr H1 i ys H' s1 p
  refine ⟨Nat.lt_of_le_of_lt (Nat.le_trans hyl hil) hz, ?_⟩
  by_cases hlt : i < ds.length
  · obtain ⟨go, yl⟩ := (hJ i H' g).1 ds[i] (by simp [hlt])
    refine .inr ⟨go, Pv H1 (i + 1), fun ys' H'' p' => ⟨ds.length - (i + 1), by omega, rfl, hlt, p'⟩, fun x H2 hy => ?_⟩
    obtain ⟨s2, r2⟩ := yl x H2 hy
    exact hs H1 i ds[i] x ys H2 s1 (by simp [hlt]) (hst H1 i ys _ _ s2 p) r2
  · have e : i = ds.length := by omega
    subst e
    exact .inl ⟨(hJ _ H' g).2 (Nat.le_refl _), fun q nq => hd H1 ys H' s1 p q nq⟩
/-- a comprehension over plain data -/
structure EC (X : Cx) (Γ : Ge) (k : Nat) (ix : List Nat) (N' : List Str) (scope : Scope) (tg iter : Expr) (ifs : List Expr) (elt : Expr) (ds : List PyData) : Prop where
  S : CSc X.env.scope X.N scope N' k ix
  run : ∀ (M : Addr → Prop) (σ : St) (H : Hp) (Q : VK), RS M Γ σ H → (∀ a vs H', Same H H' → H a = none → H' a = some (.lst vs) → RepL M H' vs ds → Q (.ref a) H') →
    tComp k ix (wpI X tg iter) (gU X N' scope tg) (fU X N' scope ifs) (eU X N' scope elt) σ H Q
theorem EC.en (h : EC X Γ k ix N' scope tg iter ifs elt ds) (hcalm : X.calm = true) (hf : ∀ x, foldedSetIterable iter X.env x = pure x := by intro _; rfl) : EN X Γ (.ListComp elt [⟨tg, iter, ifs, 0⟩] scope pos) ds :=
  fun M σ H Q rs kk => (pe_compU hcalm h.S hf).wp (h.run M σ H Q rs kk)
theorem EC.cast {ds' : List PyData} (h : EC X Γ k ix N' scope tg iter ifs elt ds) (q : ds = ds') : EC X Γ k ix N' scope tg iter ifs elt ds' := q ▸ h
theorem ef_nil {M : Addr → Prop} {σ : St} {H : Hp} {Q : Bool → Hp → Prop} (h : Q true H) : wpF X [] σ H Q := pf_nil.wp h
theorem take_map_succ {α β : Type} {f : α → β} {l : List α} {i : Nat} {d : α} (h : l[i]? = some d) : (l.take (i + 1)).map f = (l.take i).map f ++ [f d] := by
  rw [List.take_succ, h, List.map_append]; rfl
/-- plain -/
theorem ec_comp {f : PyData → PyData} (Γt : PyData → Ge) (S : CSc X.env.scope X.N scope N' k ix) (hi : IV X Γ tg iter ds) (hz : ds.length < sizeLine)
    (hg : N'.Nodup → ∀ d ∈ ds, ∀ cl C s2 H2 fp, GV (X.comp N' scope cl C s2 H2 fp) k (cG k ix Γ) tg d (Γt d)) (he : ∀ d ∈ ds, ∀ cl C s2 H2 fp, EV (X.comp N' scope cl C s2 H2 fp) (Γt d) elt (f d)) : EC X Γ k ix N' scope tg iter [] elt (ds.map f) := ⟨S, fun M σ H Q rs kk => by
  refine comp_tr hi rs (fun H1 i ys Ha => Same H1 Ha ∧ RepL M Ha ys ((ds.take i).map f) ∧ i ≤ ds.length) (fun H1 s1 => ⟨Same.refl _, .nil, Nat.zero_le _⟩) (fun H1 i ys Ha Hb s ⟨a, b, c⟩ => ⟨a.trans s, b.grow s.grow, c⟩)
    (fun H1 i ys Ha _ ⟨a, b, c⟩ => ⟨a.grow, by rw [b.length]; simp; omega⟩) hz (fun H1 i d x ys Ha s1 hd ⟨sa, ra, hi⟩ rx cl C s2 H2 fp => ?_) (fun H1 ys Ha s1 ⟨sa, ra, hi⟩ p np => ?_)
  · have hm : d ∈ ds := List.mem_of_getElem? hd
    have hlt : i < ds.length := (List.getElem?_eq_some_iff.mp hd).1
    have rs1 : RS M Γ σ Ha := rs.grow (s1.trans sa).grow
    refine hg S.nd d hm cl C s2 H2 fp M _ Ha x _ rs1.comp ?_ rx fun σ' rs' l' d' => ⟨d', fun cl C s2 H2 fp => ef_nil (M := M) (iteT fun cl C s2 H2 fp => he d hm cl C s2 H2 fp M σ' Ha _ rs' fun y H5 s5 q5 => ⟨sa.trans s5, ?_, hlt⟩)⟩
    · show (cS k ix σ).length = N'.length
      rw [S.len]; unfold cS; simp
    · rw [take_map_succ hd]
      exact (ra.grow s5.grow).append (.cons q5 .nil)
  · rw [List.take_length] at ra
    exact kk p ys _ ((s1.trans sa).trans (upd_new np)) ((s1.trans sa).free np) upd_same (ra.grow (upd_new np).grow)⟩
/-- with one test -/
theorem ec_compIf {c : Expr} {f : PyData → PyData} {t : PyData → Bool} (Γt : PyData → Ge) (S : CSc X.env.scope X.N scope N' k ix) (hi : IV X Γ tg iter ds) (hz : ds.length < sizeLine)
    (hg : N'.Nodup → ∀ d ∈ ds, ∀ cl C s2 H2 fp, GV (X.comp N' scope cl C s2 H2 fp) k (cG k ix Γ) tg d (Γt d)) (ht : ∀ d ∈ ds, ∀ cl C s2 H2 fp, ET (X.comp N' scope cl C s2 H2 fp) (Γt d) c (t d)) (he : ∀ d ∈ ds, t d = true → ∀ cl C s2 H2 fp, EV (X.comp N' scope cl C s2 H2 fp) (Γt d) elt (f d)) : EC X Γ k ix N' scope tg iter [c] elt ((ds.filter t).map f) := ⟨S, fun M σ H Q rs kk => by
  refine comp_tr hi rs (fun H1 i ys Ha => Same H1 Ha ∧ RepL M Ha ys (((ds.take i).filter t).map f) ∧ i ≤ ds.length) (fun H1 s1 => ⟨Same.refl _, .nil, Nat.zero_le _⟩) (fun H1 i ys Ha Hb s ⟨a, b, c⟩ => ⟨a.trans s, b.grow s.grow, c⟩)
    (fun H1 i ys Ha _ ⟨a, b, c⟩ => ⟨a.grow, by
      rw [b.length, List.length_map]
      exact Nat.le_trans (List.length_filter_le _ _) (by simp; omega)⟩) hz (fun H1 i d x ys Ha s1 hd ⟨sa, ra, hi⟩ rx cl C s2 H2 fp => ?_) (fun H1 ys Ha s1 ⟨sa, ra, hi⟩ p np => ?_)
  · have hm : d ∈ ds := List.mem_of_getElem? hd
    have hlt : i < ds.length := (List.getElem?_eq_some_iff.mp hd).1
    have rs1 : RS M Γ σ Ha := rs.grow (s1.trans sa).grow
    have et : ds.take (i + 1) = ds.take i ++ [d] := by rw [List.take_succ, hd]; rfl
    refine hg S.nd d hm cl C s2 H2 fp M _ Ha x _ rs1.comp ?_ rx fun σ' rs' l' d' => ⟨d', fun cl C s2 H2 fp => (pf_one pt_self).wp (ht d hm cl C s2 H2 fp M σ' Ha _ rs' fun H4 s4 => ?_)⟩
    · show (cS k ix σ).length = N'.length
      rw [S.len]; unfold cS; simp
    · cases e : t d with
      | false =>
        refine iteF ⟨sa.trans s4, ?_, hlt⟩
        rw [et, List.filter_append, show [d].filter t = [] by simp [e], List.append_nil]
        exact ra.grow s4.grow
      | true =>
        refine iteT fun cl C s2 H2 fp => he d hm e cl C s2 H2 fp M σ' H4 _ (rs'.grow s4.grow) fun y H5 s5 q5 => ⟨(sa.trans s4).trans s5, ?_, hlt⟩
        rw [et, List.filter_append, show [d].filter t = [d] by simp [e], List.map_append]
        exact (ra.grow (s4.trans s5).grow).append (.cons q5 .nil)
  · rw [List.take_length] at ra
    exact kk p ys _ ((s1.trans sa).trans (upd_new np)) ((s1.trans sa).free np) upd_same (ra.grow (upd_new np).grow)⟩
theorem en_comp {f : PyData → PyData} (Γt : PyData → Ge) (hcalm : X.calm = true) (S : CSc X.env.scope X.N scope N' k ix) (hi : IV X Γ tg iter ds) (hz : ds.length < sizeLine)
    (hg : N'.Nodup → ∀ d ∈ ds, ∀ cl C s2 H2 fp, GV (X.comp N' scope cl C s2 H2 fp) k (cG k ix Γ) tg d (Γt d)) (he : ∀ d ∈ ds, ∀ cl C s2 H2 fp, EV (X.comp N' scope cl C s2 H2 fp) (Γt d) elt (f d))
    (hf : ∀ x, foldedSetIterable iter X.env x = pure x := by intro _; rfl) : EN X Γ (.ListComp elt [⟨tg, iter, [], 0⟩] scope pos) (ds.map f) := (ec_comp Γt S hi hz hg he).en hcalm hf
theorem en_compIf {c : Expr} {f : PyData → PyData} {t : PyData → Bool} (Γt : PyData → Ge) (hcalm : X.calm = true) (S : CSc X.env.scope X.N scope N' k ix) (hi : IV X Γ tg iter ds) (hz : ds.length < sizeLine)
    (hg : N'.Nodup → ∀ d ∈ ds, ∀ cl C s2 H2 fp, GV (X.comp N' scope cl C s2 H2 fp) k (cG k ix Γ) tg d (Γt d)) (ht : ∀ d ∈ ds, ∀ cl C s2 H2 fp, ET (X.comp N' scope cl C s2 H2 fp) (Γt d) c (t d)) (he : ∀ d ∈ ds, t d = true → ∀ cl C s2 H2 fp, EV (X.comp N' scope cl C s2 H2 fp) (Γt d) elt (f d))
    (hf : ∀ x, foldedSetIterable iter X.env x = pure x := by intro _; rfl) : EN X Γ (.ListComp elt [⟨tg, iter, [c], 0⟩] scope pos) ((ds.filter t).map f) := (ec_compIf Γt S hi hz hg ht he).en hcalm hf
end

/-! ### statements by data -/
inductive Out where
  | next (Γ : Ge)
  | ret (d : PyData)
  | new (ds : List PyData)
def Out.ends (o : Out) (M : Addr → Prop) (n : Nat) (D : Ends) (H : Hp) : Prop := match o with
  | .next Γ => ∀ σ' H', Same H H' → RS M Γ σ' H' → σ'.length = n → D.nx σ' H'
  | .ret d => ∀ v H', Same H H' → Rep M H' v d → D.rt v H'
  | .new ds => ∀ a vs H', Same H H' → H a = none → H' a = some (.lst vs) → RepL M H' vs ds → D.rt (.ref a) H'
def Out.stops : Out → Bool
  | .next _ => false
  | _ => true
theorem Out.ends_same {o : Out} {M : Addr → Prop} {n : Nat} {D : Ends} {H H' : Hp} (h : Out.ends o M n D H) (s : Same H H') : Out.ends o M n D H' := by
  cases o with
  | next Γ => exact fun σ' H2 s2 r l => h σ' H2 (s.trans s2) r l
  | ret d => exact fun v H2 s2 r => h v H2 (s.trans s2) r
  | new ds => exact fun a vs H2 s2 n e r => h a vs H2 (s.trans s2) (s.free n) e r
/-- a block, a statement: by data, changing nothing -/
def SB (X : Cx) (Γ : Ge) (sts : List Stmt) (o : Out) : Prop := ∀ (M : Addr → Prop) (σ : St) (H : Hp) (D : Ends), RS M Γ σ H → σ.length = X.N.length → o.ends M X.N.length D H → wpB X sts D σ H
def S1 (X : Cx) (Γ : Ge) (st : Stmt) (o : Out) : Prop := ∀ (M : Addr → Prop) (σ : St) (H : Hp) (D : Ends), RS M Γ σ H → σ.length = X.N.length → o.ends M X.N.length D H → wpS X st D σ H
section
variable {X : Cx} {Γ Γ1 : Ge} {st : Stmt} {sts body els : List Stmt} {o : Out} {d : PyData} {e c tg : Expr} {pos : Pos}
theorem sb_nil : SB X Γ [] (.next Γ) := fun M σ H D rs hl k => pss_nil.wp (k σ H (Same.refl H) rs hl)
theorem sb_cons (h1 : S1 X Γ st (.next Γ1)) (h2 : SB X Γ1 sts o) : SB X Γ (st :: sts) o := fun M σ H D rs hl k =>
  (pss_cons ps_self pss_self).wp (h1 M σ H _ rs hl fun σ' H' s r l => h2 M σ' H' D r l (Out.ends_same (o := o) k s))
theorem sb_stop (h1 : S1 X Γ st o) (ho : o.stops = true := by rfl) : SB X Γ (st :: sts) o := fun M σ H D rs hl k => (pss_cons ps_self pss_self).wp (h1 M σ H _ rs hl (by
  cases o with
  | next Γ => cases ho
  | ret d => exact k
  | new ds => exact k))
theorem s1_ret (h : EV X Γ e d) : S1 X Γ (.Return (some e) pos) (.ret d) := fun M σ H D rs hl k => (ps_ret pe_self).wp (h M σ H _ rs k)
theorem s1_new {ds : List PyData} (h : EN X Γ e ds) : S1 X Γ (.Return (some e) pos) (.new ds) := fun M σ H D rs hl k => (ps_ret pe_self).wp (h M σ H _ rs k)
theorem s1_if {b : Bool} (hc : ET X Γ c b) (ha : b = true → SB X Γ body o) (hb : b = false → SB X Γ els o) : S1 X Γ (.If c body els pos) o := fun M σ H D rs hl k =>
  (ps_if pt_self pss_self pss_self).wp (hc M σ H _ rs fun H1 s1 => by
    cases b with
    | true => exact iteT (ha rfl M σ H1 D (rs.grow s1.grow) hl (Out.ends_same (o := o) k s1))
    | false => exact iteF (hb rfl M σ H1 D (rs.grow s1.grow) hl (Out.ends_same (o := o) k s1)))
/-- if with a body that returns, or goes on -/
theorem sb_if {b : Bool} (hc : ET X Γ c b) (ha : b = true → SB X Γ body o ∧ o.stops = true) (hb : b = false → SB X Γ sts o) : SB X Γ (.If c body [] pos :: sts) o := by
  cases b with
  | true =>
    obtain ⟨h1, h2⟩ := ha rfl
    exact sb_stop (s1_if hc (fun _ => h1) (fun h => nomatch h)) h2
  | false => exact sb_cons (s1_if hc (fun h => nomatch h) (fun _ => sb_nil)) (hb rfl)
theorem s1_set (i : Nat) {x : Str} {pos' : Pos} (hN : X.N.Nodup) (h : EV X Γ e d) (hi : X.N[i]? = some x := by rfl) (hx : Loc X.env.scope x := by first | exact Or.inl rfl | exact Or.inr rfl) (hs : swapsWith e (some (.Name x pos')) pos.line X.env = pure false := by rfl)
    (hf : X.fn x = true ∨ X.env.scope.names.lookup x = some .local := by first | exact .inl rfl | exact .inr rfl | assumption) : S1 X Γ (.Assign [.Name x pos'] e pos) (.next (Γ.set i (some (.d d)))) := fun M σ H D rs hl k =>
  (ps_set hN hi hx pe_self hs hf).wp (h M σ H _ rs fun v H1 s1 q1 => k _ H1 s1 ((rs.grow s1.grow).set q1 (by rw [hl]; exact (List.getElem?_eq_some_iff.mp hi).1)) (by simpa using hl))
/-- x = [..] on one row -/
theorem s1_setC (i : Nat) {x : Str} {pos' spos : Pos} {k : Nat} {ix : List Nat} {N' : List Str} {scope : Scope} {iter elt : Expr} {ifs : List Expr} {ds : List PyData} (hN : X.N.Nodup) (hcalm : X.calm = true) (h : EC X Γ k ix N' scope tg iter ifs elt ds) (hi : X.N[i]? = some x := by rfl) (hx : Loc X.env.scope x := by first | exact Or.inl rfl | exact Or.inr rfl)
    (hsw : swapsWith (.ListComp elt [⟨tg, iter, ifs, 0⟩] scope pos) (some (.Name x pos')) spos.line X.env = pure true := by rfl) (hs : ∀ x, foldedSetIterable iter X.env x = pure x := by intro _; rfl)
    (hf : X.fn x = true ∨ X.env.scope.names.lookup x = some .local := by first | exact .inl rfl | exact .inr rfl | assumption) : S1 X Γ (.Assign [.Name x pos'] (.ListComp elt [⟨tg, iter, ifs, 0⟩] scope pos) spos) (.next (Γ.set i (some (.d (.list ds))))) := fun M σ H D rs hl k =>
  (ps_setU hN hi hx hcalm h.S hsw hs hf).wp (h.run M σ H _ rs fun a vs H1 s1 na ea q1 => k _ H1 s1 ((rs.grow s1.grow).set (.list ea (rs.al.new na) q1) (by rw [hl]; exact (List.getElem?_eq_some_iff.mp hi).1)) (by simpa using hl))
theorem s1_doc {x j pos'} : S1 X Γ (.Expr (.Constant (.str x) j pos) pos') (.next Γ) := fun M σ H D rs hl k => ps_doc.wp (k σ H (Same.refl H) rs hl)
/-- a walk that stores nothing for a later turn: each turn goes on, or returns the same data -/
theorem s1_for {ds : List PyData} {iter : Expr} {bad : PyData → Bool} {r : PyData} (Γt : PyData → Ge) (hcalm : X.calm = true) (hi : IV X Γ tg iter ds) (hp : PassesOwn (model X.prog X.w) X.A X.env X.xe)
    (hg : ∀ d ∈ ds, GV X 1000000 Γ tg d (Γt d)) (hb : ∀ d ∈ ds, bad d = true → SB X (Γt d) body (.ret r)) (hn : ∀ d ∈ ds, bad d = false → ∃ Γ2, SB X (Γt d) body (.next Γ2) ∧ ∀ (i : Nat) (z : Ent), Γ[i]? = some (some z) → Γ2[i]? = some (some z))
    (hs : ∀ x, foldedSetIterable iter X.env x = pure x := by intro _; rfl) : S1 X Γ (.For tg iter body [] pos) (if ds.any bad then .ret r else .next Γ) := fun M σ H D rs hl k => by
  refine (ps_for hp hcalm pi_self pg_self pss_self hs).wp (hi M σ H _ rs fun J H1 s1 hJ => ?_)
  refine ⟨fun i m σ' H' => m = ds.length - i ∧ i ≤ ds.length ∧ Same H1 H' ∧ RS M Γ σ' H' ∧ σ'.length = X.N.length ∧ ((ds.take i).any bad) = false, ⟨ds.length, by simp, Nat.zero_le _, Same.refl _, rs.grow s1.grow, hl, rfl⟩, ?_⟩
  rintro i m σ' H' ⟨rfl, hil, sa, ra, la, nb⟩
  by_cases hlt : i < ds.length
  · obtain ⟨go, yl⟩ := (hJ i H' sa.grow).1 ds[i] (by simp [hlt])
    refine .inr ⟨go, fun σ2 H2 => Same H1 H2 ∧ RS M Γ σ2 H2 ∧ σ2.length = X.N.length ∧ ((ds.take (i + 1)).any bad) = false, fun σ2 H2 ⟨a, b, c, d⟩ => ⟨ds.length - (i + 1), by omega, rfl, hlt, a, b, c, d⟩, fun x H2 hy => ?_⟩
    obtain ⟨s2, r2⟩ := yl x H2 hy
    have hm : ds[i] ∈ ds := List.getElem_mem hlt
    refine hg ds[i] hm M σ' H2 x _ (ra.grow s2.grow) la r2 fun σ3 rs3 l3 _ => ?_
    have et : ds.take (i + 1) = ds.take i ++ [ds[i]] := by rw [List.take_succ]; simp [hlt]
    cases e : bad ds[i] with
    | true =>
      have ea : ds.any bad = true := List.any_eq_true.mpr ⟨_, hm, e⟩
      rw [if_pos ea] at k
      exact hb _ hm e M σ3 H2 _ rs3 (l3.trans la) fun v H4 s4 q4 => k v H4 ((s1.trans sa).trans (s2.trans s4)) q4
    | false =>
      obtain ⟨Γ2, hb2, hsub⟩ := hn _ hm e
      refine hb2 M σ3 H2 _ rs3 (l3.trans la) fun σ4 H4 s4 rs4 l4 => ⟨sa.trans (s2.trans s4), rs4.sub hsub, l4, ?_⟩
      rw [et, List.any_append, nb, List.any_cons, e]; rfl
  · have e : i = ds.length := by omega
    subst e
    rw [List.take_length] at nb
    rw [if_neg (by rw [nb]; exact Bool.false_ne_true)] at k
    exact .inl ⟨(hJ _ H' sa.grow).2 (Nat.le_refl _), k σ' H' (s1.trans sa) ra la⟩
end

/-! ### defs by data -/
/-- a def's promise over plain data: nothing is changed -/
def spD (n : Nat) (pre : List PyData → Prop) (f : List PyData → PyData) : Sp := fun vs H Q _ => ∃ M ds, ds.length = n ∧ Al M H ∧ RepL M H vs ds ∧ pre ds ∧ ∀ v H', Same H H' → Rep M H' v (f ds) → Q v H'
/-- .. a new list -/
def spN (n : Nat) (pre : List PyData → Prop) (f : List PyData → List PyData) : Sp := fun vs H Q _ => ∃ M ds, ds.length = n ∧ Al M H ∧ RepL M H vs ds ∧ pre ds ∧ ∀ a ws H', Same H H' → H a = none → H' a = some (.lst ws) → RepL M H' ws (f ds) → Q (.ref a) H'
/-- a def of the text that keeps a promise -/
structure Kn (P : Program) (w : World) (K : PySem.W.Frag) (mg : Str → Option Value) (base : Heap) (CX : CXT) (x : Str) (k : Nat) (sp : Sp) : Prop where
  ex : ∃ (f : Addr) (fd : FuncData) (ps : List Str), FnOk P w K mg base CX k f fd ps sp ∧ mg x = some (.ref f) ∧ PySem.W.keepIn K (.ref f) = true ∧ Binds K fd ps []
section
variable {X : Cx} {Γ : Ge} {x : Str} {k : Nat} {CX : CXT} {E : XK} {n : Nat} {pre : List PyData → Prop} {e : Expr} {es : List Expr} {ds : List PyData} {p pos : Pos}
theorem wp_call {sp : Sp} {σ : St} {H : Hp} {Q : VK} (kn : Kn X.prog X.w X.K X.mg X.base CX x k sp) (hr : Room k X.A) (hg : Gl X x) (hx : Passes CX X E) (h : wpA X (e :: es) σ H fun vs H1 => sp vs H1 Q E) (hdb : (x == ("__debug__" : Str)) = false := by decide)
    (he : starEach (e :: es) X.env = (false, eval e X.env) :: starEach es X.env := by rfl) (hpl : (backTo pos (starEach es X.env)).any (·.1) = false := by rfl) : wpE X (.Call (.Name x p) (e :: es) [] pos) σ H Q := by
  obtain ⟨f, fd, ps, F, hm, hk, hb⟩ := kn.ex
  refine (pe_call F hr hg hm hk hb .nil hx pa_self hdb he hpl).wp (h.mono fun vs H1 q => ?_)
  show sp (vs ++ []) H1 Q E
  rw [List.append_nil]; exact q
theorem ev_call {f : List PyData → PyData} {d : PyData} (kn : Kn X.prog X.w X.K X.mg X.base CX x k (spD n pre f)) (hr : Room k X.A) (hg : Gl X x) (hx : Passes CX X E) (ha : EA X Γ (e :: es) ds) (hp : pre ds) (hd : f ds = d := by rfl) (hn : ds.length = n := by rfl) (hdb : (x == ("__debug__" : Str)) = false := by decide)
    (he : starEach (e :: es) X.env = (false, eval e X.env) :: starEach es X.env := by rfl) (hpl : (backTo pos (starEach es X.env)).any (·.1) = false := by rfl) : EV X Γ (.Call (.Name x p) (e :: es) [] pos) d := fun M σ H Q rs kk =>
  wp_call kn hr hg hx (ha M σ H _ rs fun vs H1 s1 q1 => ⟨M, ds, hn, (rs.grow s1.grow).al, q1, hp, fun v H2 s2 q2 => kk v H2 (s1.trans s2) (hd ▸ q2)⟩) hdb he hpl
theorem en_call {f : List PyData → List PyData} {ds' : List PyData} (kn : Kn X.prog X.w X.K X.mg X.base CX x k (spN n pre f)) (hr : Room k X.A) (hg : Gl X x) (hx : Passes CX X E) (ha : EA X Γ (e :: es) ds) (hp : pre ds) (hd : f ds = ds' := by rfl) (hn : ds.length = n := by rfl) (hdb : (x == ("__debug__" : Str)) = false := by decide)
    (he : starEach (e :: es) X.env = (false, eval e X.env) :: starEach es X.env := by rfl) (hpl : (backTo pos (starEach es X.env)).any (·.1) = false := by rfl) : EN X Γ (.Call (.Name x p) (e :: es) [] pos) ds' := fun M σ H Q rs kk =>
  wp_call kn hr hg hx (ha M σ H _ rs fun vs H1 s1 q1 => ⟨M, ds, hn, (rs.grow s1.grow).al, q1, hp, fun a ws H2 s2 na ea q2 => kk a ws H2 (s1.trans s2) (s1.free na) ea (hd ▸ q2)⟩) hdb he hpl
end
theorem startG_get {ds : List PyData} {m i : Nat} {z : Ent} (e : (ds.map (fun d => some (Ent.d d)) ++ List.replicate m none : Ge)[i]? = some (some z)) : ∃ d, ds[i]? = some d ∧ z = .d d := by
  by_cases hi : i < ds.length
  · rw [List.getElem?_append_left (by simpa using hi), List.getElem?_map] at e
    cases q : ds[i]? with
    | none => rw [q] at e; cases e
    | some y => rw [q] at e; exact ⟨y, rfl, by simpa using e.symm⟩
  · rw [List.getElem?_append_right (by simpa using hi), List.getElem?_replicate] at e
    split at e
    · cases e
    · cases e
theorem RS.startW {M : Addr → Prop} {H : Hp} {N : List Str} {vs : List V} {ds : List PyData} (al : Al M H) (r : RepL M H vs ds) (m : Nat) : RS M (ds.map (fun d => some (.d d)) ++ List.replicate m none) (start N vs) H := ⟨al, fun i d e => by
  obtain ⟨d', e', q⟩ := startG_get e
  cases q
  obtain ⟨v, hv, rv⟩ := r.get' e'
  have hiv : i < vs.length := (List.getElem?_eq_some_iff.mp hv).1
  unfold start
  exact ⟨v, by rw [List.getElem?_append_left (by simpa using hiv), List.getElem?_map, hv]; rfl, rv⟩, fun i v e => by
  obtain ⟨d', e', q⟩ := startG_get e
  cases q⟩
theorem start_length {N : List Str} {vs : List V} (h : vs.length ≤ N.length) : (start N vs).length = N.length := by
  unfold start; simp; omega

/-! ### a def as it stands behind the top -/
structure Df (K : PySem.W.Frag) (mg : Str → Option Value) (x : Str) (st : Stmt) (ps : List Str) : Prop where
  ex : ∃ f fd, Fun K x x st f fd ∧ mg x = some (.ref f) ∧ Binds K fd ps []
section
variable {P : Program} {w : World} {K : PySem.W.Frag} {mg : Str → Option Value} {base : Heap} {x : Str} {st : Stmt} {N ps : List Str} {k : Nat}
theorem Df.kn {sp : Sp} (D : Df K mg x st ps) (S : FnScope N ps (defScope st)) (len : ∀ vs H Q E, sp vs H Q E → vs.length = ps.length)
    (hbody : ∀ (f : Addr) (cdv : Value) (A : Around) (outer : List Env) (s : Shared) (H : Hp) (vs : List V) (Q : VK) (E : XK), Room k (A.deeper (envOfC x (defScope st) s.heap.objs.size f cdv)) → sp vs H Q E →
      wpB (cxOf CX0 P w K mg base N x (defScope st) f cdv A outer s H E).nox (defBody st) { nx := fun _ H' => Q .non H', rt := Q } (start N vs) H) : Kn P w K mg base CX0 x (k + 1) sp := by
  obtain ⟨f, fd, F, hm, hb⟩ := D.ex
  exact ⟨f, fd, ps, F.ok S len (fun cdv A outer s H vs Q E hr h => ⟨_, pss_self, hbody f cdv A outer s H vs Q E hr h⟩), hm, F.kp, hb⟩
/-- by data -/
theorem Df.knD {n : Nat} {pre : List PyData → Prop} {f : List PyData → PyData} (D : Df K mg x st ps) (S : FnScope N ps (defScope st)) (hn : n = ps.length) (hle : n ≤ N.length)
    (hbody : ∀ (fa : Addr) (cdv : Value) (A : Around) (outer : List Env) (s : Shared) (H : Hp) (E : XK) (ds : List PyData), Room k (A.deeper (envOfC x (defScope st) s.heap.objs.size fa cdv)) → ds.length = n → pre ds →
      SB (cxOf CX0 P w K mg base N x (defScope st) fa cdv A outer s H E).nox (ds.map (fun d => some (.d d)) ++ List.replicate (N.length - n) none) (defBody st) (.ret (f ds))) : Kn P w K mg base CX0 x (k + 1) (spD n pre f) :=
  D.kn S (fun vs H Q E ⟨M, ds, hl, al, r, _⟩ => by rw [r.length, hl, hn]) fun fa cdv A outer s H vs Q E hr ⟨M, ds, hl, al, r, hp, kk⟩ =>
    hbody fa cdv A outer s H E ds hr hl hp M _ H _ (.startW al r _) (start_length (by rw [r.length, hl]; exact hle)) kk
theorem Df.knN {n : Nat} {pre : List PyData → Prop} {f : List PyData → List PyData} (D : Df K mg x st ps) (S : FnScope N ps (defScope st)) (hn : n = ps.length) (hle : n ≤ N.length)
    (hbody : ∀ (fa : Addr) (cdv : Value) (A : Around) (outer : List Env) (s : Shared) (H : Hp) (E : XK) (ds : List PyData), Room k (A.deeper (envOfC x (defScope st) s.heap.objs.size fa cdv)) → ds.length = n → pre ds →
      SB (cxOf CX0 P w K mg base N x (defScope st) fa cdv A outer s H E).nox (ds.map (fun d => some (.d d)) ++ List.replicate (N.length - n) none) (defBody st) (.new (f ds))) : Kn P w K mg base CX0 x (k + 1) (spN n pre f) :=
  D.kn S (fun vs H Q E ⟨M, ds, hl, al, r, _⟩ => by rw [r.length, hl, hn]) fun fa cdv A outer s H vs Q E hr ⟨M, ds, hl, al, r, hp, kk⟩ =>
    hbody fa cdv A outer s H E ds hr hl hp M _ H _ (.startW al r _) (start_length (by rw [r.length, hl]; exact hle)) kk
end

/-! ### blocks, statement by statement, with what may change -/
section
variable {X : Cx} {M : Addr → Prop} {Γ Γ1 : Ge} {σ : St} {H : Hp} {D : Ends} {st : Stmt} {sts body els : List Stmt} {o : Out} {d : PyData} {e c tg : Expr} {pos pos' : Pos} {x : Str}
theorem wb_s1 (h : S1 X Γ st (.next Γ1)) (rs : RS M Γ σ H) (hl : σ.length = X.N.length) (k : ∀ σ' H', Same H H' → RS M Γ1 σ' H' → σ'.length = X.N.length → wpB X sts D σ' H') : wpB X (st :: sts) D σ H :=
  (pss_cons ps_self pss_self).wp (h M σ H _ rs hl k)
theorem wb_wp (i : Nat) {Q : VK} (hN : X.N.Nodup) (h : wpE X e σ H Q) (k : ∀ v H', Q v H' → wpB X sts D (σ.set i (some v)) H') (hi : X.N[i]? = some x := by rfl) (hx : Loc X.env.scope x := by first | exact Or.inl rfl | exact Or.inr rfl) (hs : swapsWith e (some (.Name x pos')) pos.line X.env = pure false := by rfl)
    (hf : X.fn x = true ∨ X.env.scope.names.lookup x = some .local := by first | exact .inl rfl | exact .inr rfl | assumption) : wpB X (.Assign [.Name x pos'] e pos :: sts) D σ H :=
  (pss_cons (ps_set hN hi hx pe_self hs hf) pss_self).wp (h.mono k)
theorem wb_if {b : Bool} (hc : ET X Γ c b) (rs : RS M Γ σ H) (ha : b = true → ∀ H', Same H H' → wpB X body { D with nx := fun σ' H' => wpB X sts D σ' H' } σ H') (hb : b = false → ∀ H', Same H H' → wpB X els { D with nx := fun σ' H' => wpB X sts D σ' H' } σ H') : wpB X (.If c body els pos :: sts) D σ H :=
  (pss_cons (ps_if pt_self pss_self pss_self) pss_self).wp (hc M σ H _ rs fun H1 s1 => by
    cases b with
    | true => exact iteT (ha rfl H1 s1)
    | false => exact iteF (hb rfl H1 s1))
theorem wb_ret {Q : VK} (h : wpE X e σ H Q) (k : ∀ v H', Q v H' → D.rt v H') : wpB X (.Return (some e) pos :: sts) D σ H := (pss_cons (ps_ret pe_self) pss_self).wp (h.mono k)
theorem wb_retE (h : EV X Γ e d) (rs : RS M Γ σ H) (k : ∀ v H', Same H H' → Rep M H' v d → D.rt v H') : wpB X (.Return (some e) pos :: sts) D σ H := (pss_cons (ps_ret pe_self) pss_self).wp (h M σ H _ rs k)
theorem wb_nil (h : D.nx σ H) : wpB X [] D σ H := pss_nil.wp h
end

theorem EN.cast {X : Cx} {Γ : Ge} {e : Expr} {ds ds' : List PyData} (h : EN X Γ e ds) (q : ds = ds') : EN X Γ e ds' := q ▸ h
theorem EV.cast {X : Cx} {Γ : Ge} {e : Expr} {d d' : PyData} (h : EV X Γ e d) (q : d = d') : EV X Γ e d' := q ▸ h
theorem ET.cast {X : Cx} {Γ : Ge} {e : Expr} {d d' : Bool} (h : ET X Γ e d) (q : d = d') : ET X Γ e d' := q ▸ h
theorem SB.cast {X : Cx} {Γ : Ge} {e : List Stmt} {d d' : Out} (h : SB X Γ e d) (q : d = d') : SB X Γ e d' := q ▸ h
theorem flat1 {α : Type} (n : Nat) (x : α) : (List.replicate n [x]).flatten = List.replicate n x := by
  induction n with
  | zero => rfl
  | succ n ih => rw [List.replicate_succ, List.flatten_cons, ih]; rfl
theorem map_rangeD_const {β : Type} (n : Nat) (x : β) : (rangeD n).map (fun _ => x) = List.replicate n x := by
  unfold rangeD
  rw [List.map_map]
  show (List.range n).map (fun _ => x) = _
  rw [List.map_const']; simp
theorem S1.cast {X : Cx} {Γ : Ge} {e : Stmt} {d d' : Out} (h : S1 X Γ e d) (q : d = d') : S1 X Γ e d' := q ▸ h
/-- .. each turn goes on -/
theorem s1_forOk {X : Cx} {Γ : Ge} {body : List Stmt} {tg iter : Expr} {pos : Pos} {ds : List PyData} (Γt : PyData → Ge) (hcalm : X.calm = true) (hi : IV X Γ tg iter ds) (hp : PassesOwn (model X.prog X.w) X.A X.env X.xe)
    (hg : ∀ d ∈ ds, GV X 1000000 Γ tg d (Γt d)) (hn : ∀ d ∈ ds, ∃ Γ2, SB X (Γt d) body (.next Γ2) ∧ ∀ (i : Nat) (z : Ent), Γ[i]? = some (some z) → Γ2[i]? = some (some z))
    (hs : ∀ x, foldedSetIterable iter X.env x = pure x := by intro _; rfl) : S1 X Γ (.For tg iter body [] pos) (.next Γ) :=
  S1.cast (s1_for (bad := fun _ => false) (r := .none) Γt hcalm hi hp hg (fun _ _ h => nomatch h) (fun d hd _ => hn d hd) hs) (by rw [if_neg]; simp)
/-- what a list of names knows, seen by places -/
theorem sub3 {a b : Option Ent} {z : Ent} : ∀ (i : Nat) (x : Ent), ([a, b, none] : Ge)[i]? = some (some x) → ([a, b, some z] : Ge)[i]? = some (some x)
  | 0, _, h => h
  | 1, _, h => h
  | 2, _, h => by cases h
  | i + 3, _, h => by simp at h
section
variable {X : Cx} {M : Addr → Prop} {Γ Γ1 : Ge} {σ : St} {H : Hp} {D : Ends} {sts : List Stmt} {e : Expr} {ds : List PyData} {d : PyData} {pos pos' : Pos} {x : Str}
theorem RS.more {a : Addr} {H' : Hp} (rs : RS M Γ σ H) (s : Same H H') (n : H a = none) (e : H' a ≠ none) : RS (fun b => M b ∨ b = a) Γ σ H' := ⟨fun b hb => by
  rcases hb with z | z
  · exact (rs.al.grow (M' := M) s.grow) b z
  · subst z; exact e, fun i d ei => by
  obtain ⟨v, e1, r1⟩ := rs.at' i d ei
  exact ⟨v, e1, (r1.less (M' := fun b => M b ∨ b = a) fun b hb nb => by
    rcases hb with z | z
    · exact z
    · subst z; exact absurd n nb).grow s.grow⟩, rs.av⟩
/-- x = a new list: from now on it may change -/
theorem wb_new (i : Nat) (hN : X.N.Nodup) (h : EN X Γ e ds) (rs : RS M Γ σ H) (hl : σ.length = X.N.length)
    (k : ∀ a vs σ' H', Same H H' → H a = none → H' a = some (.lst vs) → RepL M H' vs ds → RS (fun b => M b ∨ b = a) (Γ.set i (some (.v (.ref a)))) σ' H' → σ'.length = X.N.length → wpB X sts D σ' H')
    (hi : X.N[i]? = some x := by rfl) (hx : Loc X.env.scope x := by first | exact Or.inl rfl | exact Or.inr rfl) (hs : swapsWith e (some (.Name x pos')) pos.line X.env = pure false := by rfl)
    (hf : X.fn x = true ∨ X.env.scope.names.lookup x = some .local := by first | exact .inl rfl | exact .inr rfl | assumption) : wpB X (.Assign [.Name x pos'] e pos :: sts) D σ H := by
  refine wb_wp i (Q := fun v H' => ∃ a vs, v = .ref a ∧ Same H H' ∧ H a = none ∧ H' a = some (.lst vs) ∧ RepL M H' vs ds) hN (h M σ H _ rs fun a vs H' s n e' r => ⟨a, vs, rfl, s, n, e', r⟩) (fun v H' ⟨a, vs, ev, s, n, e', r⟩ => ?_) hi hx hs hf
  subst ev
  have rs1 : RS (fun b => M b ∨ b = a) Γ σ H' := rs.more s n (by rw [e']; exact fun q => nomatch q)
  exact k a vs _ H' s n e' r (rs1.setV (by rw [hl]; exact (List.getElem?_eq_some_iff.mp hi).1)) (by simpa using hl)
/-- x = a new list, seen as data first; it may be made one that changes later -/
theorem wb_newD (i : Nat) (hN : X.N.Nodup) (h : EN X Γ e ds) (rs : RS M Γ σ H) (hl : σ.length = X.N.length)
    (k : ∀ a vs σ' H', Same H H' → H a = none → H' a = some (.lst vs) → RepL M H' vs ds → RS M (Γ.set i (some (.d (.list ds)))) σ' H' → σ'.length = X.N.length → (∀ H2, Same H' H2 → RS (fun b => M b ∨ b = a) (Γ.set i (some (.v (.ref a)))) σ' H2) → wpB X sts D σ' H')
    (hi : X.N[i]? = some x := by rfl) (hx : Loc X.env.scope x := by first | exact Or.inl rfl | exact Or.inr rfl) (hs : swapsWith e (some (.Name x pos')) pos.line X.env = pure false := by rfl)
    (hf : X.fn x = true ∨ X.env.scope.names.lookup x = some .local := by first | exact .inl rfl | exact .inr rfl | assumption) : wpB X (.Assign [.Name x pos'] e pos :: sts) D σ H := by
  refine wb_wp i (Q := fun v H' => ∃ a vs, v = .ref a ∧ Same H H' ∧ H a = none ∧ H' a = some (.lst vs) ∧ RepL M H' vs ds) hN (h M σ H _ rs fun a vs H' s n e' r => ⟨a, vs, rfl, s, n, e', r⟩) (fun v H' ⟨a, vs, ev, s, n, e', r⟩ => ?_) hi hx hs hf
  subst ev
  have hil : i < σ.length := by rw [hl]; exact (List.getElem?_eq_some_iff.mp hi).1
  exact k a vs _ H' s n e' r ((rs.grow s.grow).set (.list e' (rs.al.new n) r) hil) (by simpa using hl) fun H2 s2 => (rs.more (s.trans s2) n (by rw [s2 _ _ e']; exact fun q => nomatch q)).setV hil
end
mutual
/-- no list within -/
def noL : PyData → Bool
  | .list _ => false
  | .tuple ds => noLs ds
  | .dict _ => false
  | _ => true
def noLs : List PyData → Bool
  | [] => true
  | d :: ds => noL d && noLs ds
end
mutual
theorem Rep.free {M M' : Addr → Prop} {H : Hp} : ∀ {v : V} {d : PyData}, noL d = true → Rep M H v d → Rep M' H v d
  | _, _, _, .none => .none
  | _, _, _, .bool b => .bool b
  | _, _, _, .int i => .int i
  | _, _, _, .str x => .str x
  | _, _, h, .list e n r => by simp [noL] at h
  | _, _, h, .tuple e r => .tuple e (RepL.free (by simpa [noL] using h) r)
theorem RepL.free {M M' : Addr → Prop} {H : Hp} : ∀ {vs : List V} {ds : List PyData}, noLs ds = true → RepL M H vs ds → RepL M' H vs ds
  | _, _, _, .nil => .nil
  | _, _, h, .cons r t => by
    rw [noLs, Bool.and_eq_true] at h
    exact .cons (Rep.free h.1 r) (RepL.free h.2 t)
end
theorem noLs_of : ∀ {ds : List PyData}, (∀ d ∈ ds, noL d = true) → noLs ds = true
  | [], _ => rfl
  | d :: ds, h => by rw [noLs, h d List.mem_cons_self, noLs_of fun x hx => h x (List.mem_cons_of_mem _ hx)]; rfl
section
variable {X : Cx} {M : Addr → Prop} {Γ Γ1 : Ge} {σ : St} {H : Hp} {D : Ends} {sts : List Stmt} {e : Expr} {ds : List PyData} {d : PyData} {pos pos' p2 p3 : Pos} {x : Str} {l : Addr} {vs : List V}
/-- xs.append(e), xs a list that may change -/
theorem wb_append (j : Nat) (rs : RS M Γ σ H) (he : EV X Γ e d) (hm : M l) (hH : H l = some (.lst vs)) (hz : vs.length < 1000)
    (k : ∀ v H1, Same H H1 → Rep M H1 v d → RS M Γ σ (upd H1 l (.lst (vs ++ [v]))) → wpB X sts D σ (upd H1 l (.lst (vs ++ [v]))))
    (hΓ : Γ[j]? = some (some (.v (.ref l))) := by rfl) (hi : X.N[j]? = some x := by rfl) (hv : Vis X.env.scope x := by first | exact Or.inl rfl | exact Or.inr (Or.inl rfl) | exact Or.inr (Or.inr rfl)) (hd : (x == ("__debug__" : Str)) = false := by decide) (hcd : (x == ("__classdict__" : Str)) = false := by decide)
    (hst : starEach [e] X.env = [(false, eval e X.env)] := by rfl)
    (hpe : PE X (.Call (.Attribute (.Name x p2) "append" p3) [e] [] pos) (tBM X.K "list" rAppend (tVar j) (tCons (wpE X e) tNil)))
    (hs : swapsWith (.Call (.Attribute (.Name x p2) "append" p3) [e] [] pos) none pos'.line X.env = pure false := by rfl) : wpB X (.Expr (.Call (.Attribute (.Name x p2) "append" p3) [e] [] pos) pos' :: sts) D σ H := by
  refine (pss_cons (ps_expr hpe hs) pss_self).wp ⟨_, rs.av j _ hΓ, .inl ⟨rfl, _, SqL.of hH⟩, he M σ H _ rs fun v H1 s1 q1 => ⟨l, vs, v, rfl, rfl, s1 _ _ hH, small1000 (by omega), ?_⟩⟩
  exact k v H1 s1 q1 ((rs.grow s1.grow).grow ⟨fun c u n e' => by rw [upd_ne (fun z => n (by subst z; exact hm))]; exact e', fun c ys e' => by
    rw [upd_ne (ne_of e' (s1 _ _ hH) (by intro z; cases z))]; exact e', fun c n => by
    by_cases z : c = l
    · subst z; rw [upd_same]; exact fun q => nomatch q
    · rw [upd_ne z]; exact n⟩)
end

/-! ### the defs as the top has made them -/
theorem Df.of {K : PySem.W.Frag} {mg : Str → Option Value} {h : Heap} {x : Str} {st : Stmt} {ps : List Str} {f : Addr} {oc : Value} {od an : Option Addr} {sl : Array (Option Value)} {kV dc pm cd ct : Value} (X : K.In h) (G : h.Ns mainGlobals mg)
    (a : PySem.W.nsIn K mainGlobals x = some (some (.ref f))) (l : K.lookup f = some ⟨oc, od, .func (PySem.W.fnOf x x (defArgs st) (defBody st) (defScope st) .none kV dc pm an cd ct), sl⟩) (c : PySem.W.codeIn K cd x = true) (k : PySem.W.keepIn K (.ref f) = true)
    (hb : ∀ (kV doc pm : Value) (an : Option Addr) (cdv ct : Value) (us : List Value), us.length = ps.length → bindArgs (PySem.W.fnOf x x (defArgs st) (defBody st) (defScope st) .none kV doc pm an cdv ct) ⟨us, []⟩ = pure (ps.zip us)) : Df K mg x st ps :=
  ⟨f, _, fun_mk (st := st) l c k, PySem.W.mg_of X G a, (fun_mk (st := st) l c k).binds hb⟩
/-- the law's own def -/
structure Dl (K : PySem.W.Frag) (x : Str) (st : Stmt) (fa : Addr) (p : Str) : Prop where
  ex : ∃ fd : FuncData, Fun K x x st fa fd ∧ ∀ (s : Shared) (u : Value), BindsTo s fd ⟨[u], []⟩ [(p, u)]
theorem Dl.of {K : PySem.W.Frag} {mg : Str → Option Value} {h : Heap} {x p : Str} {st : Stmt} {f fa : Addr} {oc : Value} {od an : Option Addr} {sl : Array (Option Value)} {kV dc pm cd ct : Value} (X : K.In h) (G : h.Ns mainGlobals mg) (hfa : mg x = some (.ref fa))
    (a : PySem.W.nsIn K mainGlobals x = some (some (.ref f))) (l : K.lookup f = some ⟨oc, od, .func (PySem.W.fnOf x x (defArgs st) (defBody st) (defScope st) .none kV dc pm an cd ct), sl⟩) (c : PySem.W.codeIn K cd x = true) (k : PySem.W.keepIn K (.ref f) = true)
    (hb : ∀ (s : Shared) (u : Value), BindsTo s (PySem.W.fnOf x x (defArgs st) (defBody st) (defScope st) .none kV dc pm an cd ct) ⟨[u], []⟩ [(p, u)]) : Dl K x st fa p := by
  have e := hfa.symm.trans (PySem.W.mg_of X G a)
  cases e
  exact ⟨_, fun_mk (st := st) l c k, hb⟩
/-- a law's promise: a script of at most 63 ints is handed in, True comes out -/
def spLaw (K : PySem.W.Frag) : Sp := fun vs H Q _ => ∃ (a : Addr) (ns : List Int), vs = [.ref a] ∧ SqL K H a (ns.map V.int) ∧ ns.length ≤ 63 ∧ ∀ H', Q (.bl true) H'
theorem Fun.law {P : Program} {w : World} {K : PySem.W.Frag} {mg : Str → Option Value} {base : Heap} {x p : Str} {st : Stmt} {N : List Str} {k : Nat} {f : Addr} {fd : FuncData} (F : Fun K x x st f fd) (S : FnScope N [p] (defScope st))
    (hbody : ∀ (cdv : Value) (A : Around) (outer : List Env) (s : Shared) (H : Hp) (Q : VK) (E : XK) (a : Addr) (ns : List Int), Room k (A.deeper (envOfC x (defScope st) s.heap.objs.size f cdv)) → SqL K H a (ns.map V.int) → ns.length ≤ 63 → (∀ H', Q (.bl true) H') →
      wpB (cxOf CX0 P w K mg base N x (defScope st) f cdv A outer s H E).nox (defBody st) { nx := fun _ H' => Q .non H', rt := Q } (start N [.ref a]) H) : FnOk P w K mg base CX0 (k + 1) f fd [p] (spLaw K) :=
  F.ok S (fun vs H Q E ⟨a, ns, e, _⟩ => by rw [e]; rfl) fun cdv A outer s H vs Q E hr ⟨a, ns, e, hS, hlen, kk⟩ => ⟨_, pss_self, by subst e; exact hbody cdv A outer s H Q E a ns hr hS hlen kk⟩
theorem walkL {l : PySem.W.OpenLaw} {q : Program} {loose : List Str} {XP : (Str → Option Value) → Heap → Prop} {YP : World → Heap → Prop} {d : DefRec} {K : Params → PySem.W.Frag} {k : Nat} {st : Stmt} (hn : l.most = some 63) (hdf : d.params.defaults = []) (hk : Room k callerA)
    (hY : ∀ (w : World) (h : Heap), YP w h → (K w.params).In h)
    (F : ∀ (w : World) (mg : Str → Option Value) (fa : Addr) (h : Heap), (K w.params).In h → h.Ns mainGlobals mg → mg d.name = some (.ref fa) →
      Dl (K w.params) "law" st fa "_law_script" ∧ ∀ (fd : FuncData), Fun (K w.params) "law" "law" st fa fd → ∀ base : Heap, FnOk l.prog w (K w.params) mg base CX0 k fa fd ["_law_script"] (spLaw (K w.params))) :
    PySem.W.WalkO q loose XP YP l.row.toRowW d [] (fun f vs => PySem.call f vs) :=
  L2.walk_of (n := 63) (k := k) (x := "_law_script") (CX := fun _ => CX0) (sp := fun w => spLaw (K w.params)) hn (by decide) hdf hk hY (fun w mg fa h KX G hm => by
    obtain ⟨⟨fd, Ff, hb⟩, hF⟩ := F w mg fa h KX G hm
    exact ⟨fd, hb, fun base _ _ => hF fd Ff base⟩) (fun _ _ a ns hl _ hS => ⟨a, ns, rfl, hS, hl, fun _ => rfl⟩) fun _ _ _ _ _ z => z
end L2

set_option Elab.async false
set_option linter.all false
set_option maxRecDepth 100000
/-! The box out of which the numbers are drawn. -/
namespace L2
open PySem PySem.Spec PyProof.Rows
/-- the box at b: five items; it may change, what it draws from may not -/
structure BoxIs (M : Addr → Prop) (H : Hp) (b c : Addr) (cells : List Int) (i l t s : Int) : Prop where
  mb : M b
  hb : H b = some (.lst [.ref c, .int i, .int l, .int t, .int s])
  hc : Rep M H (.ref c) (.list (cells.map PyData.int))
  hi : 0 ≤ i
def BoxAt (M : Addr → Prop) (H : Hp) (b : Addr) : Prop := ∃ c cells i l t s, BoxIs M H b c cells i l t s
theorem grow_upd {H : Hp} {b : Addr} {xs : List V} {o : HO} (h : H b = some (.lst xs)) : Grow (fun a => a = b) H (upd H b o) := ⟨fun c u n e => by rw [upd_ne n]; exact e, fun c ys e => by
  have : c ≠ b := ne_of e h (by intro z; cases z)
  rw [upd_ne this]; exact e, fun c n => by
  by_cases z : c = b
  · subst z; rw [upd_same]; exact fun q => nomatch q
  · rw [upd_ne z]; exact n⟩
theorem BoxIs.upd {M : Addr → Prop} {H : Hp} {b c : Addr} {cells : List Int} {i l t s : Int} (B : BoxIs M H b c cells i l t s) {i' l' t' s' : Int} (hi : 0 ≤ i') :
    BoxIs M (upd H b (.lst [.ref c, .int i', .int l', .int t', .int s'])) b c cells i' l' t' s' :=
  ⟨B.mb, upd_same, B.hc.grow ((grow_upd B.hb).mono fun a z => by subst z; exact B.mb), hi⟩
theorem BoxIs.grow {M M' : Addr → Prop} {H H' : Hp} {b c : Addr} {cells : List Int} {i l t s : Int} (B : BoxIs M H b c cells i l t s) (g : Grow M' H H') (h : ¬ M' b) (hm : ∀ a, M' a → M a) : BoxIs M H' b c cells i l t s :=
  ⟨B.mb, g.same _ _ h B.hb, B.hc.grow (g.mono hm), B.hi⟩
theorem BoxAt.same {M : Addr → Prop} {H H' : Hp} {b : Addr} (B : BoxAt M H b) (s : Same H H') : BoxAt M H' b := let ⟨c, cells, i, l, t, sd, B⟩ := B
  ⟨c, cells, i, l, t, sd, B.grow (M' := fun _ => False) s.grow (fun z => z) (fun _ z => z.elim)⟩
theorem BoxAt.less {M M' : Addr → Prop} {H : Hp} {b : Addr} (B : BoxAt M H b) (h : M' b) (g : ∀ a, M' a → H a ≠ none → M a) : BoxAt M' H b := let ⟨c, cells, i, l, t, sd, B⟩ := B
  ⟨c, cells, i, l, t, sd, h, B.hb, B.hc.less g, B.hi⟩
theorem BoxAt.mem {M : Addr → Prop} {H : Hp} {b : Addr} (B : BoxAt M H b) : M b := let ⟨_, _, _, _, _, _, B⟩ := B; B.mb
theorem BoxAt.lst {M : Addr → Prop} {H : Hp} {b : Addr} (B : BoxAt M H b) : ∃ xs, H b = some (.lst xs) := let ⟨_, _, _, _, _, _, B⟩ := B; ⟨_, B.hb⟩
/-- one thing at b is changed at most -/
abbrev GrowB (b : Addr) (H H' : Hp) : Prop := Grow (fun a => a = b) H H'

def mixedI (n t : Int) : Int := (((n * 48271 + t * 69621 + 12345) % 2147483647) * (((n * 48271 + t * 69621 + 12345) % 2147483647) % 65521 + 7) + t * 40692 + n % 104729) % 998244353 / 7
def spMixed : Sp := spD 2 (fun ds => ∃ n t, ds = [.int n, .int t]) (fun ds => match ds with | [.int n, .int t] => .int (mixedI n t) | _ => .none)
/-- a drawn number below n; the box goes on -/
def spTake : Sp := fun vs H Q _ => ∃ M b n, vs = [.ref b, .int n] ∧ Al M H ∧ BoxAt M H b ∧ 1 ≤ n ∧ n < 1073741824 ∧ ∀ r H', 0 ≤ r → r < n → GrowB b H H' → BoxAt M H' b → Q (.int r) H'
/-- a new box out of the script -/
def spBox (K : PySem.W.Frag) : Sp := fun vs H Q _ => ∃ (a : Addr) (ns : List Int), vs = [.ref a] ∧ SqL K H a (ns.map V.int) ∧ ns.length ≤ 63 ∧ ∀ b H', Same H H' → H b = none → H' b ≠ none → BoxAt (fun a => a = b) H' b → Q (.ref b) H'
theorem RepL.intsInv {M : Addr → Prop} {H : Hp} : ∀ {vs : List V} {ns : List Int}, RepL M H vs (ns.map PyData.int) → vs = ns.map V.int
  | _, [], .nil => rfl
  | _, n :: ns, .cons q t => by cases q; rw [List.map_cons, ← RepL.intsInv t]
theorem RepL.ofInts {M : Addr → Prop} {H : Hp} (ns : List Int) : RepL M H (ns.map V.int) (ns.map PyData.int) := RepL.ints ns

section
variable {X : Cx} {M : Addr → Prop} {Γ : Ge} {σ : St} {H : Hp} {D : Ends} {sts : List Stmt} {e e1 : Expr} {p pos pos' : Pos} {x : Str} {k : Nat} {b : Addr} {n : Int} {Q : VK}
theorem wp_take {j : Nat} {y : Str} {p2 : Pos} (kn : Kn X.prog X.w X.K X.mg X.base CX0 "_law_take" k spTake) (hr : Room k X.A) (rs : RS M Γ σ H) (B : BoxAt M H b) (he : EV X Γ e1 (.int n)) (h1 : 1 ≤ n) (h2 : n < 1073741824)
    (kk : ∀ r H', 0 ≤ r → r < n → GrowB b H H' → BoxAt M H' b → Q (.int r) H')
    (hj : X.N[j]? = some y := by rfl) (hv : Vis X.env.scope y := by first | exact Or.inl rfl | exact Or.inr (Or.inl rfl) | exact Or.inr (Or.inr rfl)) (hΓ : Γ[j]? = some (some (.v (.ref b))) := by rfl) (hg : Gl X "_law_take" := by rfl)
    (hd : (y == ("__debug__" : Str)) = false := by decide) (hcd : (y == ("__classdict__" : Str)) = false := by decide)
    (hs : starEach [.Name y p2, e1] X.env = [(false, eval (.Name y p2) X.env), (false, eval e1 X.env)] := by rfl) (hs2 : starEach [e1] X.env = [(false, eval e1 X.env)] := by rfl)
    (hpl : (backTo pos (starEach [e1] X.env)).any (·.1) = false := by rfl) : wpE X (.Call (.Name "_law_take" p) [.Name y p2, e1] [] pos) σ H Q := by
  refine wp_call kn hr hg pass0 ?_ (by decide) (by rw [hs, hs2]) hpl
  refine (pa_cons (pe_var hj hv hd hcd) (pa_cons pe_self pa_nil (by rw [hs2]; rfl)) (by rw [hs, hs2])).wp ⟨_, rs.av j _ hΓ, he M σ H _ rs fun v H1 s1 q1 => ?_⟩
  cases q1
  exact ⟨M, b, n, rfl, (rs.grow s1.grow).al, B.same s1, h1, h2, fun r H' h3 h4 g B' => kk r H' h3 h4 ((s1.grow (M := fun a => a = b)).trans g) B'⟩
theorem RS.growB (rs : RS M Γ σ H) {H' : Hp} (g : GrowB b H H') (B : BoxAt M H b) : RS M Γ σ H' := rs.grow (g.mono fun a z => by subst z; exact B.mem)
/-- x = _law_take(box, n) -/
theorem wb_take (i : Nat) {j : Nat} {y : Str} {p2 : Pos} (hN : X.N.Nodup) (kn : Kn X.prog X.w X.K X.mg X.base CX0 "_law_take" k spTake) (hr : Room k X.A) (rs : RS M Γ σ H) (hl : σ.length = X.N.length) (B : BoxAt M H b) (he : EV X Γ e1 (.int n)) (h1 : 1 ≤ n) (h2 : n < 1073741824)
    (kk : ∀ r σ' H', 0 ≤ r → r < n → GrowB b H H' → BoxAt M H' b → RS M (Γ.set i (some (.d (.int r)))) σ' H' → σ'.length = X.N.length → wpB X sts D σ' H')
    (hi : X.N[i]? = some x := by rfl) (hx : Loc X.env.scope x := by first | exact Or.inl rfl | exact Or.inr rfl) (hf : X.fn x = true ∨ X.env.scope.names.lookup x = some .local := by first | exact .inl rfl | exact .inr rfl | assumption)
    (hj : X.N[j]? = some y := by rfl) (hv : Vis X.env.scope y := by first | exact Or.inl rfl | exact Or.inr (Or.inl rfl) | exact Or.inr (Or.inr rfl)) (hΓ : Γ[j]? = some (some (.v (.ref b))) := by rfl) (hg : Gl X "_law_take" := by rfl)
    (hd : (y == ("__debug__" : Str)) = false := by decide) (hcd : (y == ("__classdict__" : Str)) = false := by decide)
    (hs : starEach [.Name y p2, e1] X.env = [(false, eval (.Name y p2) X.env), (false, eval e1 X.env)] := by rfl) (hs2 : starEach [e1] X.env = [(false, eval e1 X.env)] := by rfl)
    (hpl : (backTo p (starEach [e1] X.env)).any (·.1) = false := by rfl) {p3 : Pos} : wpB X (.Assign [.Name x pos'] (.Call (.Name "_law_take" p3) [.Name y p2, e1] [] p) pos :: sts) D σ H := by
  refine wb_wp i (Q := fun v H' => ∃ r', v = .int r' ∧ 0 ≤ r' ∧ r' < n ∧ GrowB b H H' ∧ BoxAt M H' b) hN (wp_take kn hr rs B he h1 h2 (fun r H' a1 a2 a3 a4 => ⟨r, rfl, a1, a2, a3, a4⟩) hj hv hΓ hg hd hcd hs hs2 hpl) (fun v H' ⟨r, e, a1, a2, a3, a4⟩ => ?_) hi hx rfl hf
  subst e
  exact kk r _ H' a1 a2 a3 a4 ((rs.growB a3 B).set (.int r) (by rw [hl]; exact (List.getElem?_eq_some_iff.mp hi).1)) (by simpa using hl)
end
theorem blank_get {n i : Nat} {z : Ent} (e : (List.replicate n none : Ge)[i]? = some (some z)) : False := by
  rw [List.getElem?_replicate] at e
  split at e
  · cases e
  · cases e
theorem RS.blank {M : Addr → Prop} {σ : St} {H : Hp} (n : Nat) (al : Al M H) : RS M (List.replicate n none) σ H := ⟨al, fun i d e => (blank_get e).elim, fun i d e => (blank_get e).elim⟩
section
variable {X : Cx} {H : Hp} {D : Ends} {sts : List Stmt} {p pos pos' p2 : Pos} {x : Str} {k : Nat} {Q : VK}
/-- box = _law_box(script), the law's first row -/
theorem wb_box {a : Addr} {ns : List Int} {N : List Str} (hN : X.N.Nodup) (kb : Kn X.prog X.w X.K X.mg X.base CX0 "_law_box" k (spBox X.K)) (hr : Room k X.A) (hS : SqL X.K H a (ns.map V.int)) (hlen : ns.length ≤ 63)
    (kk : ∀ b σ' H', Same H H' → H b = none → BoxAt (fun a => a = b) H' b → RS (fun a => a = b) ((List.replicate X.N.length none).set 1 (some (.v (.ref b)))) σ' H' → σ'.length = X.N.length → wpB X sts D σ' H')
    (hNe : X.N = N) (h0 : N[0]? = some ("_law_script" : Str)) (hi : X.N[1]? = some x := by rfl) (hv0 : Vis X.env.scope "_law_script" := by first | exact Or.inl rfl | exact Or.inr (Or.inl rfl) | exact Or.inr (Or.inr rfl)) (hx : Loc X.env.scope x := by first | exact Or.inl rfl | exact Or.inr rfl)
    (hf : X.fn x = true ∨ X.env.scope.names.lookup x = some .local := by first | exact .inl rfl | exact .inr rfl | assumption) (hg : Gl X "_law_box" := by rfl)
    (hs : starEach [.Name "_law_script" p2] X.env = [(false, eval (.Name "_law_script" p2) X.env)] := by rfl) (hpl : (backTo p (starEach [] X.env)).any (·.1) = false := by rfl) {p3 : Pos} :
    wpB X (.Assign [.Name x pos'] (.Call (.Name "_law_box" p3) [.Name "_law_script" p2] [] p) pos :: sts) D (start N [.ref a]) H := by
  have hl : 1 < N.length := by rw [← hNe]; exact (List.getElem?_eq_some_iff.mp hi).1
  have hst : (start N [V.ref a]).length = N.length := start_length (by simp; omega)
  refine wb_wp 1 (Q := fun v H' => ∃ b, v = .ref b ∧ Same H H' ∧ H b = none ∧ BoxAt (fun a => a = b) H' b) hN (wp_call kb hr hg pass0 ((pa_cons (pe_var (by rw [hNe]; exact h0) hv0) pa_nil hs).wp ⟨.ref a, by simp [start], a, ns, rfl, hS, hlen, fun b H' s' nb _ hB => ⟨b, rfl, s', nb, hB⟩⟩) (by decide) hs hpl) (fun v H1 ⟨b, ev, s1, nb, hB⟩ => ?_) hi hx rfl hf
  subst ev
  refine kk b _ H1 s1 nb hB ((RS.blank X.N.length (fun c hc => ?_)).setV (by rw [hst]; exact hl)) (by rw [List.length_set, hst, hNe])
  subst hc
  obtain ⟨xs, hx⟩ := hB.lst
  rw [hx]
  exact fun z => nomatch z
end
end L2

set_option Elab.async false
set_option linter.all false
set_option maxRecDepth 100000
/-! Cells and bolts as data. -/
namespace L2
open PySem PySem.Spec PyProof.Rows
def isIB : PyData → Bool
  | .int _ => true
  | .bool _ => true
  | _ => false
def isBo : PyData → Bool
  | .bool _ => true
  | _ => false
def isTu : PyData → Bool
  | .tuple _ => true
  | _ => false
def isLi : PyData → Bool
  | .list _ => true
  | _ => false
theorem kit_int (K : PySem.W.Frag) (d : PyData) : PySem.W.kitOne K (.type (tyD d)) (.type "int") = some (isIB d) := by cases d <;> kernel_rfl
theorem kit_bool (K : PySem.W.Frag) (d : PyData) : PySem.W.kitOne K (.type (tyD d)) (.type "bool") = some (isBo d) := by cases d <;> kernel_rfl
theorem kit_tuple (K : PySem.W.Frag) (d : PyData) : PySem.W.kitOne K (.type (tyD d)) (.type "tuple") = some (isTu d) := by cases d <;> kernel_rfl
theorem kit_list (K : PySem.W.Frag) (d : PyData) : PySem.W.kitOne K (.type (tyD d)) (.type "list") = some (isLi d) := by cases d <;> kernel_rfl

mutual
theorem eqv_refl : ∀ d : PyData, d.canLay0 = true → PyData.eqv d d = true
  | .none, _ => rfl
  | .bool b, _ => by simp [PyData.eqv]
  | .int i, _ => by simp [PyData.eqv]
  | .str x, _ => by simp [PyData.eqv]
  | .list xs, h => by
    rw [PyData.eqv]; exact eqvAll_refl xs (by simpa [PyData.canLay0] using h)
  | .tuple xs, h => by
    rw [PyData.eqv]; exact eqvAll_refl xs (by simpa [PyData.canLay0] using h)
  | .dict _, h => by simp [PyData.canLay0] at h
theorem eqvAll_refl : ∀ ds : List PyData, PyData.canLayAll0 ds = true → PyData.eqvAll ds ds = true
  | [], _ => rfl
  | d :: ds, h => by
    simp only [PyData.canLayAll0, Bool.and_eq_true] at h
    rw [PyData.eqvAll, eqv_refl d h.1, eqvAll_refl ds h.2]; rfl
end
theorem canLayAll_of : ∀ {ds : List PyData}, (∀ d ∈ ds, d.canLay0 = true) → PyData.canLayAll0 ds = true
  | [], _ => rfl
  | d :: ds, h => by
    rw [PyData.canLayAll0, h d List.mem_cons_self, canLayAll_of fun x hx => h x (List.mem_cons_of_mem _ hx)]; rfl
theorem depthAll_le : ∀ {ds : List PyData} {n : Nat}, (∀ d ∈ ds, d.depth ≤ n) → PyData.depthAll ds ≤ n
  | [], _, _ => by simp [PyData.depthAll]
  | d :: ds, n, h => by
    rw [PyData.depthAll]
    exact Nat.max_le.mpr ⟨h d List.mem_cons_self, depthAll_le fun x hx => h x (List.mem_cons_of_mem _ hx)⟩
theorem Pl.int (i : Int) : Pl (.int i) := ⟨by simp [PyData.canLay0], by simp [PyData.depth]⟩
theorem Pl.bool (i : Bool) : Pl (.bool i) := ⟨by simp [PyData.canLay0], by simp [PyData.depth]⟩
/-- plain data of so many levels -/
structure Lv (n : Nat) (d : PyData) : Prop where
  lay : d.canLay0 = true
  dep : d.depth ≤ n
theorem Lv.pl {n : Nat} {d : PyData} (h : Lv n d) (hn : n ≤ 60 := by decide) : Pl d := ⟨h.lay, Nat.le_trans h.dep hn⟩
theorem Lv.int {n : Nat} (i : Int) : Lv n (.int i) := ⟨by simp [PyData.canLay0], by simp [PyData.depth]⟩
theorem Lv.bool {n : Nat} (i : Bool) : Lv n (.bool i) := ⟨by simp [PyData.canLay0], by simp [PyData.depth]⟩
theorem Lv.none {n : Nat} : Lv n .none := ⟨by simp [PyData.canLay0], by simp [PyData.depth]⟩
theorem Lv.tuple {n : Nat} {ds : List PyData} (h : ∀ d ∈ ds, Lv n d) : Lv (n + 1) (.tuple ds) := ⟨by
  rw [PyData.canLay0]; exact canLayAll_of fun d hd => (h d hd).lay, by
  rw [PyData.depth]; exact Nat.succ_le_succ (depthAll_le fun d hd => (h d hd).dep)⟩
theorem Lv.list {n : Nat} {ds : List PyData} (h : ∀ d ∈ ds, Lv n d) : Lv (n + 1) (.list ds) := ⟨by
  rw [PyData.canLay0]; exact canLayAll_of fun d hd => (h d hd).lay, by
  rw [PyData.depth]; exact Nat.succ_le_succ (depthAll_le fun d hd => (h d hd).dep)⟩
theorem Lv.refl {n : Nat} {d : PyData} (h : Lv n d) : PyData.eqv d d = true := eqv_refl d h.lay

/-- a tuple of whole numbers -/
def picD (ns : List Int) : PyData := .tuple (ns.map PyData.int)
/-- a cell by its parts -/
structure Cell where
  stain : List Int
  wax : Bool
  wish : List Int
def Cell.d (c : Cell) : PyData := .tuple [picD c.stain, .bool c.wax, picD c.wish]
structure Cell.Ok (c : Cell) (p : Nat) : Prop where
  hs : c.stain.length = p
  hw : c.wish.length = p
def boltD (cs : List Cell) : List PyData := cs.map Cell.d
theorem picD_lv (ns : List Int) : Lv 1 (picD ns) := Lv.tuple fun d hd => by
  obtain ⟨i, _, rfl⟩ := List.mem_map.mp hd
  exact Lv.int i
theorem Cell.lv (c : Cell) : Lv 2 c.d := Lv.tuple fun d hd => by
  simp only [List.mem_cons, List.mem_nil_iff, or_false] at hd
  rcases hd with rfl | rfl | rfl
  · exact picD_lv _
  · exact Lv.bool _
  · exact picD_lv _
theorem boltD_lv (cs : List Cell) : Lv 3 (.list (boltD cs)) := Lv.list fun d hd => by
  obtain ⟨c, _, rfl⟩ := List.mem_map.mp hd
  exact c.lv
theorem cutV_map (ns : List Int) (lo hi : Option Int) : ∃ ms : List Int, cutV (ns.map V.int) lo hi = ms.map V.int ∧ ms.length ≤ ns.length := by
  refine ⟨(ns.drop (HT.sIx (ns.map V.int).length 0 lo)).take (HT.sIx (ns.map V.int).length (ns.map V.int).length hi - HT.sIx (ns.map V.int).length 0 lo), ?_, ?_⟩
  · unfold cutV
    rw [List.map_take, List.map_drop]
  · rw [List.length_take, List.length_drop]; omega
end L2

set_option Elab.async false
set_option linter.all false
set_option maxRecDepth 100000
/-! Loops that change things, drawn numbers within expressions. -/
namespace L2
open PySem PySem.Spec PyProof.Rows
section
variable {X : Cx} {M : Addr → Prop} {Γ : Ge} {σ : St} {H : Hp} {D : Ends} {sts body : List Stmt} {tg iter e : Expr} {ds : List PyData} {pos pos' p2 p3 : Pos} {x : Str} {l : Addr} {k : Nat} {b : Addr}
/-- a loop by an invariant (H1: the heap when the walk begins) -/
theorem wb_for (hp : PassesOwn (model X.prog X.w) X.A X.env X.xe) (hcalm : X.calm = true) (hi : IV X Γ tg iter ds) (rs : RS M Γ σ H) (Pv : Hp → Nat → St → Hp → Prop) (h0 : ∀ H1, Same H H1 → Pv H1 0 σ H1)
    (hst : ∀ H1 i σ' Ha Hb, Same Ha Hb → Pv H1 i σ' Ha → Pv H1 i σ' Hb) (hgr : ∀ H1 i σ' Ha, Same H H1 → Pv H1 i σ' Ha → Grow M H1 Ha)
    (hs : ∀ H1 i d x σ' Ha, Same H H1 → ds[i]? = some d → Pv H1 i σ' Ha → Rep M Ha x d → wpG X tg x σ' Ha fun σ2 H2 => wpB X body { D with nx := Pv H1 (i + 1), ct := Pv H1 (i + 1), bk := fun σ H => wpB X sts D σ H } σ2 H2)
    (hd : ∀ H1 σ' Ha, Same H H1 → Pv H1 ds.length σ' Ha → wpB X sts D σ' Ha)
    (hf : ∀ x, foldedSetIterable iter X.env x = pure x := by intro _; rfl) : wpB X (.For tg iter body [] pos :: sts) D σ H := by
  refine (pss_cons (ps_for hp hcalm pi_self pg_self pss_self hf) pss_self).wp (hi M σ H _ rs fun J H1 s1 hJ => ?_)
  refine ⟨fun i m σ' H' => m = ds.length - i ∧ i ≤ ds.length ∧ Pv H1 i σ' H', ⟨ds.length, by simp, Nat.zero_le _, h0 H1 s1⟩, ?_⟩
  rintro i m σ' H' ⟨rfl, hil, p⟩
  have g := hgr H1 i σ' H' s1 p
  by_cases hlt : i < ds.length
  · obtain ⟨go, yl⟩ := (hJ i H' g).1 ds[i] (by simp [hlt])
    refine .inr ⟨go, Pv H1 (i + 1), fun σ2 H2 p2 => ⟨ds.length - (i + 1), by omega, rfl, hlt, p2⟩, fun x H2 hy => ?_⟩
    obtain ⟨s2, r2⟩ := yl x H2 hy
    exact hs H1 i ds[i] x σ' H2 s1 (by simp [hlt]) (hst H1 i σ' _ _ s2 p) r2
  · have e : i = ds.length := by omega
    subst e
    exact .inl ⟨(hJ _ H' g).2 (Nat.le_refl _), hd H1 σ' H' s1 p⟩
/-- xs.append(e), whatever e does -/
theorem wb_app (j : Nat) (hσ : σ[j]? = some (some (.ref l))) (hL : ∃ xs, H l = some (.lst xs)) (h : wpE X e σ H fun v H1 => ∃ vs, H1 l = some (.lst vs) ∧ vs.length < 1000 ∧ wpB X sts D σ (upd H1 l (.lst (vs ++ [v]))))
    (hpe : PE X (.Call (.Attribute (.Name x p2) "append" p3) [e] [] pos) (tBM X.K "list" rAppend (tVar j) (tCons (wpE X e) tNil)))
    (hs : swapsWith (.Call (.Attribute (.Name x p2) "append" p3) [e] [] pos) none pos'.line X.env = pure false := by rfl) : wpB X (.Expr (.Call (.Attribute (.Name x p2) "append" p3) [e] [] pos) pos' :: sts) D σ H := by
  obtain ⟨xs, hL⟩ := hL
  refine (pss_cons (ps_expr hpe hs) pss_self).wp ⟨_, hσ, .inl ⟨rfl, _, SqL.of hL⟩, h.mono fun v H1 ⟨vs, e1, e2, q⟩ => ⟨l, vs, v, rfl, rfl, e1, small1000 (by omega), q⟩⟩
/-- xs[i] = e -/
theorem wb_item (j : Nat) {ix : Expr} {i : Int} (hpe : PG X (.Subscript (.Name x p2) ix p3) (gSub (tVar j) (tC (.int i)) rSetL)) (hσ : σ[j]? = some (some (.ref l))) (h : wpE X e σ H fun v H1 => ∃ vs m, H1 l = some (.lst vs) ∧ ixN vs.length i = some m ∧ wpB X sts D σ (upd H1 l (.lst (vs.set m v))))
    (hs : swapsWithSole [.Subscript (.Name x p2) ix p3] e pos.line X.env = pure false := by rfl) (hw : swappedStores [.Subscript (.Name x p2) ix p3] e X.env = pure none := by rfl)
    (h1 : (assignEach [.Subscript (.Name x p2) ix p3] X.env).map (·.2) = [assign (.Subscript (.Name x p2) ix p3) X.env] := by rfl) : wpB X (.Assign [.Subscript (.Name x p2) ix p3] e pos :: sts) D σ H :=
  (pss_cons (ps_asg pe_self hpe hs hw h1) pss_self).wp (h.mono fun v H1 ⟨vs, m, e1, e2, q⟩ => ⟨_, hσ, l, vs, i, m, rfl, rfl, e1, e2, q⟩)
/-- a row of a block by a test that does something -/
theorem wb_ifW {c : Expr} {els : List Stmt} (h : wpT X c σ H fun b H1 => if b = true then wpB X body { D with nx := fun σ' H' => wpB X sts D σ' H' } σ H1 else wpB X els { D with nx := fun σ' H' => wpB X sts D σ' H' } σ H1) : wpB X (.If c body els pos :: sts) D σ H :=
  (pss_cons (ps_if pt_self pss_self pss_self) pss_self).wp h
/-- e == n of ints -/
theorem wt_eqI {a c : Expr} {n : Int} {Q : Bool → Hp → Prop} (h : wpE X a σ H fun v H1 => ∃ i, v = .int i ∧ wpE X c σ H1 fun u H2 => u = .int n ∧ Q (decide (i = n)) H2) : wpT X (.Compare a [.Eq] [c] pos) σ H Q :=
  (pt_cmpR op_eq pe_self pe_self (nomark _)).wp (h.mono fun v H1 ⟨i, e, q⟩ => q.mono fun u H2 ⟨e2, q2⟩ => by
    subst e e2
    refine ⟨rfl, _, rfl, ?_⟩
    have : decide (V.int i = V.int n) = decide (i = n) := by
      by_cases z : i = n
      · subst z; simp
      · rw [decide_eq_false z, decide_eq_false (fun q => z (V.int.inj q))]
    rw [this]; exact q2)
theorem we_eqI {a c : Expr} {n : Int} {Q : VK} (h : wpE X a σ H fun v H1 => ∃ i, v = .int i ∧ wpE X c σ H1 fun u H2 => u = .int n ∧ Q (.bl (decide (i = n))) H2) : wpE X (.Compare a [.Eq] [c] pos) σ H Q :=
  (pe_cmpR op_eq pe_self pe_self (nomark _)).wp (h.mono fun v H1 ⟨i, e, q⟩ => q.mono fun u H2 ⟨e2, q2⟩ => by
    subst e e2
    refine ⟨rfl, ?_⟩
    have : decide (V.int i = V.int n) = decide (i = n) := by
      by_cases z : i = n
      · subst z; simp
      · rw [decide_eq_false z, decide_eq_false (fun q => z (V.int.inj q))]
    rw [this]; exact q2)
theorem we_ev {Q : VK} {d : PyData} (h : EV X Γ e d) (rs : RS M Γ σ H) (k : ∀ v H', Same H H' → Rep M H' v d → Q v H') : wpE X e σ H Q := h M σ H Q rs k
end
/-- a new thing, and one thing at b changed -/
theorem Same.growB {b : Addr} {H H' : Hp} (s : Same H H') : GrowB b H H' := s.grow
theorem Grow.or {M M' : Addr → Prop} {H H' : Hp} (g : Grow M H H') : Grow (fun a => M a ∨ M' a) H H' := g.mono fun _ z => .inl z
theorem grow_updM {M : Addr → Prop} {H : Hp} {l : Addr} {xs : List V} {o : HO} (hm : M l) (h : H l = some (.lst xs)) : Grow M H (upd H l o) := (grow_upd h).mono fun a z => by subst z; exact hm
/-- what was there at H, but for b, is as it was -/
theorem Grow.keep {M : Addr → Prop} {H H' : Hp} {a : Addr} {o : HO} (g : Grow M H H') (n : ¬ M a) (e : H a = some o) : H' a = some o := g.same a o n e
theorem Grow.shrink {M : Addr → Prop} {H H' : Hp} {l : Addr} (g : Grow (fun a => M a ∨ a = l) H H') (n : H l = none) : Grow M H H' := ⟨fun a o na e => g.same a o (fun z => by
  rcases z with z | z
  · exact na z
  · subst z; rw [n] at e; cases e) e, g.tups, g.stay⟩
def rowD (r : List Bool) : PyData := .list (r.map PyData.bool)
def pairD (p : Int × Int) : PyData := .tuple [.int p.1, .int p.2]
/-- so many rows of so many bools -/
def spLacks : Sp := fun vs H Q _ => ∃ M b p n, vs = [.ref b, .int p, .int n] ∧ Al M H ∧ BoxAt M H b ∧ 0 ≤ p ∧ p ≤ 100 ∧ 0 ≤ n ∧ n ≤ 100 ∧
  ∀ (rows : List (List Bool)) v H', GrowB b H H' → BoxAt M H' b → Rep M H' v (.list (rows.map rowD)) → rows.length = n.toNat → (∀ r ∈ rows, r.length = p.toNat) → Q v H'
/-- shades from 0 to 9 -/
structure Cell.In (c : Cell) (p : Nat) : Prop extends c.Ok p where
  bs : ∀ z ∈ c.stain, 0 ≤ z ∧ z ≤ 9
  bw : ∀ z ∈ c.wish, 0 ≤ z ∧ z ≤ 9
def spCell : Sp := fun vs H Q _ => ∃ (M : Addr → Prop) (b : Addr) (r : List Bool) (loose wet : Int) (v : V), vs = [.ref b, v, .int loose, .int wet] ∧ Al M H ∧ BoxAt M H b ∧ Rep M H v (rowD r) ∧ r.length ≤ 100 ∧ loose < 1073741824 ∧
  ∀ (c : Cell) v H', GrowB b H H' → BoxAt M H' b → Rep M H' v c.d → c.In r.length → Q v H'
def spBolt : Sp := fun vs H Q _ => ∃ M b p n loose, vs = [.ref b, .int p, .int n, .int loose] ∧ Al M H ∧ BoxAt M H b ∧ 0 ≤ p ∧ p ≤ 100 ∧ 0 ≤ n ∧ n ≤ 100 ∧ loose < 1073741824 ∧
  ∀ (cs : List Cell) a ws H', GrowB b H H' → BoxAt M H' b → H a = none → H' a = some (.lst ws) → RepL M H' ws (boltD cs) → cs.length = n.toNat → (∀ c ∈ cs, c.In p.toNat) → Q (.ref a) H'
def spSizes : Sp := fun vs H Q _ => ∃ M b, vs = [.ref b] ∧ Al M H ∧ BoxAt M H b ∧ ∀ p n v H', 0 ≤ p → p ≤ 12 → 0 ≤ n → n ≤ 40 → GrowB b H H' → BoxAt M H' b → Rep M H' v (.tuple [.int p, .int n]) → Q v H'
section
variable {X : Cx} {elt tg iter : Expr} {ifs : List Expr} {scope : Scope} {pos : Pos} {N' : List Str} {k : Nat} {ix : List Nat} {σ : St} {H : Hp} {D : Ends} {sts : List Stmt}
/-- x = [..] on one row, whatever its parts do -/
theorem wb_setC (i : Nat) {x : Str} {pos' spos : Pos} (hN : X.N.Nodup) (hcalm : X.calm = true) (S : CSc X.env.scope X.N scope N' k ix)
    (h : tComp k ix (wpI X tg iter) (gU X N' scope tg) (fU X N' scope ifs) (eU X N' scope elt) σ H fun v H1 => wpB X sts D (σ.set i (some v)) H1) (hi' : X.N[i]? = some x := by rfl) (hx : Loc X.env.scope x := by first | exact Or.inl rfl | exact Or.inr rfl)
    (hsw : swapsWith (.ListComp elt [⟨tg, iter, ifs, 0⟩] scope pos) (some (.Name x pos')) spos.line X.env = pure true := by rfl) (hs : ∀ x, foldedSetIterable iter X.env x = pure x := by intro _; rfl)
    (hf : X.fn x = true ∨ X.env.scope.names.lookup x = some .local := by first | exact .inl rfl | exact .inr rfl | assumption) : wpB X (.Assign [.Name x pos'] (.ListComp elt [⟨tg, iter, ifs, 0⟩] scope pos) spos :: sts) D σ H :=
  (pss_cons (ps_setU hN hi' hx hcalm S hsw hs hf) pss_self).wp h
end
def EOk (M : Addr → Prop) (H : Hp) : List V → List Ent → Prop
  | [], [] => True
  | v :: vs, z :: zs => EntOk M H v z ∧ EOk M H vs zs
  | _, _ => False
theorem EOk.get {M : Addr → Prop} {H : Hp} : ∀ {vs : List V} {zs : List Ent} {i : Nat} {z : Ent}, EOk M H vs zs → zs[i]? = some z → ∃ v, vs[i]? = some v ∧ EntOk M H v z
  | [], [], _, _, _, e => by simp at e
  | v :: vs, z :: zs, 0, _, h, e => by simp at e; subst e; exact ⟨v, rfl, h.1⟩
  | v :: vs, z :: zs, i + 1, y, h, e => by
    obtain ⟨u, h1, h2⟩ := EOk.get (i := i) (z := y) h.2 (by simpa using e)
    exact ⟨u, by simpa using h1, h2⟩
  | [], _ :: _, _, _, h, _ => h.elim
  | _ :: _, [], _, _, h, _ => h.elim
theorem entG_get {zs : List Ent} {m i : Nat} {z : Ent} (e : (zs.map some ++ List.replicate m none : Ge)[i]? = some (some z)) : zs[i]? = some z := by
  by_cases hi : i < zs.length
  · rw [List.getElem?_append_left (by simpa using hi), List.getElem?_map] at e
    cases q : zs[i]? with
    | none => rw [q] at e; cases e
    | some y => rw [q] at e; simpa using e
  · rw [List.getElem?_append_right (by simpa using hi), List.getElem?_replicate] at e
    split at e
    · cases e
    · cases e
theorem start_get {N : List Str} {vs : List V} {i : Nat} {v : V} (h : vs[i]? = some v) : (start N vs)[i]? = some (some v) := by
  have hiv : i < vs.length := (List.getElem?_eq_some_iff.mp h).1
  unfold start
  rw [List.getElem?_append_left (by simpa using hiv), List.getElem?_map, h]; rfl
theorem RS.startE {M : Addr → Prop} {H : Hp} {N : List Str} {vs : List V} {zs : List Ent} (al : Al M H) (h : EOk M H vs zs) (m : Nat) : RS M (zs.map some ++ List.replicate m none) (start N vs) H := ⟨al, fun i d e => by
  obtain ⟨v, hv, r⟩ := h.get (entG_get e)
  exact ⟨v, start_get hv, r⟩, fun i u e => by
  obtain ⟨v, hv, r⟩ := h.get (entG_get e)
  cases (show v = u from r)
  exact start_get hv⟩
theorem RepL.blsOf {M : Addr → Prop} {H : Hp} : ∀ (bs : List Bool), RepL M H (bs.map V.bl) (bs.map PyData.bool)
  | [] => .nil
  | b :: bs => .cons (.bool b) (RepL.blsOf bs)
theorem BoxAt.more {M : Addr → Prop} {H H' : Hp} {b l : Addr} (B : BoxAt M H b) (s : Same H H') (n : H l = none) : BoxAt (fun a => M a ∨ a = l) H' b := let ⟨c, cells, i, lf, t, sd, B⟩ := B
  ⟨c, cells, i, lf, t, sd, .inl B.mb, s _ _ B.hb, (B.hc.less (M' := fun a => M a ∨ a = l) fun a ha na => by
    rcases ha with z | z
    · exact z
    · subst z; exact absurd n na).grow s.grow, B.hi⟩
theorem BoxAt.grow {M M' : Addr → Prop} {H H' : Hp} {b : Addr} (B : BoxAt M H b) (g : Grow M' H H') (h : ¬ M' b) (hm : ∀ a, M' a → M a) : BoxAt M H' b := let ⟨c, cells, i, lf, t, sd, B⟩ := B
  ⟨c, cells, i, lf, t, sd, B.grow g h hm⟩
theorem BoxAt.ne {M : Addr → Prop} {H : Hp} {b l : Addr} (B : BoxAt M H b) (n : H l = none) : b ≠ l := fun e => by
  obtain ⟨xs, h⟩ := B.lst
  rw [e, n] at h; cases h
theorem sub_set {Γ : Ge} {i : Nat} {y : Option Ent} (h : Γ[i]? = some none) : ∀ (j : Nat) (z : Ent), Γ[j]? = some (some z) → (Γ.set i y)[j]? = some (some z) := fun j z e => by
  by_cases hj : j = i
  · subst hj; rw [h] at e; cases e
  · rw [List.getElem?_set_ne (Ne.symm hj)]; exact e
theorem sub_trans {A B C : Ge} (h1 : ∀ (j : Nat) (z : Ent), A[j]? = some (some z) → B[j]? = some (some z)) (h2 : ∀ (j : Nat) (z : Ent), B[j]? = some (some z) → C[j]? = some (some z)) : ∀ (j : Nat) (z : Ent), A[j]? = some (some z) → C[j]? = some (some z) := fun j z e => h2 j z (h1 j z e)
section
variable {X : Cx} {Γ : Ge} {p pos : Pos} {a b : Expr} {i j : Int}
theorem boot_minW : bootBuiltins "min" = some (.builtin "min") := by decide +kernel
theorem boot_maxW : bootBuiltins "max" = some (.builtin "max") := by decide +kernel
theorem ev_min (hc : X.calm = true) (hg : Gl X "min") (hm : X.mg "min" = none) (ha : EV X Γ a (.int i)) (hb : EV X Γ b (.int j)) (hs : starEach [a, b] X.env = [(false, eval a X.env), (false, eval b X.env)] := by rfl) (hs2 : starEach [b] X.env = [(false, eval b X.env)] := by rfl)
    (hpl : (backTo pos (starEach [b] X.env)).any (·.1) = false := by rfl) : EV X Γ (.Call (.Name "min" p) [a, b] [] pos) (.int (if j < i then j else i)) :=
  ev_callB (call_min2 hc) hg hm boot_minW (ea_cons ha (ea_cons hb ea_nil hs2) (by rw [hs, hs2])) (fun M H vs Q _ r k => by
    obtain ⟨v, u, rfl, q1, q2⟩ := r.two
    cases q1; cases q2
    exact ⟨i, j, rfl, k _ H (Same.refl H) (.int _)⟩) (by decide) (by decide) (by rw [hs, hs2]) hpl
theorem ev_max (hc : X.calm = true) (hg : Gl X "max") (hm : X.mg "max" = none) (ha : EV X Γ a (.int i)) (hb : EV X Γ b (.int j)) (hs : starEach [a, b] X.env = [(false, eval a X.env), (false, eval b X.env)] := by rfl) (hs2 : starEach [b] X.env = [(false, eval b X.env)] := by rfl)
    (hpl : (backTo pos (starEach [b] X.env)).any (·.1) = false := by rfl) : EV X Γ (.Call (.Name "max" p) [a, b] [] pos) (.int (if j > i then j else i)) :=
  ev_callB (call_max2 hc) hg hm boot_maxW (ea_cons ha (ea_cons hb ea_nil hs2) (by rw [hs, hs2])) (fun M H vs Q _ r k => by
    obtain ⟨v, u, rfl, q1, q2⟩ := r.two
    cases q1; cases q2
    exact ⟨i, j, rfl, k _ H (Same.refl H) (.int _)⟩) (by decide) (by decide) (by rw [hs, hs2]) hpl
end
theorem wpg {X : Cx} {k : Nat} {M : Addr → Prop} {Γ Γ' : Ge} {σ : St} {H : Hp} {tg : Expr} {d : PyData} {v : V} {Q : St → Hp → Prop} (h : GV X k Γ tg d Γ') (rs : RS M Γ σ H) (hl : σ.length = X.N.length) (r : Rep M H v d) (kk : ∀ σ', RS M Γ' σ' H → σ'.length = σ.length → σ'.drop k = σ.drop k → Q σ' H) : wpG X tg v σ H Q := h M σ H v Q rs hl r kk
section
variable {X : Cx} {Γ : Ge} {p pos : Pos} {a b : Expr}
theorem ev_intB {t : Bool} (hg : Gl X "int") (hm : X.mg "int" = none) (ha : EV X Γ a (.bool t)) (hs : starEach [a] X.env = [(false, eval a X.env)] := by rfl) : EV X Γ (.Call (.Name "int" p) [a] [] pos) (.int (if t then 1 else 0)) :=
  ev_callTy call_int1 hg hm boot_intW (ea_cons ha ea_nil hs) (fun M H vs Q _ r k => by
    obtain ⟨v, rfl, q⟩ := r.one
    cases q
    exact .inr ⟨t, rfl, k _ H (Same.refl H) (.int _)⟩) (by decide) (by decide) hs
theorem pe_neg1 {j : Nat} {p2 : Pos} : PE X (.UnaryOp .USub (.Constant (.int 1) j p2) pos) (tC (.int (-1))) := fun pins s σ H Q I h => (pe_un un_neg pe_int) pins s σ H Q I ⟨1, rfl, h⟩
theorem ixN_last {n : Nat} (h : 0 < n) : ixN n (-1) = some (n - 1) := by
  unfold ixN
  rw [if_neg (by decide), if_pos (by omega)]
  congr 1
  omega
end
theorem map_set_int (st : List Int) (m : Nat) (r : Int) : (st.map V.int).set m (.int r) = (st.set m r).map V.int := by rw [List.map_set]
theorem mem_set_or {st : List Int} {m : Nat} {r z : Int} (h : z ∈ st.set m r) : z ∈ st ∨ z = r := List.mem_or_eq_of_mem_set h
/-- three things may change -/
abbrev M3 (b l t : Addr) : Addr → Prop := fun a => (a = b ∨ a = l) ∨ a = t
theorem wb_asg {X : Cx} {σ : St} {H : Hp} {D : Ends} {sts : List Stmt} {tg e : Expr} {pos : Pos} (h : wpE X e σ H fun v H1 => wpG X tg v σ H1 fun σ' H' => wpB X sts D σ' H')
    (hs : swapsWithSole [tg] e pos.line X.env = pure false := by rfl) (hw : swappedStores [tg] e X.env = pure none := by rfl) (h1 : (assignEach [tg] X.env).map (·.2) = [assign tg X.env] := by rfl) : wpB X (.Assign [tg] e pos :: sts) D σ H :=
  (pss_cons (ps_asg pe_self pg_self hs hw h1) pss_self).wp h
def getF (g : Cell → PyData) (cs : List Cell) : PyData → PyData
  | .int i => ((cs[i.toNat]?).map g).getD .none
  | _ => .none
theorem map_rangeD_get (g : Cell → PyData) (cs : List Cell) : (rangeD cs.length).map (getF g cs) = cs.map g := by
  apply List.ext_getElem
  · simp [rangeD_length]
  · intro i h1 h2
    simp only [List.length_map] at h2
    simp [rangeD, getF, h2]
theorem atI_bolt {cs : List Cell} {i : Nat} (h : i < cs.length) : atI (boltD cs) (i : Int) = some cs[i].d := atI_nat (by simp [boltD, h])
/-- a cell's data, by a function of its parts -/
def onCell (g : PyData → PyData → PyData → PyData) : PyData → PyData
  | .tuple [s, w, q] => g s w q
  | d => d
def cellG : PyData → Ge
  | .tuple [s, w, q] => [some (.d s), some (.d w), some (.d q)]
  | _ => []
theorem map_boltD (g : PyData → PyData → PyData → PyData) (cs : List Cell) : (boltD cs).map (onCell g) = cs.map fun c => g (picD c.stain) (.bool c.wax) (picD c.wish) := by
  unfold boltD
  rw [List.map_map]; rfl
end L2

set_option Elab.async false
set_option linter.all false
set_option maxRecDepth 100000
namespace Wx
open PySem L2
def top (i : Nat) : Stmt := PySem.Challenge.pw_waxcloth_k04_boiled.main.body.getD i (.Pass ⟨0, 0, 0, 0⟩)
abbrev sBoiled : Stmt := top 1
abbrev sWhole : Stmt := top 3
abbrev sShades : Stmt := top 4
abbrev sKind : Stmt := top 5
abbrev sAlike : Stmt := top 6
abbrev sBox : Stmt := top 7
abbrev sMixed : Stmt := top 8
abbrev sTake : Stmt := top 9
abbrev sLacks : Stmt := top 10
abbrev sCell : Stmt := top 11
abbrev sBolt : Stmt := top 12
abbrev sSizes : Stmt := top 13
abbrev sBoil : Stmt := top 14
abbrev sLaw : Stmt := top 15
structure Bi (mg : Str → Option Value) : Prop where
  len : mg "len" = none
  range : mg "range" = none
  all : mg "all" = none
  isinstance : mg "isinstance" = none
  int : mg "int" = none
  bool : mg "bool" = none
  list : mg "list" = none
  tuple : mg "tuple" = none
  min : mg "min" = none
  max : mg "max" = none
theorem Bi.of {K : PySem.W.Frag} {mg : Str → Option Value} {h : Heap} (X : K.In h) (G : h.Ns mainGlobals mg) (z0 : PySem.W.nsIn K mainGlobals "len" = some none) (z1 : PySem.W.nsIn K mainGlobals "range" = some none) (z2 : PySem.W.nsIn K mainGlobals "all" = some none) (z3 : PySem.W.nsIn K mainGlobals "isinstance" = some none) (z4 : PySem.W.nsIn K mainGlobals "int" = some none) (z5 : PySem.W.nsIn K mainGlobals "bool" = some none) (z6 : PySem.W.nsIn K mainGlobals "list" = some none) (z7 : PySem.W.nsIn K mainGlobals "tuple" = some none) (z8 : PySem.W.nsIn K mainGlobals "min" = some none) (z9 : PySem.W.nsIn K mainGlobals "max" = some none) : Bi mg :=
  ⟨PySem.W.mg_none_of X G z0, PySem.W.mg_none_of X G z1, PySem.W.mg_none_of X G z2, PySem.W.mg_none_of X G z3, PySem.W.mg_none_of X G z4, PySem.W.mg_none_of X G z5, PySem.W.mg_none_of X G z6, PySem.W.mg_none_of X G z7, PySem.W.mg_none_of X G z8, PySem.W.mg_none_of X G z9⟩
section
variable {P : Program} {w : World} {K : PySem.W.Frag} {mg : Str → Option Value} {base : Heap}
theorem scMixed : FnScope ["_law_number", "_law_turn", "_law_one", "_law_two"] ["_law_number", "_law_turn"] (defScope sMixed) := ⟨rfl, rfl, rfl, by decide +kernel, rfl, by decide +kernel, by decide +kernel⟩
theorem kn_mixed (D : Df K mg "_law_mixed" sMixed ["_law_number", "_law_turn"]) : Kn P w K mg base CX0 "_law_mixed" 1 spMixed :=
  D.knD (k := 0) scMixed rfl (by decide) fun fa cdv A outer s H E ds hr hl ⟨n, t, e⟩ => by
    subst e
    refine sb_cons (s1_set 2 scMixed.nd (ev_mod (ev_add (ev_add (ev_mul (ev_var 0) ev_int (.inr (by decide))) (ev_mul (ev_var 1) ev_int (.inr (by decide)))) ev_int) ev_int (by decide))) ?_
    refine sb_cons (s1_set 3 scMixed.nd (ev_mod (ev_add (ev_add (ev_mul (ev_var 2) (ev_add (ev_mod (ev_var 2) ev_int (by decide)) ev_int) (.inr (by constructor <;> omega))) (ev_mul (ev_var 1) ev_int (.inr (by decide)))) (ev_mod (ev_var 0) ev_int (by decide))) ev_int (by decide))) ?_
    exact sb_stop (s1_ret (ev_fdiv (ev_var 3) ev_int ⟨by decide, by decide⟩))
theorem scTake : FnScope ["_law_box_here", "_law_many", "_law_left", "_law_cell_here"] ["_law_box_here", "_law_many"] (defScope sTake) := ⟨rfl, rfl, rfl, by decide +kernel, rfl, by decide +kernel, by decide +kernel⟩
theorem kn_take (D : Df K mg "_law_take" sTake ["_law_box_here", "_law_many"]) (B : Bi mg) (km : Kn P w K mg base CX0 "_law_mixed" 1 spMixed) : Kn P w K mg base CX0 "_law_take" 2 spTake :=
  D.kn (k := 1) scTake (fun vs H Q E ⟨M, b, n, e, _⟩ => by rw [e]; rfl) fun f cdv A outer s H vs Q E hr ⟨M, b, n, e, al, hB, h1, h2, kk⟩ => by
    subst e
    obtain ⟨c, cells, i, l, t, sd, hB⟩ := hB
    obtain ⟨fm, fdm, psm, Fm, hmm, hkm, hbm⟩ := km.ex
    refine PSs.wp (pss_cons (ps_asg (pe_op op_add (pe_ix ix_list (pv 0) pe_int (fun _ _ => rfl)) pe_int) (pg_sub (pv 0) pe_int set_list))
      (pss_cons (ps_if (pt_cmpR op_gt (pe_ix ix_list (pv 0) pe_int (fun _ _ => rfl)) pe_int (nomark _))
          (pss_cons (ps_set (i := 2) scTake.nd rfl (Or.inl rfl) (pe_ix ix_list (pv 0) pe_int (fun _ _ => rfl)))
            (pss_cons (ps_asg (pe_op op_fdiv (pv 2) (pv 1)) (pg_sub (pv 0) pe_int set_list))
              (pss_one (ps_ret (pe_op op_mod (pv 2) (pv 1)))))) pss_nil)
      (pss_cons (ps_if (pt_cmpR op_ge (pe_ix ix_list (pv 0) pe_int (fun _ _ => rfl)) (pe_callB call_len_seq rfl B.len PySem.boot_len (pa_cons (pe_ix ix_list (pv 0) pe_int (fun _ _ => rfl)) pa_nil)) (nomark _))
          (pss_one (ps_ret (pe_op op_mod (pe_call Fm hr rfl hmm hkm hbm .nil pass0 (pa_cons (pe_ix ix_list (pv 0) pe_int (fun _ _ => rfl)) (pa_cons (pe_ix ix_list (pv 0) pe_int (fun _ _ => rfl)) pa_nil))) (pv 1)))) pss_nil)
      (pss_cons (ps_set (i := 3) scTake.nd rfl (Or.inl rfl) (pe_ix ix_list (pe_ix ix_list (pv 0) pe_int (fun _ _ => rfl)) (pe_ix ix_list (pv 0) pe_int (fun _ _ => rfl)) (fun _ _ => rfl)))
      (pss_cons (ps_asg (pe_op op_add (pe_ix ix_list (pv 0) pe_int (fun _ _ => rfl)) pe_int) (pg_sub (pv 0) pe_int set_list))
      (pss_cons (ps_if (pt_cmpR op_lt (pv 3) (pe_op op_pow pe_int pe_int) (nomark _))
          (pss_one (ps_ret (pe_op op_mod (pe_call Fm hr rfl hmm hkm hbm .nil pass0 (pa_cons (pv 3) (pa_cons (pe_ix ix_list (pv 0) pe_int (fun _ _ => rfl)) pa_nil))) (pv 1)))) pss_nil)
      (pss_cons (ps_asg (pe_op op_fdiv (pv 3) (pv 1)) (pg_sub (pv 0) pe_int set_list))
      (pss_one (ps_ret (pe_op op_mod (pv 3) (pv 1)))))))))))  ?_
    have hn0 : 0 < n := by omega
    have fin : ∀ {z : Int} {H' : Hp} {i' l' t' s' : Int}, GrowB b H H' → BoxIs M H' b c cells i' l' t' s' → Q (.int (z % n)) H' := fun {z H' i' l' t' s'} g B' => kk _ _ (Int.emod_nonneg _ (by omega)) (Int.emod_lt_of_pos _ hn0) g ⟨c, cells, i', l', t', s', B'⟩
    have g1 := grow_upd (o := .lst [.ref c, .int i, .int l, .int (t + 1), .int sd]) hB.hb
    have B1 := hB.upd (i' := i) (l' := l) (t' := t + 1) (s' := sd) hB.hi
    refine ⟨_, rfl, b, _, _, _, rfl, rfl, SqL.of hB.hb, rfl, _, _, rfl, rfl, _, rfl, b, _, _, 3, rfl, rfl, hB.hb, rfl, ?_⟩
    refine ⟨_, rfl, b, _, _, _, rfl, rfl, SqL.of upd_same, rfl, _, _, rfl, rfl, _, rfl, ?_⟩
    refine ite2 (fun hpos => ?_) (fun hnp => ?_)
    · refine ⟨_, rfl, b, _, _, _, rfl, rfl, SqL.of upd_same, rfl, ?_⟩
      refine ⟨_, rfl, _, rfl, _, _, rfl, rfl, ⟨hn0, h2⟩, _, rfl, b, _, _, 2, rfl, rfl, upd_same, rfl, ?_⟩
      refine ⟨_, rfl, _, rfl, _, _, rfl, rfl, hn0, ?_⟩
      exact fin (g1.trans (grow_upd B1.hb)) (B1.upd hB.hi)
    · obtain ⟨a', vs, e, hcl, _, hcr⟩ := B1.hc.lst_inv
      cases e
      have ev := hcr.intsInv
      subst ev
      refine ⟨_, rfl, b, _, _, _, rfl, rfl, SqL.of upd_same, rfl, _, rfl, b, _, _, _, rfl, rfl, SqL.of upd_same, rfl, c, _, rfl, .inl (SqL.of hcl), _, _, rfl, rfl, _, rfl, ?_⟩
      refine ite2 (fun hge => ?_) (fun hlt => ?_)
      · refine ⟨_, rfl, b, _, _, _, rfl, rfl, SqL.of upd_same, rfl, _, rfl, b, _, _, _, rfl, rfl, SqL.of upd_same, rfl, M, [.int sd, .int (t + 1)], rfl, al.grow g1, .cons (.int _) (.cons (.int _) .nil), ⟨_, _, rfl⟩, fun v H' s' r' => ?_⟩
        cases r'
        exact ⟨_, rfl, _, _, rfl, rfl, hn0, fin (g1.trans s'.grow) (B1.grow (M' := fun _ => False) s'.grow (fun z => z) (fun _ z => z.elim))⟩
      · have hlt' : i < (cells.length : Int) := by
          simp only [decide_eq_true_eq, List.length_map] at hlt; omega
        have hix : i.toNat < cells.length := by have := hB.hi; omega
        have hat : atI (cells.map V.int) i = some (.int cells[i.toNat]) := by
          have e : i = ((i.toNat : Nat) : Int) := by have := hB.hi; omega
          have := atI_nat (xs := cells.map V.int) (j := i.toNat) (v := .int cells[i.toNat]) (by simp [hix])
          rw [← e] at this; exact this
        refine ⟨_, rfl, b, _, _, _, rfl, rfl, SqL.of upd_same, rfl, _, rfl, b, _, _, _, rfl, rfl, SqL.of upd_same, rfl, c, _, _, _, rfl, rfl, SqL.of hcl, hat, ?_⟩
        have g2 := grow_upd (o := .lst [.ref c, .int (i + 1), .int l, .int (t + 1), .int sd]) B1.hb
        have B2 := B1.upd (i' := i + 1) (l' := l) (t' := t + 1) (s' := sd) (by have := hB.hi; omega)
        refine ⟨_, rfl, b, _, _, _, rfl, rfl, SqL.of upd_same, rfl, _, _, rfl, rfl, _, rfl, b, _, _, 1, rfl, rfl, upd_same, rfl, ?_⟩
        refine ⟨_, rfl, _, _, rfl, rfl, ⟨by decide, by decide, by decide⟩, _, _, rfl, rfl, _, rfl, ?_⟩
        refine ite2 (fun hsm => ?_) (fun hbig => ?_)
        · refine ⟨_, rfl, _, rfl, b, _, _, _, rfl, rfl, SqL.of upd_same, rfl, M, [.int cells[i.toNat], .int (t + 1)], rfl, (al.grow g1).grow g2, .cons (.int _) (.cons (.int _) .nil), ⟨_, _, rfl⟩, fun v H' s' r' => ?_⟩
          cases r'
          exact ⟨_, rfl, _, _, rfl, rfl, hn0, fin ((g1.trans g2).trans s'.grow) (B2.grow (M' := fun _ => False) s'.grow (fun z => z) (fun _ z => z.elim))⟩
        · refine ⟨_, rfl, _, rfl, _, _, rfl, rfl, ⟨hn0, h2⟩, _, rfl, b, _, _, 2, rfl, rfl, upd_same, rfl, ?_⟩
          refine ⟨_, rfl, _, rfl, _, _, rfl, rfl, hn0, ?_⟩
          exact fin ((g1.trans g2).trans (grow_upd B2.hb)) (B2.upd (by have := hB.hi; omega))

theorem scBox : FnScope ["_law_script", "_law_seed", "_law_cell_here"] ["_law_script"] (defScope sBox) := ⟨rfl, rfl, rfl, by decide +kernel, rfl, by decide +kernel, by decide +kernel⟩
theorem kn_box (D : Df K mg "_law_box" sBox ["_law_script"]) (B : Bi mg) : Kn P w K mg base CX0 "_law_box" 1 (spBox K) :=
  D.kn (k := 0) scBox (fun vs H Q E ⟨a, ns, e, _⟩ => by rw [e]; rfl) fun f cdv A outer s H vs Q E hr ⟨a, ns, e, hS, hlen, kk⟩ => by
    subst e
    refine PSs.wp (pss_cons (ps_set (i := 1) scBox.nd rfl (Or.inl rfl) pe_int)
      (pss_cons (ps_for PassesOwn.never rfl (pi_list (pe_slice sl_list (pv 0) po_none (po_some pe_int))) (pg_name (i := 2) scBox.nd rfl (Or.inl rfl))
        (pss_one (ps_set (i := 1) scBox.nd rfl (Or.inl rfl) (pe_op op_mod (pe_op op_add (pe_op op_add (pe_op op_mul (pv 1) pe_int) (pv 2)) pe_int) pe_int))))
      (pss_one (ps_ret (pe_lst (pa_cons (pe_callTy call_list_of rfl B.list boot_listW (pa_cons (pe_slice sl_list (pv 0) po_none (po_some pe_int)) pa_nil)) (pa_cons pe_int (pa_cons pe_int (pa_cons pe_int (pa_cons (pv 1) pa_nil)))))))))) ?_
    obtain ⟨ms, ems, hms⟩ := cutV_map ns none (some 63)
    refine ⟨_, rfl, _, rfl, a, _, rfl, hS, fun q nq => ⟨q, rfl, ⟨_, SqL.of upd_same⟩, for_list (K := K) (a := q) (xs := cutV (ns.map V.int) none (some 63)) (fun i σ H2 => H2 = upd H q (.lst (cutV (ns.map V.int) none (some 63))) ∧ ∃ sd v, σ = [some (.ref a), some (.int sd), v])
      ⟨rfl, 0, none, rfl⟩ (fun i σ H2 _ ⟨e, _⟩ => by rw [e]; exact SqL.of upd_same) ?_ ?_⟩⟩
    · rintro i x σ H2 hx ⟨rfl, sd, v, rfl⟩
      obtain ⟨z, rfl⟩ : ∃ z, x = V.int z := by
        rw [ems] at hx
        have := List.mem_of_getElem? hx
        obtain ⟨z, _, rfl⟩ := List.mem_map.mp this
        exact ⟨z, rfl⟩
      refine ⟨_, rfl, _, _, rfl, rfl, .inr (by decide), _, rfl, _, _, rfl, rfl, _, _, rfl, rfl, _, _, rfl, rfl, (by show (0 : Int) < 2147483647; decide), ?_⟩
      exact ⟨rfl, _, _, rfl⟩
    · rintro σ H2 ⟨rfl, sd, v, rfl⟩
      have s1 : Same H (upd H q (.lst (cutV (ns.map V.int) none (some 63)))) := upd_new nq
      refine ⟨_, rfl, _, rfl, a, _, rfl, s1.seq hS, fun q2 nq2 => ⟨q2, _, rfl, .inl (SqL.of upd_same), fun l nl => ⟨_, rfl, (by show 5 ≤ sizeLine; decide), fun b nb => ?_⟩⟩⟩
      have s2 := s1.trans (upd_new (o := .lst (cutV (ns.map V.int) none (some 63))) nq2)
      have s3 := s2.trans (upd_new (o := .lst (cutV (ns.map V.int) none (some 63))) nl)
      have hlb : l ≠ b := fun e => by rw [← e, upd_same] at nb; cases nb
      refine kk b _ (s3.trans (upd_new nb)) (s3.free nb) (by rw [upd_same]; exact fun z => nomatch z) ⟨l, ms, 0, 0, 0, sd, rfl, upd_same, ?_, Int.le_refl 0⟩
      refine .list (vs := ms.map V.int) (by rw [upd_ne hlb, upd_same, ems]) hlb (RepL.ints ms)
theorem scWhole : FnScope ["_law_found"] ["_law_found"] (defScope sWhole) := ⟨rfl, rfl, rfl, by decide +kernel, rfl, by decide +kernel, by decide +kernel⟩
theorem kn_whole (D : Df K mg "_law_whole" sWhole ["_law_found"]) (B : Bi mg) : Kn P w K mg base CX0 "_law_whole" 1 (spD 1 (fun _ => True) (fun ds => match ds with | [d] => .bool (isIB d && !isBo d) | _ => .none)) :=
  D.knD (k := 0) scWhole rfl (by decide) fun fa cdv A outer s H E ds hr hl _ => by
    obtain ⟨d, rfl⟩ : ∃ d, ds = [d] := by
      match ds, hl with
      | [d], _ => exact ⟨d, rfl⟩
    exact sb_stop (s1_ret (ev_and (ev_isi rfl B.isinstance (ev_var 0) rfl B.int boot_intW (kit_int _ _)) fun _ => ev_one (ev_not (ev_isi rfl B.isinstance (ev_var 0) rfl B.bool boot_boolW (kit_bool _ _)))))
theorem scShades : FnScope ["_law_found", "_law_pots"] ["_law_found", "_law_pots"] (defScope sShades) := ⟨rfl, rfl, rfl, by decide +kernel, rfl, by decide +kernel, by decide +kernel⟩
def spShades : Sp := spD 2 (fun ds => ∃ ns : List Int, ns.length ≤ 1000 ∧ ds = [picD ns, .int ns.length]) (fun _ => .bool true)
theorem kn_shades (D : Df K mg "_law_shades" sShades ["_law_found", "_law_pots"]) (B : Bi mg) (kw : Kn P w K mg base CX0 "_law_whole" 1 (spD 1 (fun _ => True) (fun ds => match ds with | [d] => .bool (isIB d && !isBo d) | _ => .none))) : Kn P w K mg base CX0 "_law_shades" 2 spShades :=
  D.knD (k := 1) scShades rfl (by decide) fun fa cdv A outer s H E ds hr hl ⟨ns, hns, e⟩ => by
    subst e
    refine sb_stop (s1_ret (EV.cast (ev_and (ev_isi rfl B.isinstance (ev_var 0) rfl B.tuple boot_tupleW (kit_tuple _ _)) fun _ => ev_and (ev_cmp (cr_eq hr (Pl.int _) (Pl.int _)) (ev_lenT rfl B.len (ev_var 0)) (ev_var 1)) fun _ => ev_one (ev_all (bs := ns.map fun _ => true) rfl rfl B.all
      (EN.ev (EN.cast (en_comp (f := fun _ => .bool true) (k := 1) (ix := []) (N' := ["_law_one"]) (fun d => [some (.d d)]) rfl (CSc.of (by kernel_rfl)) (iv_tup (ev_var 0)) (by rw [List.length_map]; exact small1000 hns) (fun nd d _ cl C s2 H2 fp => gv_name 0 nd)
        (fun d hd cl C s2 H2 fp => ev_call kw hr rfl pass0 (ea_cons (ev_var 0) ea_nil) trivial ?_)) ?_)))) ?_))
    · obtain ⟨i, _, rfl⟩ := List.mem_map.mp hd
      rfl
    · simp
    · simp [PyData.eqv, isTu, picD]

theorem scKind : FnScope ["_law_found", "_law_pots", "_law_cell_here"] ["_law_found", "_law_pots"] (defScope sKind) := ⟨rfl, rfl, rfl, by decide +kernel, rfl, by decide +kernel, by decide +kernel⟩
def spKind : Sp := spD 2 (fun ds => ∃ (cs : List Cell) (p : Nat), p ≤ 1000 ∧ (∀ c ∈ cs, c.Ok p) ∧ ds = [.list (boltD cs), .int p]) (fun _ => .bool true)
theorem kn_kind (D : Df K mg "_law_cells_kind" sKind ["_law_found", "_law_pots"]) (B : Bi mg) (ks : Kn P w K mg base CX0 "_law_shades" 2 spShades) : Kn P w K mg base CX0 "_law_cells_kind" 3 spKind :=
  D.knD (k := 2) scKind rfl (by decide) fun fa cdv A outer s H E ds hr hl ⟨cs, p, hp, hcs, e⟩ => by
    subst e
    refine sb_if (ET.cast (et_not (et_val (ev_isi rfl B.isinstance (ev_var 0) rfl B.list boot_listW (kit_list _ _)))) (d' := false) rfl) (fun h => nomatch h) fun _ => ?_
    refine sb_cons (s1_forOk (ds := boltD cs) (fun d => [some (.d (.list (boltD cs))), some (.d (.int p)), some (.d d)]) rfl (iv_list (ev_var 0)) PassesOwn.never (fun d _ => gv_name 2 scKind.nd) (fun d hd => ?_)) (sb_stop (s1_ret ev_bool))
    obtain ⟨c, hc, rfl⟩ := List.mem_map.mp hd
    have ok := hcs c hc
    refine ⟨_, sb_if (ET.cast (EW.et' (ew_or (et_not (et_val (ev_isi rfl B.isinstance (ev_var 2) rfl B.tuple boot_tupleW (kit_tuple _ _)))) fun _ => ew_or (et_cmp (cr_ne hr (Pl.int _) (Pl.int _)) (ev_lenT rfl B.len (ev_var 2)) ev_int) fun _ => ew_or1 (et_not (et_val (ev_isi rfl B.isinstance (ev_tix (ev_var 2) ev_int rfl) rfl B.bool boot_boolW (kit_bool _ _)))))) (d' := false) rfl) (fun h => nomatch h) fun _ =>
      sb_if (ET.cast (EW.et' (ew_or (et_not (et_val (ev_call ks hr rfl pass0 (ea_cons (ev_tix (ev_var 2) ev_int rfl) (ea_cons (ev_var 1) ea_nil)) ⟨c.stain, ?_, ?_⟩))) fun _ => ew_or1 (et_not (et_val (ev_call ks hr rfl pass0 (ea_cons (ev_tix (ev_var 2) ev_int rfl) (ea_cons (ev_var 1) ea_nil)) ⟨c.wish, ?_, ?_⟩))))) (d' := false) rfl) (fun h => nomatch h) fun _ => sb_nil, sub3⟩
    · rw [ok.hs]; exact hp
    · rw [ok.hs]
    · rw [ok.hw]; exact hp
    · rw [ok.hw]
theorem scAlike : FnScope ["_law_found", "_law_due", "_law_pots"] ["_law_found", "_law_due", "_law_pots"] (defScope sAlike) := ⟨rfl, rfl, rfl, by decide +kernel, rfl, by decide +kernel, by decide +kernel⟩
def spAlike : Sp := spD 3 (fun ds => ∃ (cs : List Cell) (p : Nat), p ≤ 1000 ∧ (∀ c ∈ cs, c.Ok p) ∧ ds = [.list (boltD cs), .list (boltD cs), .int p]) (fun _ => .bool true)
theorem kn_alike (D : Df K mg "_law_alike" sAlike ["_law_found", "_law_due", "_law_pots"]) (kk : Kn P w K mg base CX0 "_law_cells_kind" 3 spKind) : Kn P w K mg base CX0 "_law_alike" 4 spAlike :=
  D.knD (k := 3) scAlike rfl (by decide) fun fa cdv A outer s H E ds hr hl ⟨cs, p, hp, hcs, e⟩ => by
    subst e
    refine sb_stop (s1_ret (EV.cast (ev_and (ev_call kk hr rfl pass0 (ea_cons (ev_var 0) (ea_cons (ev_var 2) ea_nil)) ⟨cs, p, hp, hcs, rfl⟩) fun _ => ev_one (ev_cmp (cr_eq hr (boltD_lv cs).pl (boltD_lv cs).pl) (ev_var 0) (ev_var 1))) ?_))
    rw [(boltD_lv cs).refl]; rfl

theorem scLacks : FnScope ["_law_box_here", "_law_pots", "_law_size", "_law_way", "_law_ends", "_law_rows", "_law_at", "_law_row", "_law_low", "_law_high"] ["_law_box_here", "_law_pots", "_law_size"] (defScope sLacks) := ⟨rfl, rfl, rfl, by decide +kernel, rfl, by decide +kernel, by decide +kernel⟩
theorem kn_lacks (D : Df K mg "_law_lacks" sLacks ["_law_box_here", "_law_pots", "_law_size"]) (B : Bi mg) (kt : Kn P w K mg base CX0 "_law_take" 2 spTake) : Kn P w K mg base CX0 "_law_lacks" 3 spLacks :=
  D.kn (k := 2) scLacks (fun vs H Q E ⟨M, b, p, n, e, _⟩ => by rw [e]; rfl) fun f cdv A outer s H vs Q E hr ⟨M, b, p, n, e, al, hB, hp0, hp1, hn0, hn1, kk⟩ => by
    subst e
    have rs0 : RS M [some (.v (.ref b)), some (.d (.int p)), some (.d (.int n)), none, none, none, none, none, none, none] (start ["_law_box_here", "_law_pots", "_law_size", "_law_way", "_law_ends", "_law_rows", "_law_at", "_law_row", "_law_low", "_law_high"] [.ref b, .int p, .int n]) H :=
      RS.startE (vs := [.ref b, .int p, .int n]) (zs := [.v (.ref b), .d (.int p), .d (.int n)]) al ⟨rfl, .int p, .int n, trivial⟩ 7
    refine wb_take 3 (j := 0) scLacks.nd kt hr rs0 rfl hB ev_int (by decide) (by decide) fun way σ1 H1 hw0 hw1 g1 hB1 rs1 l1 => ?_
    -- ends
    refine wb_setC (k := 1) (ix := [0, 2]) (N' := ["_law_dye", "_law_box_here", "_law_size"]) 4 scLacks.nd rfl (CSc.of (by kernel_rfl)) (comp_tr (iv_range1 (n := p) rfl B.range (ev_var 1) (by omega) (by omega)) rs1
      (fun Ha i ys Hb => ∃ es : List (Int × Int), es.length = i ∧ RepL M Hb ys (es.map pairD) ∧ GrowB b Ha Hb ∧ BoxAt M Hb b) (fun Ha sa => ⟨[], rfl, .nil, Grow.refl _ _, hB1.same sa⟩)
      (fun Ha i ys Hb Hc sc ⟨es, a1, a2, a3, a4⟩ => ⟨es, a1, a2.grow sc.grow, a3.trans sc.grow, a4.same sc⟩) (fun Ha i ys Hb sa ⟨es, a1, a2, a3, a4⟩ => ⟨a3.mono fun z hz => by subst hz; exact a4.mem, by rw [a2.length, List.length_map, a1]; exact Nat.le_refl _⟩) (by rw [rangeD_length]; exact small1000 (by omega))
      (fun Ha i d x ys Hb sa hd ⟨es, a1, a2, a3, a4⟩ rx cl C s2 H2 fp => ?_) (fun Ha ys Hb sa ⟨es, a1, a2, a3, a4⟩ q nq => ?_))
    · have rsb : RS M _ σ1 Hb := (rs1.grow sa.grow).growB a3 (hB1.same sa)
      refine wpg (gv_name (k := 1) 0 (by show List.Nodup (α := Str) ["_law_dye", "_law_box_here", "_law_size"]; decide +kernel)) (rsb.comp (k := 1) (ix := [0, 2])) rfl rx fun σ2 rs2 l2 d2 => ⟨d2, fun cl C s2 H2 fp => ef_nil (M := M) (iteT fun cl C s2 H2 fp => ?_)⟩
      refine (pe_tup (pa_cons pe_self (pa_cons pe_self pa_nil))).wp (wp_take (j := 1) (M := M) kt hr rs2 a4 (ev_add (ev_var 2) ev_int) (by omega) (by omega) fun r1 Hc u1 u2 u3 u4 => wp_take (j := 1) (M := M) kt hr (rs2.growB u3 a4) u4 (ev_add (ev_var 2) ev_int) (by omega) (by omega) fun r2 Hd w1 w2 w3 w4 => ⟨(by show 2 ≤ sizeLine; decide), fun q nq => ?_⟩)
      have gd : GrowB b Hb (upd Hd q (.tup [.int r1, .int r2])) := (u3.trans w3).trans (upd_new nq).grow
      refine ⟨es ++ [(r1, r2)], by simp [a1], ?_, a3.trans gd, w4.same (upd_new nq)⟩
      rw [List.map_append]
      exact (a2.grow (gd.mono fun z hz => by subst hz; exact a4.mem)).append (.cons (.tuple upd_same (.cons (.int _) (.cons (.int _) .nil))) .nil)
    rw [rangeD_length] at a1
    have g2 : GrowB b H1 (upd Hb q (.lst ys)) := (sa.growB.trans a3).trans (upd_new nq).grow
    have hB2 : BoxAt M (upd Hb q (.lst ys)) b := a4.same (upd_new nq)
    have rs2 := (rs1.growB g2 hB1).set (i := 4) (d := .list (es.map pairD)) (v := .ref q) (.list upd_same (a4.mem |> fun _ => (((rs1.grow sa.grow).growB a3 (hB1.same sa)).al.new nq)) (a2.grow (upd_new nq).grow)) (by rw [l1]; show 4 < 10; decide)
    have l2 : (σ1.set 4 (some (V.ref q))).length = 10 := by rw [List.length_set]; exact l1
    revert l2
    generalize σ1.set 4 (some (V.ref q)) = σ2 at rs2 ⊢
    intro l2
    have el : es.length = p.toNat := a1
    -- rows = []
    refine wb_new 5 scLacks.nd (en_list ea_nil) rs2 l2 fun lr vs0 σ3 H3 s3 nr er rr rs3 l3 => ?_
    have hB3 := hB2.more s3 nr
    have hbr : b ≠ lr := hB2.ne nr
    have e0 : vs0 = [] := by cases rr; rfl
    subst e0
    refine wb_for PassesOwn.never rfl (iv_range1 (n := n) rfl B.range (ev_var 2) (by omega) (by omega)) rs3 (fun Ha i σ' Hb => ∃ rows : List (List Bool), rows.length = i ∧ (∀ r ∈ rows, r.length = p.toNat) ∧ (∃ vs, Hb lr = some (.lst vs) ∧ RepL (fun a => M a ∨ a = lr) Hb vs (rows.map rowD)) ∧
      Grow (fun a => a = b ∨ a = lr) Ha Hb ∧ BoxAt (fun a => M a ∨ a = lr) Hb b ∧ RS (fun a => M a ∨ a = lr) [some (.v (.ref b)), some (.d (.int p)), some (.d (.int n)), some (.d (.int way)), some (.d (.list (es.map pairD))), some (.v (.ref lr)), none, none, none, none] σ' Hb ∧ σ'.length = 10)
      (fun Ha sa => ⟨[], rfl, (fun r hr => by cases hr), ⟨[], sa _ _ er, .nil⟩, Grow.refl _ _, hB3.same sa, rs3.grow sa.grow, l3⟩)
      (fun Ha i σ' Hb Hc sc ⟨rows, a1, a2, ⟨vs, a3, a4⟩, a5, a6, a7, a8⟩ => ⟨rows, a1, a2, ⟨vs, sc _ _ a3, a4.grow sc.grow⟩, a5.trans sc.grow, a6.same sc, a7.grow sc.grow, a8⟩)
      (fun Ha i σ' Hb sa ⟨rows, a1, a2, a3, a5, a6, a7, a8⟩ => a5.mono fun z hz => by
        rcases hz with z1 | z1
        · subst z1; exact hB3.mem
        · exact .inr z1)
      (fun Ha i d x σ' Hb sa hd ⟨rows, a1, a2, ⟨vs, a3, a4⟩, a5, a6, a7, a8⟩ rx => ?_) (fun Ha σ' Hb sa ⟨rows, a1, a2, ⟨vs, a3, a4⟩, a5, a6, a7, a8⟩ => ?_)
    · obtain ⟨hi, rfl⟩ := rangeD_get hd
      refine wpg (gv_name (k := 1000000) 6 scLacks.nd) a7 a8 rx fun σ4 rs4 l4 _ => ?_
      refine wb_new 7 scLacks.nd (en_list ea_nil) rs4 (l4.trans a8) fun lw ws0 σ5 H5 s5 nw ew rw5 rs5 l5 => ?_
      have e0 : ws0 = [] := by cases rw5; rfl
      subst e0
      have hbw : b ≠ lw := a6.ne nw
      have hrw : lr ≠ lw := ne_of_none a3 nw
      have hB5 := a6.more s5 nw
      refine wb_for PassesOwn.never rfl (iv_list (ds := es.map pairD) (ev_var 4)) rs5 (fun Hx j σ' Hy => ∃ bs : List Bool, bs.length = j ∧ Hy lw = some (.lst (bs.map V.bl)) ∧ Grow (fun a => a = b ∨ a = lw) Hx Hy ∧ BoxAt (fun a => (M a ∨ a = lr) ∨ a = lw) Hy b ∧
        RS (fun a => (M a ∨ a = lr) ∨ a = lw) [some (.v (.ref b)), some (.d (.int p)), some (.d (.int n)), some (.d (.int way)), some (.d (.list (es.map pairD))), some (.v (.ref lr)), some (.d (.int i)), some (.v (.ref lw)), none, none] σ' Hy ∧ σ'.length = 10)
        (fun Hx sx => ⟨[], rfl, sx _ _ ew, Grow.refl _ _, hB5.same sx, rs5.grow sx.grow, l5⟩)
        (fun Hx j σ' Hy Hz sz ⟨bs, c1, c2, c3, c4, c5, c6⟩ => ⟨bs, c1, sz _ _ c2, c3.trans sz.grow, c4.same sz, c5.grow sz.grow, c6⟩)
        (fun Hx j σ' Hy sx ⟨bs, c1, c2, c3, c4, c5, c6⟩ => c3.mono fun z hz => by
          rcases hz with z1 | z1
          · subst z1; exact hB5.mem
          · exact .inr z1)
        (fun Hx j d x σ' Hy sx hd ⟨bs, c1, c2, c3, c4, c5, c6⟩ rx => ?_) (fun Hx σ' Hy sx ⟨bs, c1, c2, c3, c4, c5, c6⟩ => ?_)
      · have hjl : j < es.length := by simpa using (List.getElem?_eq_some_iff.mp hd).1
        obtain ⟨⟨lo, hi2⟩, _, rfl⟩ := List.mem_map.mp (List.mem_of_getElem? hd)
        refine wpg (gv_tup (k := 1000000) rfl (gvs_cons (gv_name 8 scLacks.nd) (gvs_cons (gv_name 9 scLacks.nd) gvs_nil))) c5 c6 rx fun σ6 rs6 l6 _ => ?_
        have fin : ∀ (t : Bool) (H7 : Hp), Grow (fun a => a = b ∨ a = lw) Hy H7 → BoxAt (fun a => (M a ∨ a = lr) ∨ a = lw) H7 b → H7 lw = some (.lst (bs.map V.bl)) → RS (fun a => (M a ∨ a = lr) ∨ a = lw) _ σ6 (upd H7 lw (.lst (bs.map V.bl ++ [.bl t]))) →
            ∃ bs' : List Bool, bs'.length = j + 1 ∧ upd H7 lw (.lst (bs.map V.bl ++ [.bl t])) lw = some (.lst (bs'.map V.bl)) ∧ Grow (fun a => a = b ∨ a = lw) Hx (upd H7 lw (.lst (bs.map V.bl ++ [.bl t]))) ∧ BoxAt (fun a => (M a ∨ a = lr) ∨ a = lw) (upd H7 lw (.lst (bs.map V.bl ++ [.bl t]))) b ∧
            RS (fun a => (M a ∨ a = lr) ∨ a = lw) [some (.v (.ref b)), some (.d (.int p)), some (.d (.int n)), some (.d (.int way)), some (.d (.list (es.map pairD))), some (.v (.ref lr)), some (.d (.int i)), some (.v (.ref lw)), none, none] σ6 (upd H7 lw (.lst (bs.map V.bl ++ [.bl t]))) ∧ σ6.length = 10 :=
          fun t H7 g7 hB7 e7 rs7 => ⟨bs ++ [t], by simp [c1], by rw [upd_same, List.map_append]; rfl, (c3.trans g7).trans (grow_updM (.inr rfl) e7), hB7.grow (M' := fun a => a = lw) (grow_upd e7) hbw (fun a z => .inr z),
            rs7.sub (sub_trans (sub_set (i := 8) (y := some (.d (.int lo))) rfl) (sub_set (i := 9) (y := some (.d (.int hi2))) rfl)), l6.trans c6⟩
        have hpe : ∀ {e : Expr} {p2 p3 pos : Pos} {X : Cx}, True := trivial
        have hlen : (bs.map V.bl).length < 1000 := by rw [List.length_map, c1]; omega
        refine wb_if (et_cmp (cr_eq hr (Pl.int _) (Pl.int _)) (ev_var 3) ev_int) rs6 (fun _ H7 s7 => ?_) (fun _ H7 s7 => ?_)
        · refine wb_app 7 (rs6.av 7 _ rfl) ⟨_, s7 _ _ c2⟩ (we_eqI (n := 1) (wp_take (j := 0) kt hr (rs6.grow s7.grow) (c4.same s7) ev_int (by decide) (by decide) fun r H8 u1 u2 u3 u4 => ⟨r, rfl, we_ev ev_int ((rs6.grow s7.grow).growB u3 (c4.same s7)) fun v H9 s9 q9 => ⟨by cases q9; rfl, ?_⟩⟩)) ?_
          · have e9 : H9 lw = some (.lst (bs.map V.bl)) := s9 _ _ (u3.same _ _ (fun z => hbw z.symm) (s7 _ _ c2))
            refine ⟨_, e9, hlen, wb_nil (wb_nil (fin _ H9 ((s7.grow.trans (u3.mono fun a z => .inl z)).trans s9.grow) (u4.same s9) e9 ?_))⟩
            exact (((rs6.grow s7.grow).growB u3 (c4.same s7)).grow s9.grow).grow (grow_updM (.inr rfl) e9)
          · exact pe_bm PySem.F.plainAttrs_list PySem.F.slot_list_append PySem.F.type_list_append mt_append (pv 7) (pa_cons pe_self pa_nil)
        · have rs7 := rs6.grow s7.grow
          refine wb_if (et_cmp (cr_eq hr (Pl.int _) (Pl.int _)) (ev_var 3) ev_int) rs7 (fun _ H8 s8 => ?_) (fun _ H8 s8 => ?_)
          · refine wb_append 7 (rs7.grow s8.grow) (ev_chain op_le op_lt (ev_min rfl rfl B.min (ev_var 8) (ev_var 9)) (ev_var 6) (ev_max rfl rfl B.max (ev_var 8) (ev_var 9))) (.inr rfl) (s8 _ _ (s7 _ _ c2)) hlen (fun v H9 s9 q9 rs9 => ?_) (hpe := pe_bm PySem.F.plainAttrs_list PySem.F.slot_list_append PySem.F.type_list_append mt_append (pv 7) (pa_cons pe_self pa_nil))
            cases q9
            exact wb_nil (wb_nil (wb_nil (fin _ H9 ((s7.trans s8).trans s9).grow (((c4.same s7).same s8).same s9) (s9 _ _ (s8 _ _ (s7 _ _ c2))) rs9)))
          · have rs8 := rs7.grow s8.grow
            refine wb_if (et_cmp (cr_eq hr (Pl.int _) (Pl.int _)) (ev_var 3) ev_int) rs8 (fun _ H9 s9 => ?_) (fun _ H9 s9 => ?_)
            · refine wb_append 7 (rs8.grow s9.grow) (ev_cmp cr_lt (ev_var 6) (ev_var 8)) (.inr rfl) (s9 _ _ (s8 _ _ (s7 _ _ c2))) hlen (fun v H10 s10 q10 rs10 => ?_) (hpe := pe_bm PySem.F.plainAttrs_list PySem.F.slot_list_append PySem.F.type_list_append mt_append (pv 7) (pa_cons pe_self pa_nil))
              cases q10
              exact wb_nil (wb_nil (wb_nil (wb_nil (fin _ H10 (((s7.trans s8).trans s9).trans s10).grow ((((c4.same s7).same s8).same s9).same s10) (s10 _ _ (s9 _ _ (s8 _ _ (s7 _ _ c2)))) rs10))))
            · refine wb_append 7 (rs8.grow s9.grow) (ev_cmp (cr_ne hr (Pl.bool _) (Pl.bool _)) (ev_cmp cr_lt (ev_var 6) (ev_var 8)) (ev_cmp (cr_eq hr (Pl.int _) (Pl.int _)) (ev_var 6) (ev_var 9))) (.inr rfl) (s9 _ _ (s8 _ _ (s7 _ _ c2))) hlen (fun v H10 s10 q10 rs10 => ?_) (hpe := pe_bm PySem.F.plainAttrs_list PySem.F.slot_list_append PySem.F.type_list_append mt_append (pv 7) (pa_cons pe_self pa_nil))
              cases q10
              exact wb_nil (wb_nil (wb_nil (wb_nil (fin _ H10 (((s7.trans s8).trans s9).trans s10).grow ((((c4.same s7).same s8).same s9).same s10) (s10 _ _ (s9 _ _ (s8 _ _ (s7 _ _ c2)))) rs10))))
      · have gB : GrowB b Hb Hy := Grow.shrink (M := fun a => a = b) ((s5.trans sx).grow.trans c3) nw
        have hlr : Hy lr = some (.lst vs) := gB.same _ _ (fun z => hbr z.symm) a3
        have hvl : vs.length = i := by rw [a4.length, List.length_map, a1]
        refine wb_app 5 (c5.av 5 _ rfl) ⟨_, hlr⟩ ((pv 7).wp ⟨.ref lw, c5.av 7 _ rfl, vs, hlr, by omega, wb_nil ?_⟩) (pe_bm PySem.F.plainAttrs_list PySem.F.slot_list_append PySem.F.type_list_append mt_append (pv 5) (pa_cons pe_self pa_nil))
        have gl : Grow (fun a => a = b ∨ a = lr) Hy (upd Hy lr (.lst (vs ++ [.ref lw]))) := grow_updM (.inr rfl) hlr
        have gt : Grow (fun a => a = b ∨ a = lr) Hb (upd Hy lr (.lst (vs ++ [.ref lw]))) := (gB.mono fun a z => .inl z).trans gl
        have gm : Grow (fun a => M a ∨ a = lr) Hb (upd Hy lr (.lst (vs ++ [.ref lw]))) := gt.mono fun z hz => by
          rcases hz with z1 | z1
          · subst z1; exact hB3.mem
          · exact .inr z1
        refine ⟨rows ++ [bs], by simp [a1], fun r hr => ?_, ⟨_, upd_same, ?_⟩, a5.trans gt, ?_, ?_, c6⟩
        · rcases List.mem_append.mp hr with z | z
          · exact a2 r z
          · rw [List.mem_singleton] at z; subst z; rw [c1, List.length_map, el]
        · rw [List.map_append]
          exact (a4.grow gm).append (.cons (.list (by rw [upd_ne hrw.symm]; exact c2) (rs4.al.new nw) (RepL.blsOf bs)) .nil)
        · exact (c4.less (.inl (hB2.mem)) (fun a ha _ => .inl ha)).grow (M' := fun a => a = lr) (grow_upd hlr) hbr (fun a z => .inr z)
        · have al1 : Al (fun a => M a ∨ a = lr) Hy := a7.al.grow gB
          exact ((c5.less (fun a ha _ => .inl ha) al1).sub (sub_trans (sub_set (i := 6) (y := some (.d (.int i))) rfl) (sub_set (i := 7) rfl))).grow (grow_updM (.inr rfl) hlr)
    · refine wb_ret (Q := fun v H' => v = .ref lr ∧ H' = Hb) ((pv 5).wp ⟨_, a7.av 5 _ rfl, rfl, rfl⟩) fun v H' ⟨e1, e2⟩ => ?_
      subst e1 e2
      have gB : GrowB b (upd _ q (.lst ys)) H' := Grow.shrink (M := fun a => a = b) ((s3.trans sa).grow.trans a5) nr
      rw [rangeD_length] at a1
      exact kk rows _ H' ((g1.trans g2).trans gB) (a6.less hB2.mem (fun a ha _ => .inl ha)) (.list a3 (rs2.al.new nr) (a4.less fun a ha _ => .inl ha)) a1 a2
theorem scCell : FnScope ["_law_box_here", "_law_row", "_law_loose", "_law_wet", "_law_stain", "_law_want", "_law_bit", "_law_shade"] ["_law_box_here", "_law_row", "_law_loose", "_law_wet"] (defScope sCell) := ⟨rfl, rfl, rfl, by decide +kernel, rfl, by decide +kernel, by decide +kernel⟩
theorem kn_cell (D : Df K mg "_law_cell" sCell ["_law_box_here", "_law_row", "_law_loose", "_law_wet"]) (B : Bi mg) (kt : Kn P w K mg base CX0 "_law_take" 2 spTake) : Kn P w K mg base CX0 "_law_cell" 3 spCell :=
  D.kn (k := 2) scCell (fun vs H Q E ⟨M, b, r, loose, wet, v, e, _⟩ => by rw [e]; rfl) fun f cdv A outer s H vs Q E hr ⟨M, b, rw0, loose, wet, rv, e, al, hB, hrv, hrl, hlo, kk⟩ => by
    subst e
    have rs0 : RS M [some (.v (.ref b)), some (.d (rowD rw0)), some (.d (.int loose)), some (.d (.int wet)), none, none, none, none] (start ["_law_box_here", "_law_row", "_law_loose", "_law_wet", "_law_stain", "_law_want", "_law_bit", "_law_shade"] [.ref b, rv, .int loose, .int wet]) H :=
      RS.startE (vs := [.ref b, rv, .int loose, .int wet]) (zs := [.v (.ref b), .d (rowD rw0), .d (.int loose), .d (.int wet)]) al ⟨rfl, hrv, .int _, .int _, trivial⟩ 4
    refine wb_new 4 scCell.nd (en_list ea_nil) rs0 rfl fun ls w0 σ1 H1 s1 n1 e1 r1 rs1 l1 => ?_
    have z0 : w0 = [] := by cases r1; rfl
    subst z0
    have hB1 := hB.more s1 n1
    refine wb_new 5 scCell.nd (en_list ea_nil) rs1 l1 fun lt w0 σ2 H2 s2 n2 e2 r2 rs2 l2 => ?_
    have z0 : w0 = [] := by cases r2; rfl
    subst z0
    have hB2 := hB1.more s2 n2
    have hbs : b ≠ ls := hB.ne n1
    have hbt : b ≠ lt := hB1.ne n2
    have hst : ls ≠ lt := ne_of_none e1 n2
    have m3 : ∀ a, M3 b ls lt a → (M a ∨ a = ls) ∨ a = lt := fun a ha => by
      rcases ha with (z | z) | z
      · subst z; exact .inl (.inl hB.mem)
      · exact .inl (.inr z)
      · exact .inr z
    refine wb_for PassesOwn.never rfl (iv_list (ds := rw0.map PyData.bool) (ev_var 1)) rs2 (fun Ha i σ' Hb => ∃ st wt : List Int, st.length = i ∧ wt.length = i ∧ (∀ z ∈ st, 0 ≤ z ∧ z ≤ 9) ∧ (∀ z ∈ wt, 0 ≤ z ∧ z ≤ 9) ∧ Hb ls = some (.lst (st.map V.int)) ∧ Hb lt = some (.lst (wt.map V.int)) ∧
      Grow (M3 b ls lt) Ha Hb ∧ BoxAt (fun a => (M a ∨ a = ls) ∨ a = lt) Hb b ∧ RS (fun a => (M a ∨ a = ls) ∨ a = lt) [some (.v (.ref b)), some (.d (rowD rw0)), some (.d (.int loose)), some (.d (.int wet)), some (.v (.ref ls)), some (.v (.ref lt)), none, none] σ' Hb ∧ σ'.length = 8)
      (fun Ha sa => ⟨[], [], rfl, rfl, (fun z hz => by cases hz), (fun z hz => by cases hz), sa _ _ (s2 _ _ e1), sa _ _ e2, Grow.refl _ _, hB2.same sa, rs2.grow sa.grow, l2⟩)
      (fun Ha i σ' Hb Hc sc ⟨st, wt, a1, a2, a3, a4, a5, a6, a7, a8, a9, a10⟩ => ⟨st, wt, a1, a2, a3, a4, sc _ _ a5, sc _ _ a6, a7.trans sc.grow, a8.same sc, a9.grow sc.grow, a10⟩)
      (fun Ha i σ' Hb sa ⟨st, wt, a1, a2, a3, a4, a5, a6, a7, a8, a9, a10⟩ => a7.mono m3)
      (fun Ha i d x σ' Hb sa hd ⟨st, wt, a1, a2, a3, a4, a5, a6, a7, a8, a9, a10⟩ rx => ?_) (fun Ha σ' Hb sa ⟨st, wt, a1, a2, a3, a4, a5, a6, a7, a8, a9, a10⟩ => ?_)
    · have hil : i < rw0.length := by simpa using (List.getElem?_eq_some_iff.mp hd).1
      obtain ⟨t, _, rfl⟩ := List.mem_map.mp (List.mem_of_getElem? hd)
      refine wpg (gv_name (k := 1000000) 6 scCell.nd) a9 a10 rx fun σ3 rs3 l3 _ => ?_
      refine wb_take 7 (j := 0) scCell.nd kt hr rs3 (by exact l3.trans a10) a8 ev_int (by decide) (by decide) fun sh σ4 H4 h0 h1 g4 hB4 rs4 l4 => ?_
      have es4 : H4 ls = some (.lst (st.map V.int)) := g4.same _ _ (fun z => hbs z.symm) a5
      have et4 : H4 lt = some (.lst (wt.map V.int)) := g4.same _ _ (fun z => hbt z.symm) a6
      refine wb_append 4 rs4 (ev_var 7) (.inl (.inr rfl)) es4 (by rw [List.length_map]; omega) (fun v5 H5 s5 q5 rs5 => ?_) (hpe := pe_bm PySem.F.plainAttrs_list PySem.F.slot_list_append PySem.F.type_list_append mt_append (pv 4) (pa_cons pe_self pa_nil))
      cases q5
      have es5 : H5 ls = some (.lst (st.map V.int)) := s5 _ _ es4
      have et5 : upd H5 ls (.lst (st.map V.int ++ [V.int sh])) lt = some (.lst (wt.map V.int)) := by rw [upd_ne hst.symm]; exact s5 _ _ et4
      refine wb_append 5 rs5 (ev_add (ev_var 7) (ev_intB rfl B.int (ev_var 6))) (.inr rfl) et5 (by rw [List.length_map]; omega) (fun v6 H6 s6 q6 rs6 => ?_) (hpe := pe_bm PySem.F.plainAttrs_list PySem.F.slot_list_append PySem.F.type_list_append mt_append (pv 5) (pa_cons pe_self pa_nil))
      cases q6
      have g5 : Grow (M3 b ls lt) H4 (upd H5 ls (.lst (st.map V.int ++ [V.int sh]))) := s5.grow.trans (grow_updM (.inl (.inr rfl)) es5)
      have hB5 : BoxAt (fun a => (M a ∨ a = ls) ∨ a = lt) (upd H5 ls (.lst (st.map V.int ++ [V.int sh]))) b := (hB4.same s5).grow (M' := fun a => a = ls) (grow_upd es5) hbs (fun a z => .inl (.inr z))
      have et6 : H6 lt = some (.lst (wt.map V.int)) := s6 _ _ et5
      have es6 : H6 ls = some (.lst (st.map V.int ++ [V.int sh])) := s6 _ _ upd_same
      generalize e7 : upd H6 lt (.lst (wt.map V.int ++ [V.int (sh + if t = true then 1 else 0)])) = H7 at rs6 ⊢
      have et7 : H7 lt = some (.lst ((wt ++ [sh + if t = true then 1 else 0]).map V.int)) := by rw [← e7, upd_same, List.map_append]; rfl
      have es7 : H7 ls = some (.lst ((st ++ [sh]).map V.int)) := by rw [← e7, upd_ne hst, es6, List.map_append]; rfl
      have g7 : Grow (M3 b ls lt) Ha H7 := ((a7.trans (g4.mono fun a z => .inl (.inl z))).trans g5).trans (s6.grow.trans (by rw [← e7]; exact grow_updM (.inr rfl) et6))
      have hB7 : BoxAt (fun a => (M a ∨ a = ls) ∨ a = lt) H7 b := by rw [← e7]; exact (hB5.same s6).grow (M' := fun a => a = lt) (grow_upd et6) hbt (fun a z => .inr z)
      have bs7 : ∀ z ∈ st ++ [sh], 0 ≤ z ∧ z ≤ 9 := fun z hz => by
        rcases List.mem_append.mp hz with q | q
        · exact a3 z q
        · rw [List.mem_singleton] at q; omega
      have bt7 : ∀ z ∈ wt ++ [sh + if t = true then 1 else 0], 0 ≤ z ∧ z ≤ 9 := fun z hz => by
        rcases List.mem_append.mp hz with q | q
        · exact a4 z q
        · rw [List.mem_singleton] at q; cases t <;> simp at q <;> omega
      have l7 : σ4.length = 8 := l4
      have hsub : ∀ (j : Nat) (z : Ent), ([some (.v (.ref b)), some (.d (rowD rw0)), some (.d (.int loose)), some (.d (.int wet)), some (.v (.ref ls)), some (.v (.ref lt)), none, none] : Ge)[j]? = some (some z) → ([some (.v (.ref b)), some (.d (rowD rw0)), some (.d (.int loose)), some (.d (.int wet)), some (.v (.ref ls)), some (.v (.ref lt)), some (.d (.bool t)), some (.d (.int sh))] : Ge)[j]? = some (some z) :=
        sub_trans (sub_set (i := 6) (y := some (.d (.bool t))) rfl) (sub_set (i := 7) (y := some (.d (.int sh))) rfl)
      have done7 : ∀ H8, Same H7 H8 ∨ GrowB b H7 H8 → BoxAt (fun a => (M a ∨ a = ls) ∨ a = lt) H8 b → _ := fun H8 hs hB8 => (⟨st ++ [sh], wt ++ [sh + if t = true then 1 else 0], by simp [a1], by simp [a2], bs7, bt7,
        (by rcases hs with q | q; exact q _ _ es7; exact q.same _ _ (fun z => hbs z.symm) es7), (by rcases hs with q | q; exact q _ _ et7; exact q.same _ _ (fun z => hbt z.symm) et7), g7.trans (by rcases hs with q | q; exact q.grow; exact q.mono fun a z => .inl (.inl z)), hB8,
        (rs6.grow (by rcases hs with q | q; exact q.grow; exact q.mono fun a z => by subst z; exact hB7.mem)).sub hsub, l7⟩ : ∃ st' wt' : List Int, st'.length = i + 1 ∧ wt'.length = i + 1 ∧ (∀ z ∈ st', 0 ≤ z ∧ z ≤ 9) ∧ (∀ z ∈ wt', 0 ≤ z ∧ z ≤ 9) ∧ H8 ls = some (.lst (st'.map V.int)) ∧ H8 lt = some (.lst (wt'.map V.int)) ∧
        Grow (M3 b ls lt) Ha H8 ∧ BoxAt (fun a => (M a ∨ a = ls) ∨ a = lt) H8 b ∧ RS (fun a => (M a ∨ a = ls) ∨ a = lt) [some (.v (.ref b)), some (.d (rowD rw0)), some (.d (.int loose)), some (.d (.int wet)), some (.v (.ref ls)), some (.v (.ref lt)), none, none] σ4 H8 ∧ σ4.length = 8)
      refine wb_ifW ((pw_and pt_self (pw_and1 pt_self)).pt.wp ((et_cmp cr_gt (ev_var 2) ev_int) _ σ4 H7 _ rs6 fun H8 s8 => ?_))
      by_cases hpos : 0 < loose
      · rw [decide_eq_true hpos]
        refine iteT (wt_eqI (n := 0) (wp_take (j := 0) kt hr (rs6.grow s8.grow) (hB7.same s8) (ev_var 2) (by omega) hlo fun r9 H9 u1 u2 u3 u4 => ⟨r9, rfl, we_ev ev_int ((rs6.grow s8.grow).growB u3 (hB7.same s8)) fun v10 H10 s10 q10 => ⟨by cases q10; rfl, ?_⟩⟩))
        have g10 : GrowB b H7 H10 := (s8.grow.trans u3).trans s10.grow
        have hB10 := u4.same s10
        have rs10 := rs6.growB g10 hB7
        have es10 : H10 ls = some (.lst ((st ++ [sh]).map V.int)) := g10.same _ _ (fun z => hbs z.symm) es7
        have et10 : H10 lt = some (.lst ((wt ++ [sh + if t = true then 1 else 0]).map V.int)) := g10.same _ _ (fun z => hbt z.symm) et7
        refine ite2 (fun _ => ?_) (fun _ => wb_nil (wb_nil (done7 H10 (.inr g10) hB10)))
        refine wb_item 4 (pg_sub (pv 4) pe_neg1 set_list) (rs10.av 4 _ rfl) (wp_take (j := 0) kt hr rs10 hB10 ev_int (by decide) (by decide) fun r11 H11 v1 v2 v3 v4 => ?_)
        have es11 : H11 ls = some (.lst ((st ++ [sh]).map V.int)) := v3.same _ _ (fun z => hbs z.symm) es10
        have et11 : H11 lt = some (.lst ((wt ++ [sh + if t = true then 1 else 0]).map V.int)) := v3.same _ _ (fun z => hbt z.symm) et10
        refine ⟨_, (st ++ [sh]).length - 1, es11, by rw [List.length_map]; exact ixN_last (by simp), ?_⟩
        rw [map_set_int]
        have rs12 := (rs10.growB v3 hB10).grow (grow_updM (.inl (.inr rfl)) es11 (o := .lst (((st ++ [sh]).set ((st ++ [sh]).length - 1) r11).map V.int)))
        have hB12 := v4.grow (M' := fun a => a = ls) (grow_upd es11 (o := .lst (((st ++ [sh]).set ((st ++ [sh]).length - 1) r11).map V.int))) hbs (fun a z => .inl (.inr z))
        refine wb_item 5 (pg_sub (pv 5) pe_neg1 set_list) (rs12.av 5 _ rfl) (wp_take (j := 0) kt hr rs12 hB12 ev_int (by decide) (by decide) fun r13 H13 y1 y2 y3 y4 => ?_)
        have es13 : H13 ls = some (.lst (((st ++ [sh]).set ((st ++ [sh]).length - 1) r11).map V.int)) := y3.same _ _ (fun z => hbs z.symm) upd_same
        have et13 : H13 lt = some (.lst ((wt ++ [sh + if t = true then 1 else 0]).map V.int)) := y3.same _ _ (fun z => hbt z.symm) (by rw [upd_ne hst.symm]; exact et11)
        refine ⟨_, (wt ++ [sh + if t = true then 1 else 0]).length - 1, et13, by rw [List.length_map]; exact ixN_last (by simp), wb_nil (wb_nil ?_)⟩
        rw [map_set_int]
        refine ⟨(st ++ [sh]).set ((st ++ [sh]).length - 1) r11, (wt ++ [sh + if t = true then 1 else 0]).set ((wt ++ [sh + if t = true then 1 else 0]).length - 1) r13, by simp [a1], by simp [a2], fun z hz => ?_, fun z hz => ?_, by rw [upd_ne hst]; exact es13, upd_same, ?_, ?_, ?_, l7⟩
        · rcases mem_set_or hz with q | q
          · exact bs7 z q
          · omega
        · rcases mem_set_or hz with q | q
          · exact bt7 z q
          · omega
        · exact (((g7.trans (g10.mono fun a z => .inl (.inl z))).trans ((v3.mono fun a z => .inl (.inl z)).trans (grow_updM (.inl (.inr rfl)) es11))).trans (y3.mono fun a z => .inl (.inl z))).trans (grow_updM (.inr rfl) et13)
        · exact y4.grow (M' := fun a => a = lt) (grow_upd et13) hbt (fun a z => .inr z)
        · exact ((rs12.growB y3 hB12).grow (grow_updM (.inr rfl) et13)).sub hsub
      · rw [decide_eq_false hpos]
        exact iteF (iteF (wb_nil (wb_nil (done7 H8 (.inl s8) (hB7.same s8)))))
    · rw [List.length_map] at a1 a2
      have gB : GrowB b H Hb := Grow.shrink (M := fun a => a = b) (Grow.shrink (M := fun a => a = b ∨ a = ls) (((s1.trans s2).trans sa).grow.trans a7) (s1.free n2)) n1
      refine PSs.wp (pss_cons (ps_ret (pe_tup (pa_cons (pe_callTy call_tuple_of rfl B.tuple boot_tupleW (pa_cons (pv 4) pa_nil)) (pa_cons (pe_and pe_self (pe_one pe_self)) (pa_cons (pe_callTy call_tuple_of rfl B.tuple boot_tupleW (pa_cons (pv 5) pa_nil)) pa_nil))))) pss_nil) ?_
      refine ⟨_, a9.av 4 _ rfl, ls, _, rfl, .inl ⟨SqL.of a5, fun q nq => ?_⟩⟩
      have sq := upd_new (o := .tup (st.map V.int)) nq
      have fin : ∀ (t : Bool) (H5 : Hp), GrowB b (upd Hb q (.tup (st.map V.int))) H5 → BoxAt (fun a => (M a ∨ a = ls) ∨ a = lt) H5 b → ∀ q2, H5 q2 = none → ∀ p, upd H5 q2 (.tup (wt.map V.int)) p = none → Q (.ref p) (upd (upd H5 q2 (.tup (wt.map V.int))) p (.tup [.ref q, .bl t, .ref q2])) := fun t H5 g5 hB5 q2 nq2 p np => by
        have s6 := upd_new (o := .tup (wt.map V.int)) nq2
        have s7 := upd_new (o := .tup [.ref q, .bl t, .ref q2]) np
        have eq5 : H5 q = some (.tup (st.map V.int)) := g5.tups _ _ upd_same
        exact kk ⟨st, t, wt⟩ _ _ (((gB.trans sq.grow).trans g5).trans (s6.trans s7).grow) ((hB5.less hB.mem (fun a ha _ => .inl (.inl ha))).same (s6.trans s7))
          (.tuple upd_same (.cons (.tuple (s7 _ _ (s6 _ _ eq5)) (RepL.ints st)) (.cons (.bool t) (.cons (.tuple (s7 _ _ upd_same) (RepL.ints wt)) .nil)))) ⟨⟨a1, a2⟩, a3, a4⟩
      have et5 : ∀ H5, GrowB b (upd Hb q (.tup (st.map V.int))) H5 → H5 lt = some (.lst (wt.map V.int)) := fun H5 g5 => g5.same _ _ (fun z => hbt z.symm) (sq _ _ a6)
      refine (ev_cmp cr_gt (ev_var 3) ev_int) _ σ' _ _ (a9.grow sq.grow) fun v4 H4 s4 q4 => ?_
      cases q4
      refine ⟨_, rfl, ?_⟩
      by_cases hw : 0 < wet
      · rw [decide_eq_true hw]
        refine iteT ((pe_cmpR op_lt pe_self pe_self (nomark _)).wp (wp_take (j := 0) kt hr ((a9.grow sq.grow).grow s4.grow) ((a8.same sq).same s4) ev_int (by decide) (by decide) fun r5 H5 u1 u2 u3 u4 => we_ev (ev_var 3) (((a9.grow sq.grow).grow s4.grow).growB u3 ((a8.same sq).same s4)) fun v6 H6 s6 q6 => ?_))
        cases q6
        have g6 : GrowB b (upd Hb q (.tup (st.map V.int))) H6 := (s4.grow.trans u3).trans s6.grow
        exact ⟨_, _, rfl, rfl, _, a9.av 5 _ rfl, lt, _, rfl, .inl ⟨SqL.of (et5 _ g6), fun q2 nq2 => ⟨(by show 3 ≤ sizeLine; decide), fun p np => fin _ _ g6 (u4.same s6) q2 nq2 p np⟩⟩⟩
      · rw [decide_eq_false hw]
        exact iteF ⟨_, a9.av 5 _ rfl, lt, _, rfl, .inl ⟨SqL.of (et5 _ s4.grow), fun q2 nq2 => ⟨(by show 3 ≤ sizeLine; decide), fun p np => fin _ _ s4.grow ((a8.same sq).same s4) q2 nq2 p np⟩⟩⟩
theorem scBolt : FnScope ["_law_box_here", "_law_pots", "_law_size", "_law_loose", "_law_wet", "_law_rows"] ["_law_box_here", "_law_pots", "_law_size", "_law_loose"] (defScope sBolt) := ⟨rfl, rfl, rfl, by decide +kernel, rfl, by decide +kernel, by decide +kernel⟩
theorem kn_bolt (D : Df K mg "_law_bolt" sBolt ["_law_box_here", "_law_pots", "_law_size", "_law_loose"]) (kt : Kn P w K mg base CX0 "_law_take" 2 spTake) (kl : Kn P w K mg base CX0 "_law_lacks" 3 spLacks) (kc : Kn P w K mg base CX0 "_law_cell" 3 spCell) : Kn P w K mg base CX0 "_law_bolt" 4 spBolt :=
  D.kn (k := 3) scBolt (fun vs H Q E ⟨M, b, p, n, l, e, _⟩ => by rw [e]; rfl) fun f cdv A outer s H vs Q E hr ⟨M, b, p, n, loose, e, al, hB, hp0, hp1, hn0, hn1, hlo, kk⟩ => by
    subst e
    have rs0 : RS M [some (.v (.ref b)), some (.d (.int p)), some (.d (.int n)), some (.d (.int loose)), none, none] (start ["_law_box_here", "_law_pots", "_law_size", "_law_loose", "_law_wet", "_law_rows"] [.ref b, .int p, .int n, .int loose]) H :=
      RS.startE (vs := [.ref b, .int p, .int n, .int loose]) (zs := [.v (.ref b), .d (.int p), .d (.int n), .d (.int loose)]) al ⟨rfl, .int _, .int _, .int _, trivial⟩ 2
    refine wb_take 4 (j := 0) scBolt.nd kt (hr.mono (by decide)) rs0 rfl hB ev_int (by decide) (by decide) fun wet σ1 H1 h0 h1 g1 hB1 rs1 l1 => ?_
    refine wb_wp 5 (Q := fun v H' => ∃ rows : List (List Bool), GrowB b H1 H' ∧ BoxAt M H' b ∧ Rep M H' v (.list (rows.map rowD)) ∧ rows.length = n.toNat ∧ ∀ r ∈ rows, r.length = p.toNat) scBolt.nd (wp_call kl hr rfl pass0 ((pa_cons (pv 0) pa_self).wp ⟨_, rs1.av 0 _ rfl, (ea_cons (ev_var 1) (ea_cons (ev_var 2) ea_nil)) M σ1 H1 _ rs1 fun vs H2 s2 q2 => ?_⟩)) (fun v H2 ⟨rows, c1, c2, c3, c4, c5⟩ => ?_)
    · obtain ⟨v, u, rfl, q3, q4⟩ := q2.two
      cases q3; cases q4
      exact ⟨M, b, p, n, rfl, (rs1.grow s2.grow).al, hB1.same s2, hp0, hp1, hn0, hn1, fun rows v H' g' hB' r' e1 e2 => ⟨rows, s2.grow.trans g', hB', r', e1, e2⟩⟩
    have rs2 := (rs1.growB c1 hB1).set (i := 5) c3 (by rw [l1]; show 5 < 6; decide)
    refine wb_ret (Q := fun v H' => ∃ (cs : List Cell) (a : Addr) (ws : List V), v = .ref a ∧ GrowB b H2 H' ∧ BoxAt M H' b ∧ H2 a = none ∧ H' a = some (.lst ws) ∧ RepL M H' ws (boltD cs) ∧ cs.length = n.toNat ∧ ∀ c ∈ cs, c.In p.toNat)
      ((pe_compU (k := 1) (ix := [0, 3, 4]) (N' := ["_law_row", "_law_box_here", "_law_loose", "_law_wet"]) rfl (CSc.of (by kernel_rfl))).wp (comp_tr (iv_list (ds := rows.map rowD) (ev_var 5)) rs2
      (fun Ha i ys Hb => ∃ cs : List Cell, cs.length = i ∧ RepL M Hb ys (boltD cs) ∧ (∀ c ∈ cs, c.In p.toNat) ∧ GrowB b Ha Hb ∧ BoxAt M Hb b) (fun Ha sa => ⟨[], rfl, .nil, (fun c hc => by cases hc), Grow.refl _ _, c2.same sa⟩)
      (fun Ha i ys Hb Hc sc ⟨cs, a1, a2, a3, a4, a5⟩ => ⟨cs, a1, a2.grow sc.grow, a3, a4.trans sc.grow, a5.same sc⟩) (fun Ha i ys Hb sa ⟨cs, a1, a2, a3, a4, a5⟩ => ⟨a4.mono fun z hz => by subst hz; exact a5.mem, by rw [a2.length, boltD, List.length_map, a1]; exact Nat.le_refl _⟩) (by rw [List.length_map, c4]; exact small1000 (by omega))
      (fun Ha i d x ys Hb sa hd ⟨cs, a1, a2, a3, a4, a5⟩ rx cl C s2 H3 fp => ?_) (fun Ha ys Hb sa ⟨cs, a1, a2, a3, a4, a5⟩ q nq => ⟨cs, q, ys, rfl, (sa.grow.trans a4).trans (upd_new nq).grow, a5.same (upd_new nq), ?_, upd_same, a2.grow (upd_new nq).grow, by rw [a1, List.length_map, c4], a3⟩)))
      (fun v H' ⟨cs, a, ws, e, a1, a2, a3, a4, a5, a6, a7⟩ => ?_)
    · obtain ⟨r, hr0, rfl⟩ := List.mem_map.mp (List.mem_of_getElem? hd)
      have rsb : RS M _ _ Hb := (rs2.grow sa.grow).growB a4 (c2.same sa)
      refine wpg (gv_name (k := 1) 0 (by show List.Nodup (α := Str) ["_law_row", "_law_box_here", "_law_loose", "_law_wet"]; decide +kernel)) (rsb.comp (k := 1) (ix := [0, 3, 4])) rfl rx fun σ2 rs3 l2 d2 => ⟨d2, fun cl C s2 H2 fp => ef_nil (M := M) (iteT fun cl C s2 H2 fp => ?_)⟩
      refine wp_call kc hr rfl pass0 ((pa_cons (pv 1) pa_self).wp ⟨_, rs3.av 1 _ rfl, (ea_cons (ev_var 0) (ea_cons (ev_var 2) (ea_cons (ev_var 3) ea_nil))) M σ2 Hb _ rs3 fun vs H5 s5 q5 => ?_⟩)
      cases q5 with
      | cons q6 q7 =>
        obtain ⟨v, u, rfl, q3, q4⟩ := q7.two
        cases q3; cases q4
        refine ⟨M, b, r, loose, wet, _, rfl, (rs3.grow s5.grow).al, a5.same s5, q6, by rw [c5 r hr0]; omega, hlo, fun c v H6 g6 hB6 r6 ok => ⟨cs ++ [c], by simp [a1], ?_, fun c' hc' => ?_, a4.trans (s5.grow.trans g6), hB6⟩⟩
        · rw [boltD, List.map_append]
          exact (a2.grow (s5.grow.trans (g6.mono fun z hz => by subst hz; exact a5.mem))).append (.cons r6 .nil)
        · rcases List.mem_append.mp hc' with z | z
          · exact a3 c' z
          · rw [List.mem_singleton] at z; subst z; rw [← c5 r hr0]; exact ok
    · cases e0 : H2 q with
      | none => rfl
      | some o => exact absurd nq ((sa.grow.trans a4).stay q (by rw [e0]; exact fun z => nomatch z))
    · subst e
      refine kk cs a ws H' ((g1.trans c1).trans a1) a2 ?_ a4 a5 a6 a7
      cases e0 : H a with
      | none => rfl
      | some o => exact absurd a3 ((g1.trans c1).stay a (by rw [e0]; exact fun z => nomatch z))
theorem scSizes : FnScope ["_law_box_here"] ["_law_box_here"] (defScope sSizes) := ⟨rfl, rfl, rfl, by decide +kernel, rfl, by decide +kernel, by decide +kernel⟩
theorem kn_sizes (D : Df K mg "_law_sizes" sSizes ["_law_box_here"]) (kt : Kn P w K mg base CX0 "_law_take" 2 spTake) : Kn P w K mg base CX0 "_law_sizes" 3 spSizes :=
  D.kn (k := 2) scSizes (fun vs H Q E ⟨M, b, e, _⟩ => by rw [e]; rfl) fun f cdv A outer s H vs Q E hr ⟨M, b, e, al, hB, kk⟩ => by
    subst e
    have rs0 : RS M [some (.v (.ref b))] (start ["_law_box_here"] [.ref b]) H := RS.startE (vs := [.ref b]) (zs := [.v (.ref b)]) al ⟨rfl, trivial⟩ 0
    refine wb_ifW (wt_eqI (n := 0) (wp_take (j := 0) kt hr rs0 hB ev_int (by decide) (by decide) fun r1 H1 u1 u2 u3 u4 => ⟨r1, rfl, we_ev ev_int (rs0.growB u3 hB) fun v H2 s2 q2 => ⟨by cases q2; rfl, ?_⟩⟩))
    have rs2 := (rs0.growB u3 hB).grow s2.grow
    have hB2 := u4.same s2
    refine ite2 (fun _ => ?_) (fun _ => wb_nil ?_)
    all_goals
      refine PSs.wp (pss_cons (ps_ret (pe_tup (pa_cons pe_self (pa_cons pe_self pa_nil)))) pss_nil) (wp_take (j := 0) kt hr rs2 hB2 ev_int (by decide) (by decide) fun r3 H3 x1 x2 x3 x4 => wp_take (j := 0) kt hr (rs2.growB x3 hB2) x4 ev_int (by decide) (by decide) fun r4 H4 y1 y2 y3 y4 => ⟨(by show 2 ≤ sizeLine; decide), fun q nq => ?_⟩)
      exact kk r3 r4 _ _ x1 (by omega) y1 (by omega) ((((u3.trans s2.grow).trans x3).trans y3).trans (upd_new nq).grow) (y4.same (upd_new nq)) (.tuple upd_same (.cons (.int _) (.cons (.int _) .nil)))
theorem scBoiled : FnScope ["bolt"] ["bolt"] (defScope sBoiled) := ⟨rfl, rfl, rfl, by decide +kernel, rfl, by decide +kernel, by decide +kernel⟩
def boilC (c : Cell) : Cell := ⟨c.stain, false, c.wish⟩
def spBoil (x : Nat) : Sp := spN 1 (fun ds => ∃ cs : List Cell, cs.length ≤ 100 ∧ ds = [.list (boltD cs)]) (fun ds => match ds with | [.list l] => l.map (onCell fun s _ q => .tuple [s, .bool false, q]) | _ => [])
theorem boil_eq (cs : List Cell) : (boltD cs).map (onCell fun s _ q => .tuple [s, .bool false, q]) = boltD (cs.map boilC) := by
  rw [map_boltD]; simp [boltD, Cell.d, boilC]
theorem kn_boiled (D : Df K mg "boiled" sBoiled ["bolt"]) : Kn P w K mg base CX0 "boiled" 1 (spBoil 0) :=
  D.knN (k := 0) scBoiled rfl (by decide) fun fa cdv A outer s H E ds hr hl ⟨cs, hcs, e⟩ => by
    subst e
    refine sb_stop (s1_new (en_comp (f := onCell fun s _ q => .tuple [s, .bool false, q]) (k := 3) (ix := []) (N' := ["stain", "waxed", "wish"]) cellG rfl (CSc.of (by kernel_rfl)) (iv_list (ev_var 0)) (by rw [boltD, List.length_map]; exact small1000 (by omega)) (fun nd d hd cl C s2 H2 fp => ?_) (fun d hd cl C s2 H2 fp => ?_)))
    · obtain ⟨c, _, rfl⟩ := List.mem_map.mp hd
      exact gv_tup (ds := [picD c.stain, .bool c.wax, picD c.wish]) rfl (gvs_cons (gv_name 0 nd) (gvs_cons (gv_name 1 nd) (gvs_cons (gv_name 2 nd) gvs_nil)))
    · obtain ⟨c, _, rfl⟩ := List.mem_map.mp hd
      exact ev_tuple (ds := [picD c.stain, .bool false, picD c.wish]) (ea_cons (ev_var 0) (ea_cons ev_bool (ea_cons (ev_var 2) ea_nil)))
theorem scBoil : FnScope ["_law_rows"] ["_law_rows"] (defScope sBoil) := ⟨rfl, rfl, rfl, by decide +kernel, rfl, by decide +kernel, by decide +kernel⟩
theorem kn_boil (D : Df K mg "_law_boil" sBoil ["_law_rows"]) (B : Bi mg) : Kn P w K mg base CX0 "_law_boil" 1 (spBoil 0) :=
  D.knN (k := 0) scBoil rfl (by decide) fun fa cdv A outer s H E ds hr hl ⟨cs, hcs, e⟩ => by
    subst e
    refine sb_stop (s1_new (EN.cast (en_comp (f := getF (fun c => (boilC c).d) cs) (k := 1) (ix := [0]) (N' := ["_law_at", "_law_rows"]) (fun d => [some (.d d), some (.d (.list (boltD cs)))]) rfl (CSc.of (by kernel_rfl)) (iv_range1 (n := (boltD cs).length) rfl B.range (ev_lenL rfl B.len (ev_var 0)) (by omega) (by rw [boltD, List.length_map]; omega)) (by rw [rangeD_length]; simp only [boltD, List.length_map, Int.toNat_natCast]; exact small1000 (by omega))
      (fun nd d hd cl C s2 H2 fp => gv_name 0 nd) (fun d hd cl C s2 H2 fp => ?_)) ?_))
    · obtain ⟨i, hi, rfl⟩ := mem_rangeD hd
      have hi' : i < cs.length := by simpa [boltD] using hi
      have h := atI_bolt hi'
      refine EV.cast (ev_tuple (ea_cons (ev_tix (ds := [picD cs[i].stain, .bool cs[i].wax, picD cs[i].wish]) (ev_lix (ev_var 1) (ev_var 0) h) ev_int rfl) (ea_cons ev_bool (ea_cons (ev_tix (ds := [picD cs[i].stain, .bool cs[i].wax, picD cs[i].wish]) (ev_lix (ev_var 1) (ev_var 0) h) ev_int rfl) ea_nil)))) ?_
      simp [getF, hi', Cell.d, boilC]
    · rw [show ((boltD cs).length : Int).toNat = cs.length by simp [boltD], map_rangeD_get]
      show _ = (boltD cs).map _
      rw [boil_eq]; simp [boltD]
theorem scLaw : FnScope ["_law_script", "_law_box_here", "_law_pots", "_law_size", "_law_rows", "_law_kept", "_law_found"] ["_law_script"] (defScope sLaw) := ⟨rfl, rfl, rfl, by decide +kernel, rfl, by decide +kernel, by decide +kernel⟩
theorem law_ok {fa : Addr} {fd : FuncData} (F : Fun K "law" "law" sLaw fa fd) (B : Bi mg) (kb : Kn P w K mg base CX0 "_law_box" 1 (spBox K)) (kz : Kn P w K mg base CX0 "_law_sizes" 3 spSizes) (ko : Kn P w K mg base CX0 "_law_bolt" 4 spBolt)
    (kd : Kn P w K mg base CX0 "boiled" 1 (spBoil 0)) (kl : Kn P w K mg base CX0 "_law_boil" 1 (spBoil 0)) (ka : Kn P w K mg base CX0 "_law_alike" 4 spAlike) : FnOk P w K mg base CX0 7 fa fd ["_law_script"] (spLaw K) :=
  F.law (k := 6) scLaw fun cdv A outer s H Q E a ns hr hS hlen kk => by
    refine wb_box scLaw.nd kb (hr.mono (by decide)) hS hlen (fun b σ1 H1 s1 nb hB rs1 l1 => ?_) rfl rfl
    -- pots, size
    refine wb_asg (wp_call kz (hr.mono (by decide)) rfl pass0 ((pa_cons (pv 1) pa_nil).wp ⟨_, rs1.av 1 _ rfl, fun a => a = b, b, rfl, rs1.al, hB, fun p n v H2 hp0 hp1 hn0 hn1 g2 hB2 r2 => ?_⟩))
    refine wpg (gv_tup (k := 1000000) rfl (gvs_cons (gv_name 2 scLaw.nd) (gvs_cons (gv_name 3 scLaw.nd) gvs_nil))) (rs1.growB g2 hB) l1 r2 fun σ2 rs2 l2 _ => ?_
    have l2' := l2.trans l1
    -- rows
    refine wb_wp 4 (Q := fun v H' => ∃ (cs : List Cell) (r : Addr) (ws : List V), v = .ref r ∧ GrowB b H2 H' ∧ BoxAt (fun a => a = b) H' b ∧ H2 r = none ∧ H' r = some (.lst ws) ∧ RepL (fun a => a = b) H' ws (boltD cs) ∧ cs.length = n.toNat ∧ ∀ c ∈ cs, c.In p.toNat) scLaw.nd
      (wp_call ko (hr.mono (by decide)) rfl pass0 ((pa_cons (pv 1) pa_self).wp ⟨_, rs2.av 1 _ rfl, (ea_cons (ev_var 2) (ea_cons (ev_var 3) (ea_cons ev_int ea_nil))) _ σ2 H2 _ rs2 fun vs H3 s3 q3 => ?_⟩)) (fun v H3 ⟨cs, r, ws, ev, g3, hB3, nr, er, rr, hcl, hcs⟩ => ?_)
    · cases q3 with
      | cons q6 q7 =>
        obtain ⟨v, u, rfl, q3, q4⟩ := q7.two
        cases q6; cases q3; cases q4
        refine ⟨fun a => a = b, b, p, n, 5, rfl, (rs2.grow s3.grow).al, hB2.same s3, hp0, by omega, hn0, by omega, by decide, fun cs r ws H' g' hB' nr er rr e1 e2 => ⟨cs, r, ws, rfl, s3.grow.trans g', hB', s3.free nr, er, rr, e1, e2⟩⟩
    subst ev
    have rs3 := (rs2.growB g3 hB2).set (i := 4) (d := .list (boltD cs)) (v := .ref r) (.list er (rs2.al.new nr) rr) (by rw [l2']; show 4 < 7; decide)
    have l3 : (σ2.set 4 (some (V.ref r))).length = 7 := by rw [List.length_set]; exact l2'
    have hcl' : cs.length ≤ 100 := by omega
    refine wb_s1 (s1_set 5 scLaw.nd (EN.ev (en_listL rfl B.list (ev_var 4)))) rs3 l3 fun σ4 H4 s4 rs4 l4 => ?_
    refine wb_newD 6 scLaw.nd (en_call kd (hr.mono (by decide)) rfl pass0 (ea_cons (ev_var 4) ea_nil) ⟨cs, hcl', rfl⟩ (ds' := boltD (cs.map boilC)) (boil_eq cs)) rs4 l4 fun ff vs σ5 H5 s5 nf ef rf rs5 l5 more => ?_
    have hpp : ((p.toNat : Nat) : Int) = p := by omega
    have hok : ∀ c ∈ cs.map boilC, c.Ok p.toNat := fun c hc => by
      obtain ⟨c', h', rfl⟩ := List.mem_map.mp hc
      exact ⟨(hcs c' h').hs, (hcs c' h').hw⟩
    refine wb_if (ET.cast (EW.et' (ew_or (et_cmp (cr_ne hr (boltD_lv cs).pl (boltD_lv cs).pl) (ev_var 4) (ev_var 5)) fun _ => ew_or1 (et_not (et_val (ev_call ka (hr.mono (by decide)) rfl pass0 (ea_cons (ev_var 6) (ea_cons (EN.ev (en_call kl (hr.mono (by decide)) rfl pass0 (ea_cons (ev_var 5) ea_nil) ⟨cs, hcl', rfl⟩ (ds' := boltD (cs.map boilC)) (boil_eq cs))) (ea_cons (ev_var 2) ea_nil))) ⟨cs.map boilC, p.toNat, by omega, hok, ?_⟩))))) (d' := false) ?_) rs5 (fun h => nomatch h) fun _ H6 s6 => wb_nil ?_
    · rw [hpp]
    · rw [(boltD_lv cs).refl]; rfl
    have hvl : vs.length = cs.length := by rw [rf.length]; simp [boltD]
    refine wb_append 6 (more H6 s6) (ev_var 5) (.inr rfl) (s6 _ _ ef) (by omega) (fun v H7 s7 r7 rs7 => ?_) (hpe := pe_bm PySem.F.plainAttrs_list PySem.F.slot_list_append PySem.F.type_list_append mt_append (pv 6) (pa_cons pe_self pa_nil))
    refine wb_retE (d := .bool true) (EV.cast (ev_cmp (cr_eq hr (boltD_lv cs).pl (boltD_lv cs).pl) (ev_var 4) (ev_var 5)) (by rw [(boltD_lv cs).refl])) rs7 fun v H8 _ q => ?_
    cases q
    exact kk H8
end
end Wx
open PySem PySem.W PyProof.Rows
set_option maxHeartbeats 0 in
theorem PySem.Challenge.cw_waxcloth_k04_boiled_holds : PySem.Challenge.rw_waxcloth_k04_boiled.Holds := by
  w_on; o_law; k_head; (case hw => w_witness2)
  k_fill
  refine L2.walkL (l := PySem.Challenge.rw_waxcloth_k04_boiled) (k := 7) (st := Wx.sLaw) rfl rfl ⟨rfl, by decide, by decide⟩ (fun w h Y => PySem.W.kIn_of Y) ?F
  case F =>
    intro w mg fa h KX G hmg
    have D1 : L2.Df (L2.KOf KX) mg "boiled" Wx.sBoiled ["bolt"] := by
      dsimp only [L2.KOf]
      refine' L2.Df.of KX G ?a ?l ?c ?k (fun _ _ _ _ _ _ us hl => match us, hl with | [_], _ => rfl)
      (case a => k_is); (case l => k_is); (case c => k_is); (case k => k_is)
    have D2 : L2.Df (L2.KOf KX) mg "_law_whole" Wx.sWhole ["_law_found"] := by
      dsimp only [L2.KOf]
      refine' L2.Df.of KX G ?a ?l ?c ?k (fun _ _ _ _ _ _ us hl => match us, hl with | [_], _ => rfl)
      (case a => k_is); (case l => k_is); (case c => k_is); (case k => k_is)
    have D3 : L2.Df (L2.KOf KX) mg "_law_shades" Wx.sShades ["_law_found", "_law_pots"] := by
      dsimp only [L2.KOf]
      refine' L2.Df.of KX G ?a ?l ?c ?k (fun _ _ _ _ _ _ us hl => match us, hl with | [_, _], _ => rfl)
      (case a => k_is); (case l => k_is); (case c => k_is); (case k => k_is)
    have D4 : L2.Df (L2.KOf KX) mg "_law_cells_kind" Wx.sKind ["_law_found", "_law_pots"] := by
      dsimp only [L2.KOf]
      refine' L2.Df.of KX G ?a ?l ?c ?k (fun _ _ _ _ _ _ us hl => match us, hl with | [_, _], _ => rfl)
      (case a => k_is); (case l => k_is); (case c => k_is); (case k => k_is)
    have D5 : L2.Df (L2.KOf KX) mg "_law_alike" Wx.sAlike ["_law_found", "_law_due", "_law_pots"] := by
      dsimp only [L2.KOf]
      refine' L2.Df.of KX G ?a ?l ?c ?k (fun _ _ _ _ _ _ us hl => match us, hl with | [_, _, _], _ => rfl)
      (case a => k_is); (case l => k_is); (case c => k_is); (case k => k_is)
    have D6 : L2.Df (L2.KOf KX) mg "_law_box" Wx.sBox ["_law_script"] := by
      dsimp only [L2.KOf]
      refine' L2.Df.of KX G ?a ?l ?c ?k (fun _ _ _ _ _ _ us hl => match us, hl with | [_], _ => rfl)
      (case a => k_is); (case l => k_is); (case c => k_is); (case k => k_is)
    have D7 : L2.Df (L2.KOf KX) mg "_law_mixed" Wx.sMixed ["_law_number", "_law_turn"] := by
      dsimp only [L2.KOf]
      refine' L2.Df.of KX G ?a ?l ?c ?k (fun _ _ _ _ _ _ us hl => match us, hl with | [_, _], _ => rfl)
      (case a => k_is); (case l => k_is); (case c => k_is); (case k => k_is)
    have D8 : L2.Df (L2.KOf KX) mg "_law_take" Wx.sTake ["_law_box_here", "_law_many"] := by
      dsimp only [L2.KOf]
      refine' L2.Df.of KX G ?a ?l ?c ?k (fun _ _ _ _ _ _ us hl => match us, hl with | [_, _], _ => rfl)
      (case a => k_is); (case l => k_is); (case c => k_is); (case k => k_is)
    have D9 : L2.Df (L2.KOf KX) mg "_law_lacks" Wx.sLacks ["_law_box_here", "_law_pots", "_law_size"] := by
      dsimp only [L2.KOf]
      refine' L2.Df.of KX G ?a ?l ?c ?k (fun _ _ _ _ _ _ us hl => match us, hl with | [_, _, _], _ => rfl)
      (case a => k_is); (case l => k_is); (case c => k_is); (case k => k_is)
    have D10 : L2.Df (L2.KOf KX) mg "_law_cell" Wx.sCell ["_law_box_here", "_law_row", "_law_loose", "_law_wet"] := by
      dsimp only [L2.KOf]
      refine' L2.Df.of KX G ?a ?l ?c ?k (fun _ _ _ _ _ _ us hl => match us, hl with | [_, _, _, _], _ => rfl)
      (case a => k_is); (case l => k_is); (case c => k_is); (case k => k_is)
    have D11 : L2.Df (L2.KOf KX) mg "_law_bolt" Wx.sBolt ["_law_box_here", "_law_pots", "_law_size", "_law_loose"] := by
      dsimp only [L2.KOf]
      refine' L2.Df.of KX G ?a ?l ?c ?k (fun _ _ _ _ _ _ us hl => match us, hl with | [_, _, _, _], _ => rfl)
      (case a => k_is); (case l => k_is); (case c => k_is); (case k => k_is)
    have D12 : L2.Df (L2.KOf KX) mg "_law_sizes" Wx.sSizes ["_law_box_here"] := by
      dsimp only [L2.KOf]
      refine' L2.Df.of KX G ?a ?l ?c ?k (fun _ _ _ _ _ _ us hl => match us, hl with | [_], _ => rfl)
      (case a => k_is); (case l => k_is); (case c => k_is); (case k => k_is)
    have D13 : L2.Df (L2.KOf KX) mg "_law_boil" Wx.sBoil ["_law_rows"] := by
      dsimp only [L2.KOf]
      refine' L2.Df.of KX G ?a ?l ?c ?k (fun _ _ _ _ _ _ us hl => match us, hl with | [_], _ => rfl)
      (case a => k_is); (case l => k_is); (case c => k_is); (case k => k_is)
    have B : Wx.Bi mg := by
      refine' Wx.Bi.of KX G ?_ ?_ ?_ ?_ ?_ ?_ ?_ ?_ ?_ ?_
      all_goals k_is
    have L : L2.Dl (L2.KOf KX) "law" Wx.sLaw fa "_law_script" := by
      dsimp only [L2.KOf]
      refine' L2.Dl.of KX G hmg ?a ?l ?c ?k ?b
      (case a => k_is); (case l => k_is); (case c => k_is); (case k => k_is)
      (case b => exact fun s u => .of_eq rfl)
    refine ⟨L, fun fd Ff base => ?_⟩
    have KT : L2.Kn PySem.Challenge.rw_waxcloth_k04_boiled.prog w (L2.KOf KX) mg base L2.CX0 "_law_take" 2 L2.spTake := Wx.kn_take D8 B (Wx.kn_mixed D7)
    exact Wx.law_ok Ff B (Wx.kn_box D6 B) (Wx.kn_sizes D12 KT) (Wx.kn_bolt D11 KT (Wx.kn_lacks D9 B KT) (Wx.kn_cell D10 B KT)) (Wx.kn_boiled D1) (Wx.kn_boil D13 B) (Wx.kn_alike D5 (Wx.kn_kind D4 B (Wx.kn_shades D3 B (Wx.kn_whole D2 B))))
