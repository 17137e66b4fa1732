import PyProof.Rows.All
import Wide.All
import OpenK.AllK
import Wide.FinOn
import Lean
import PyProof.EqAt
import PyProof.EqKinds
import PyProof.TupleCall
import PyProof.NeData
import PyProof.DictCompW
import PyProof.WalksEnum
import PyProof.Rows.SortWalk
import PyProof.Rows.SetFrom
import PyProof.SetKind
import PyProof.SetRoads
import PyProof.Tail
import PyProof.FactsAll.set_2
import KE.KRevIter
import PyProof.Rows.StrWeight2
import PyProof.Rows.StrNews2
import PyProof.CallStr
import PyProof.FString
import PyProof.StrBlockH
import PyProof.SliceStr2
import KE.KIntText
import PyProof.Rows.StrNews
import PyProof.StrLoop
import PyProof.StrCalls
import PyProof.StrWalks
import PyProof.ZipIter
import PyProof.WalksMore
import KE.KDictList
import PyProof.Rows.SortStr
import PyProof.DictWalks
import PyProof.DictItems
import KE.KPairComp
import PyProof.Rows.ListMul
import PySem.Challenge.RW_waxcloth_k23_a_move
set_option Elab.async false
set_option linter.all false
set_option maxRecDepth 100000
set_option bootstrap.genMatcherCode false
set_option compiler.extract_closed false
namespace L2
open PySem PySem.Spec PyProof.Rows
noncomputable abbrev Key:=Sum Int Str
noncomputable def wH:Key->Value->Bool
 | .inl k,v=>Value.isInt k v
 | .inr x,v=>Value.isStrOf x v
noncomputable def keyH (w:World):Key->Int
 | .inl k=>hashInt k
 | .inr x=>hashStr w x
theorem zK:∀ {k:Key}{v:Value},wH k v=true->(∃ i t,k=Sum.inl i/\v=Value.int i t)∨(∃ x t,k=Sum.inr x/\v=Value.str x t)
 | .inl i,v,h=>by
  obtain⟨t,e⟩:=Value.isInt_shape (k:=i) (v:=v) h
  exact .inl ⟨i,t,rfl,e⟩
 | .inr x,v,h=>by
  obtain⟨t,e⟩:=Value.isStrOf_shape (x:=x) (v:=v) h
  exact .inr ⟨x,t,rfl,e⟩
theorem yZ (i:Int) (t:Tok):wH (.inl i) (.int i t)=true:=by simp[wH,Value.isInt]
theorem y0 (x:Str) (t:Tok):wH (.inr x) (.str x t)=true:=by simp[wH,Value.isStrOf]
theorem zc3 (a b:Int):decide ((Sum.inl a:Key)=Sum.inl b)=(a==b):=by
 by_cases e:a=b
 ·subst e; simp
 ·have h:¬ (Sum.inl a:Key)=Sum.inl b:=fun q=>e (Sum.inl.inj q)
  rw[decide_eq_false h]
  exact (beq_eq_false_iff_ne.mpr e).symm
theorem zc6 (a b:Str):decide ((Sum.inr a:Key)=Sum.inr b)=decide (a=b):=by
 by_cases e:a=b
 ·subst e; simp
 ·have h:¬ (Sum.inr a:Key)=Sum.inr b:=fun q=>e (Sum.inr.inj q)
  rw[decide_eq_false h,decide_eq_false e]
theorem zc4 (a:Int) (b:Str):decide ((Sum.inl a:Key)=Sum.inr b)=false:=decide_eq_false (fun q=>nomatch q)
theorem zc5 (a:Str) (b:Int):decide ((Sum.inr a:Key)=Sum.inl b)=false:=decide_eq_false (fun q=>nomatch q)
noncomputable def qq (prog:Program) (w:World):PySem.KeyKind prog w Key where
 is:=wH
 hash:=keyH w
 inj:=fun v a b ha hb=>by
  rcases zK ha with ⟨i,t,rfl,rfl⟩ | ⟨x,t,rfl,rfl⟩
  ·rcases zK hb with ⟨j,u,rfl,e⟩ | ⟨y,u,rfl,e⟩
   ·injection e with e1 _; rw[e1]
   ·exact nomatch e
  ·rcases zK hb with ⟨j,u,rfl,e⟩ | ⟨y,u,rfl,e⟩
   ·exact nomatch e
   ·injection e with e1 _; rw[e1]
 byValue:=fun k v h=>by
  rcases zK h with ⟨i,t,rfl,rfl⟩ | ⟨x,t,rfl,rfl⟩ <;> rfl
 pyHash:=fun hv h=>by
  rcases zK hv with ⟨i,t,rfl,rfl⟩ | ⟨x,t,rfl,rfl⟩
  ·exact wpAny_pyHash_int h
  ·exact wpAny_pyHash_str h
 eqBool:=fun hu hv h=>by
  rcases zK hu with ⟨i,t,rfl,rfl⟩ | ⟨x,t,rfl,rfl⟩
  ·rcases zK hv with ⟨j,u,rfl,rfl⟩ | ⟨y,u,rfl,rfl⟩
   ·rw[zc3] at h; exact wpAny_eqBool_int h
   ·rw[zc4] at h; exact SeqAt.EqAt.int_str i t y u _ _ _ _ h
  ·rcases zK hv with ⟨j,u,rfl,rfl⟩ | ⟨y,u,rfl,rfl⟩
   ·rw[zc5] at h; exact SeqAt.EqAt.str_int x t j u _ _ _ _ h
   ·rw[zc6] at h; exact wpAny_eqBool_str h
 «strs»:=fun k x t v h=>by
  rcases zK h with ⟨i,u,rfl,e⟩ | ⟨y,u,rfl,e⟩
  ·exact nomatch e
  ·injection e with e1 _
   subst e1
   cases v <;> rfl
theorem vw (prog:Program) (w:World) (i:Int) (t:Tok):(qq prog w).is (.inl i) (.int i t)=true:=yZ i t
theorem vy (prog:Program) (w:World) (x:Str) (t:Tok):(qq prog w).is (.inr x) (.str x t)=true:=y0 x t
end L2
namespace L2
open PySem PySem.Spec PyProof.Rows
inductive V where
 | non | bl (b:Bool) | int (i:Int) | str (x:Str) | byt (b:Array UInt8) | flt (b:UInt64) | ref (a:Addr) | ty (n:String)
 deriving DecidableEq
noncomputable def RelV:V->Value->Prop
 | .non,u=>u=Value.none
 | .bl b,u=>u=Value.bool b
 | .int i,u=>∃ t,u=Value.int i t
 | .str x,u=>∃ t,u=Value.str x t
 | .byt b,u=>∃ t,u=Value.bytes b t
 | .flt b,u=>∃ t,u=Value.float b t
 | .ref a,u=>u=Value.ref a
 | .ty n,u=>u=Value.type n
noncomputable abbrev Vals:List V->List Value->Prop:=Paired RelV
theorem Vals.length {xs:List V}{us:List Value}(r:Vals xs us):xs.length=us.length:=Paired.length r
theorem Vals.get:∀ {xs:List V}{us:List Value}{i:Nat}{x:V},Vals xs us->xs[i]?=some x->∃ u,us[i]?=some u/\RelV x u
 | _,_,_,_,.nil,e=>by simp at e
 | _,_,0,_,.cons r _,e=>by simp at e; subst e; exact⟨_,rfl,r⟩
 | _,_,i+1,x,.cons _ t,e=>by
  obtain⟨u,h1,h2⟩:=Vals.get (i:=i) (x:=x) t (by simpa using e)
  exact⟨u,by simpa using h1,h2⟩
theorem Vals.set {x:V}{u:Value}(r:RelV x u):∀ {xs:List V}{us:List Value}(i:Nat),Vals xs us->Vals (xs.set i x) (us.set i u)
 | _,_,_,.nil=>.nil
 | _,_,0,.cons _ t=>.cons r t
 | _,_,i+1,.cons q t=>.cons q (Vals.set r i t)
theorem Vals.append:∀ {xs ys:List V}{us ws:List Value},Vals xs us->Vals ys ws->Vals (xs++ys) (us++ws)
 | _,_,_,_,.nil,s=>s
 | _,_,_,_,.cons r t,s=>.cons r (Vals.append t s)
theorem Vals.take:∀ {xs:List V}{us:List Value}(n:Nat),Vals xs us->Vals (xs.take n) (us.take n)
 | _,_,0,_=>.nil
 | _,_,_+1,.nil=>.nil
 | _,_,n+1,.cons r t=>.cons r (Vals.take n t)
theorem Vals.drop:∀ {xs:List V}{us:List Value}(n:Nat),Vals xs us->Vals (xs.drop n) (us.drop n)
 | _,_,0,r=>r
 | _,_,_+1,.nil=>.nil
 | _,_,n+1,.cons _ t=>Vals.drop n t
noncomputable def RelO:Option V->Option Value->Prop
 | some v,some u=>RelV v u
 | none,none=>True
 | _,_=>False
noncomputable def KV {κ:Type}:List (κ×V)->List (κ×Value)->Prop:=Paired fun (p:κ×V) (q:κ×Value)=>p.1=q.1/\RelV p.2 q.2
noncomputable def kV:Key->V
 | .inl i=>.int i
 | .inr x=>.str x
inductive HO where
 /-- a list -/
 | lst (xs:List V)
 /-- a tuple (never changes) -/
 | tup (xs:List V)
 /-- a dict whose keys are ints and texts; one whose keys are tuples of ints and texts (the empty one is qj) -/
 | dK (kvs:List (Key×V)) | dT (kvs:List (List Key×V))
 /-- a set of ints: its members,its size -/
 | set (S:Int->Bool) (n:Nat)
 /-- an instance of the class at C,its dict at dx,its attributes -/
 | ins (C dx:Addr) (fs:List (Str×V))
 /-- the dict of the instance at x -/
 | own (x:Addr)
 /-- the dict of an exception -/
 | xd (fs:List (Str×V))
 /-- a bound method,f of x -/
 | met (f x:Addr)
 /-- a range object lo,lo+1,.. below hi -/
 | rng (lo hi:Int)
 /-- a thing that is known to the object (the script; a dict while a loop walks it): read,never written while it is so -/
 | frz (o:Obj) (u:HO)
 /-- a code object's table -/
 | tbl (ps:Array Value)
 /-- any other thing,by what is true of its one object (a def of one's own: SetO a S n:=HO.ext fun h=>..) -/
 | ext (φ:Heap->Prop)
noncomputable abbrev Hp:=Addr->Option HO
noncomputable def upd (H:Hp) (a:Addr) (o:HO):Hp:=fun b=>if b=a then some o else H b
theorem zj {H:Hp}{a:Addr}{o:HO}:upd H a o a=some o:=by unfold upd; rw[if_pos rfl]
theorem ze {H:Hp}{a b:Addr}{o:HO}(h:b≠a):upd H a o b=H b:=by unfold upd; rw[if_neg h]
theorem zeF {H:Hp}{a b:Addr}{o u:HO}(h:H a=some o) (h':H b=some u) (d:o≠u):a≠b:=by
 intro e; subst e; rw[h] at h'; exact d (Option.some.inj h')
theorem zH {H:Hp}{a b:Addr}{o:HO}(h:H a=some o) (h':H b=none):a≠b:=by
 intro e; subst e; rw[h] at h'; cases h'
section
variable (P:Program) (w:World)
noncomputable def ObjOk (H:Hp) (h:Heap) (a:Addr):HO->Prop
 | .lst xs=>xs.length<=sizeLine/\∃ (its:List Value) (n:Nat),Vals xs its/\h.get? a=some { cls:=.type "list",data:=.seq its.toArray n }
 | .tup xs=>xs.length<=sizeLine/\∃ its:List Value,Vals xs its/\IsTup h a its.toArray
 | .dK kvs=>kvs.length<=sizeLine/\(a==sysModules)=false/\∃ vs,KV kvs vs/\h.DictOf (qq P w) a vs
 | .dT kvs=>kvs.length<=sizeLine/\(a==sysModules)=false/\∃ xs:List (List Key×Addr×Value),
   Paired (fun (p:List Key×V) (q:List Key×Addr×Value)=>p.1=q.1/\H q.2.1=some (.tup (p.1.map kV))/\RelV p.2 q.2.2) kvs xs /\
   ∃ o es ep,h.get? a=some o/\o.ExactDict/\o.data=.dict es ep/\es.toList=xs.map (entryOfKey (tupleKind (qq P w)))/\(xs.map (·.1)).Nodup
 | .set S n=>h.SetOf (intKind P w) a S n
 | .ins C dx fs=>H dx=some (.own a)/\fs.length<=1000/\dx≠a/\h.get? a=some (PySem.W.instObj C dx) /\
   ∃ mA,h.Ns1 dx mA/\(∀ f,RelO (fs.lookup f) (mA f))/\PySem.Within mA (fs.map (·.1))
 | .own _=>∃ o,h.get? a=some o
 | .xd fs=>∃ mA,h.Ns1 a mA/\∀ f,RelO (fs.lookup f) (mA f)
 | .rng lo hi=>∃ t u v,h.get? a=some { cls:=.type "range",data:=.fields #[.int lo t,.int hi u,.int 1 v] }
 | .frz o u=>h.get? a=some o/\ObjOk H h a u
 | .tbl ps=>h.get? a=some { cls:=.none,data:=.fields ps }
 | .met f x=>h.get? a=some (PySem.W.methodObj (.ref f) (.ref x))
 | .ext φ=>φ h/\(∃ o,h.get? a=some o)/\∀ h1 h2:Heap,φ h1->(∀ o,h1.get? a=some o->h2.get? a=some o)->φ h2
noncomputable def HOk (H:Hp) (h:Heap):Prop:=∀ a o,H a=some o->ObjOk P w H h a o
end
section
variable {P:Program} {w:World} {H H':Hp} {h h':Heap} {a:Addr} {o:HO}
theorem ObjOk.lt (x:ObjOk P w H h a o):a<h.objs.size:=by
 cases o with
 | lst xs=>obtain⟨_,_,_,_,e⟩:=x; exact Heap.lt_size e
 | tup xs=>obtain⟨_,_,_,p⟩:=x; exact p.lt
 | dK kvs=>obtain⟨_,_,_,_,o,_,_,e,_⟩:=x; exact Heap.lt_size e
 | dT kvs=>obtain⟨_,_,_,_,o,_,_,e,_⟩:=x; exact Heap.lt_size e
 | set S n=>obtain⟨o,_,_,_,e,_⟩:=x; exact Heap.lt_size e
 | ins C dx fs=>obtain⟨_,_,_,e,_⟩:=x; exact Heap.lt_size e
 | own y=>obtain⟨_,e⟩:=x; exact Heap.lt_size e
 | xd fs=>obtain⟨_,⟨_,_,_,e,_⟩,_⟩:=x; exact Heap.lt_size e
 | rng lo hi=>obtain⟨_,_,_,e⟩:=x; exact Heap.lt_size e
 | frz ob u=>obtain⟨e,_⟩:=x; exact Heap.lt_size e
 | tbl ps=>exact Heap.lt_size (show h.get? a=some _ from x)
 | met f y=>exact Heap.lt_size (show h.get? a=some _ from x)
 | ext φ=>obtain⟨_,⟨_,e⟩,_⟩:=x; exact Heap.lt_size e
theorem Paired.mapP {α β:Type}{F G:α->β->Prop}:∀ {l₁:List α} {l₂:List β},Paired F l₁ l₂->(∀ a b,F a b->G a b)->Paired G l₁ l₂
 | _,_,.nil,_=>.nil
 | _,_,.cons r t,f=>.cons (f _ _ r) (Paired.mapP t f)
theorem ObjOk.stay (x:ObjOk P w H h a o) (k:∀ b u,(b=a∨H b=some (.own a))->h.get? b=some u->h'.get? b=some u)
  (ho:∀ b,H b=some (.own a)->H' b=some (.own a)) (ht:∀ b xs,H b=some (.tup xs)->H' b=some (.tup xs)):ObjOk P w H' h' a o:=by
 induction o with
 | lst xs=>obtain⟨z,its,n,r,e⟩:=x; exact⟨z,its,n,r,k _ _ (.inl rfl) e⟩
 | tup xs=>obtain⟨z,its,r,ob,e,c⟩:=x; exact⟨z,its,r,ob,k _ _ (.inl rfl) e,c⟩
 | dK kvs=>obtain⟨z,y,vs,r,ob,es,ep,e,c⟩:=x; exact⟨z,y,vs,r,ob,es,ep,k _ _ (.inl rfl) e,c⟩
 | dT kvs=>
  obtain⟨z,y,xs,r,ob,es,ep,e,c⟩:=x
  exact⟨z,y,xs,Paired.mapP r fun p q z=>⟨z.1,ht _ _ z.2.1,z.2.2⟩,ob,es,ep,k _ _ (.inl rfl) e,c⟩
 | set S n=>obtain⟨ob,es,ep,t,e,c⟩:=x; exact⟨ob,es,ep,t,k _ _ (.inl rfl) e,c⟩
 | ins C dx fs=>
  obtain⟨d,z,ne,e,mA,⟨od,es,ep,e2,c⟩,r⟩:=x
  exact⟨ho _ d,z,ne,k _ _ (.inl rfl) e,mA,⟨od,es,ep,k _ _ (.inr d) e2,c⟩,r⟩
 | own y=>obtain⟨ob,e⟩:=x; exact⟨ob,k _ _ (.inl rfl) e⟩
 | xd fs=>obtain⟨mA,⟨od,es,ep,e,c⟩,r⟩:=x; exact⟨mA,⟨od,es,ep,k _ _ (.inl rfl) e,c⟩,r⟩
 | rng lo hi=>obtain⟨t,u,v,e⟩:=x; exact⟨t,u,v,k _ _ (.inl rfl) e⟩
 | frz ob u ih=>obtain⟨e,q⟩:=x; exact⟨k _ _ (.inl rfl) e,ih q⟩
 | tbl ps=>
  have e:h.get? a=some { cls:=.none,data:=.fields ps }:=x
  show h'.get? a=some { cls:=.none,data:=.fields ps }
  exact k a _ (.inl rfl) e
 | met f y=>
  have e:h.get? a=some (PySem.W.methodObj (.ref f) (.ref y)):=x
  show h'.get? a=some (PySem.W.methodObj (.ref f) (.ref y))
  exact k a _ (.inl rfl) e
 | ext φ=>obtain⟨p,⟨o,e⟩,st⟩:=x; exact⟨st _ _ p fun o q=>k _ _ (.inl rfl) q,⟨o,k _ _ (.inl rfl) e⟩,st⟩
theorem HOk.lt (x:HOk P w H h) (e:H a=some o):a<h.objs.size:=(x a o e).lt
theorem HOk.fresh (x:HOk P w H h) (e:h.objs.size<=a):H a=none:=by
 cases q:H a with
 | none=>rfl
 | some u=>exact absurd (Nat.lt_of_lt_of_le (x.lt q) e) (Nat.lt_irrefl _)
theorem HOk.kept (x:HOk P w H h) (k:∀ b u,h.get? b=some u->h'.get? b=some u):HOk P w H h':=fun a o e=>
 (x a o e).stay (fun b u _ q=>k b u q) (fun _ q=>q) fun _ _ q=>q
theorem HOk.laid (x:HOk P w H h) (k:∀ b u,h.get? b=some u->h'.get? b=some u) (hp:h.objs.size<=a) (new:ObjOk P w (upd H a o) h' a o):HOk P w (upd H a o) h':=fun b u e=>by
 have hn:=x.fresh hp
 by_cases hb:b=a
 ·subst hb; rw[zj] at e; cases e; exact new
 ·rw[ze hb] at e
  exact (x b u e).stay (fun c v _ q=>k c v q) (fun c q=>by rw[ze (zH q hn)]; exact q) fun c xs q=>by rw[ze (zH q hn)]; exact q
end
noncomputable def Rd (H:Hp) (a:Addr) (u:HO):Prop:=H a=some u∨∃ o,H a=some (.frz o u)
theorem Rd.ok {P:Program}{w:World}{H:Hp}{h:Heap}{a:Addr}{u:HO}(r:Rd H a u) (x:HOk P w H h):ObjOk P w H h a u:=by
 rcases r with r | ⟨o,r⟩
 ·exact x a u r
 ·obtain⟨_,q⟩:=x a _ r
  exact q
noncomputable def Mut:Option HO->Prop
 | some (.lst _)=>True
 | some (.dK _)=>True
 | some (.dT _)=>True
 | some (.set _ _)=>True
 | some (.ins _ _ _)=>True
 | some (.ext _)=>True
 | _=>False
section
variable {P:Program} {w:World} {H:Hp} {h h':Heap} {x e:Addr} {o':HO}
theorem HOk.write (ok:HOk P w H h) (mu:Mut (H x)) (he:e=x∨H e=some (.own x)) (k:∀ b u,b≠e->h.get? b=some u->h'.get? b=some u) (heo:∃ u,h'.get? e=some u)
  (new:ObjOk P w (upd H x o') h' x o'):HOk P w (upd H x o') h':=fun b u q=>by
 have nown:∀ c y,H c=some (.own y)->c≠x:=fun c y r z=>by subst z; rw[r] at mu; exact mu
 have ntup:∀ c xs,H c=some (.tup xs)->c≠x:=fun c xs r z=>by subst z; rw[r] at mu; exact mu
 by_cases hb:b=x
 ·subst hb; rw[zj] at q; cases q; exact new
 ·rw[ze hb] at q
  by_cases hbe:b=e
  ·have q':H b=some (.own x):=by
    rcases he with z | z
    ·exact absurd (hbe.trans z) hb
    ·rw[hbe]; exact z
   rw[q] at q'; cases q'
   obtain⟨v,hv⟩:=heo
   exact⟨v,by rw[hbe]; exact hv⟩
  ·refine (ok b u q).stay (fun c v hc r=>k c v ?_ r) (fun c r=>by rw[ze (nown c b r)]; exact r) fun c xs r=>by rw[ze (ntup c xs r)]; exact r
   rcases hc with rfl | hc
   ·exact hbe
   ·rintro rfl
    rcases he with z | z
    ·exact nown c b hc z
    ·rw[hc] at z; cases z; exact hb rfl
end
structure Un (fs ex:List Addr) (H H':Hp) (h h':Heap):Prop where
 keep:∀ b o,h.get? b=some o->H b=none->b∉fs->b∉ex->h'.get? b=some o
 slot:∀ b o,h.get? b=some o->H b=none->b∈fs->b∉ex->∃ sl,h'.get? b=some { o with slots:=sl }
 free:∀ b o,h.get? b=some o->H b=none->b∉ex->H' b=none
 there:∀ b o,h.get? b=some o->b∉ex->∃ o',h'.get? b=some o'
 tups:∀ b xs,H b=some (.tup xs)->H' b=some (.tup xs)
 frzs:∀ b o u,H b=some (.frz o u)->H' b=some (.frz o u)
 tbls:∀ b ps,H b=some (.tbl ps)->∃ more,H' b=some (.tbl (ps++more))
section
variable {fs fs' ex ex':List Addr} {H H1 H2:Hp} {h h1 h2 h':Heap} {a x e:Addr} {o:HO}
theorem Un.any (u:Un fs ex H H1 h h1){b:Addr}{ob:Obj}(q:h.get? b=some ob) (n:H b=none) (hx:b∉ex):∃ sl,h1.get? b=some { ob with slots:=sl }:=by
 by_cases hb:b∈fs
 ·exact u.slot b ob q n hb hx
 ·exact⟨ob.slots,u.keep b ob q n hb hx⟩
theorem Un.kept (k:∀ b u,h.get? b=some u->h'.get? b=some u):Un fs ex H H h h' :=
 ⟨fun b ob q _ _ _=>k b ob q,fun b ob q _ _ _=>⟨ob.slots,k b ob q⟩,fun _ _ _ n _=>n,fun b ob q _=>⟨ob,k b ob q⟩,fun _ _ q=>q,fun _ _ _ q=>q,fun _ ps q=>⟨#[],by rw[q]; simp⟩⟩
theorem Un.refl:Un fs ex H H h h:=Un.kept fun _ _ q=>q
theorem Un.laid (k:∀ b u,h.get? b=some u->h'.get? b=some u) (hp:h.objs.size<=a) (hn:H a=none):Un fs ex H (upd H a o) h h' where
 keep:=fun b u q _ _ _=>k b u q
 slot:=fun b u q _ _ _=>⟨u.slots,k b u q⟩
 free:=fun b u q n _=>by rw[ze (Nat.ne_of_lt (Nat.lt_of_lt_of_le (Heap.lt_size q) hp))]; exact n
 there:=fun b u q _=>⟨u,k b u q⟩
 tups:=fun b xs q=>by rw[ze (zH q hn)]; exact q
 frzs:=fun b u xs q=>by rw[ze (zH q hn)]; exact q
 tbls:=fun b ps q=>⟨#[],by rw[ze (zH q hn),q]; simp⟩
theorem Un.write (mu:Mut (H x)) (he:e=x∨H e=some (.own x)) (k:∀ b u,b≠e->h.get? b=some u->h'.get? b=some u) (heo:∃ u,h'.get? e=some u):Un fs ex H (upd H x o) h h':=by
 have hx:∀ b,H b=none->b≠x:=fun b n z=>by subst z; rw[n] at mu; exact mu
 have hb:∀ b,H b=none->b≠e:=fun b n z=>by
  subst z
  rcases he with r | r
  ·exact hx b n r
  ·rw[n] at r; cases r
 have hm:∀ b u,H b=some u->¬ Mut (some u)->b≠x:=fun b u q nm z=>by subst z; rw[q] at mu; exact nm mu
 refine⟨fun b u q n _ _=>k b u (hb b n) q,fun b u q n _ _=>⟨u.slots,k b u (hb b n) q⟩,fun b u q n _=>by rw[ze (hx b n)]; exact n,fun b u q _=>?_,
  fun b xs q=>by rw[ze (hm b _ q fun z=>z)]; exact q,fun b u xs q=>by rw[ze (hm b _ q fun z=>z)]; exact q,fun b ps q=>⟨#[],by rw[ze (hm b _ q fun z=>z),q]; simp⟩⟩
 by_cases hbe:b=e
 ·subst hbe; exact heo
 ·exact⟨u,k b u hbe q⟩
end
noncomputable def trk (h:Heap) (H:Hp):List Addr:=(List.range h.objs.size).filter fun a=>(H a).isSome
noncomputable def Wp (h:Heap) (H:Hp):Heap:=PySem.W.hideAll h (trk h H)
theorem yW (h:Heap) (H:Hp):(Wp h H).objs.size=h.objs.size:=PySem.W.hideAll_size _ _
theorem kw {h:Heap}{H:Hp}{b:Addr}{o:Obj}(e:h.get? b=some o) (n:H b=none):(Wp h H).get? b=some o :=
 PySem.W.hideAll_get _ e fun hm=>by
  have q:(H b).isSome=true:=(List.mem_filter.mp hm).2
  rw[n] at q; simp at q
theorem zaY {h:Heap}{H:Hp}{b:Addr}{o:Obj}(e:(Wp h H).get? b=some o):h.get? b=some o/\H b=none:=by
 have e':h.get? b=some o:=PySem.W.of_hideAll (trk h H) e
 refine⟨e',?_⟩
 cases q:H b with
 | none=>rfl
 | some x=>
  have hm:b∈trk h H:=List.mem_filter.mpr ⟨List.mem_range.mpr (Heap.lt_size e'),by simp[q]⟩
  have z:(Wp h H).get? b=none:=PySem.W.hideAll_none (trk h H) hm
  rw[z] at e; cases e
end L2
namespace L2
open PySem PySem.Spec PyProof.Rows
structure Mod (K:PySem.W.Frag) (mg:Str->Option Value) (base:Heap):Prop where
 kin:K.In base
 glob:base.Ns mainGlobals mg
 blt:∃ mb,base.Ns builtinsNs mb/\∀ x:Str,x≠ "__name__" ->mb x=bootBuiltins x
 nolimit:base.NoLimit
structure Cx where
 prog:Program
 w:World
 K:PySem.W.Frag
 mg:Str->Option Value
 base:Heap
 A:Around
 N:List Str
 s₀:Shared
 H₀:Hp
 env:Env
 outer:List Env
 stack:List Env
 ex:List Addr
 fn:Str->Bool
 calm:Bool
 pn:List (Addr×Obj)
 xe:Value->Shared->Prop
noncomputable def frs (l:List Env):List Addr:=l.filterMap (·.frame)
noncomputable abbrev Cx.fs (X:Cx):List Addr:=frs X.outer
noncomputable def Vis (sc:Scope) (x:Str):Prop:=sc.names.lookup x=some .local∨sc.names.lookup x=some .cell∨sc.names.lookup x=some .free
noncomputable def Loc (sc:Scope) (x:Str):Prop:=sc.names.lookup x=some .local∨sc.names.lookup x=some .cell
noncomputable def Look (env:Env) (h:Heap) (m:Str->Option Value) (x:Str) (u:Value):Prop :=
 (env.kindOf x=some .local/\m x=some u)∨((env.kindOf x=some .cell∨env.kindOf x=some .free)/\∃ c,env.cells.lookup x=some c/\h.IsCell c (some u))
structure Cx.Ok (X:Cx):Prop where
 mod:Mod X.K X.mg X.base
 kind:X.env.scope.kind=.function
 glob:X.env.globals=mainGlobals
 blt:X.env.builtins=builtinsNs
 above:X.s₀.heap.objs.size<=X.env.locals
 inj:∀ x y c,X.env.cells.lookup x=some c->X.env.cells.lookup y=some c->x=y
 has:∀ x,(X.env.kindOf x=some .cell∨X.env.kindOf x=some .free)->∃ c,X.env.cells.lookup x=some c
 cab:∀ x c,X.fn x=true->X.env.cells.lookup x=some c->X.s₀.heap.objs.size<=c
 hd:X.calm=true->X.A.handled=none
 frames:X.A.frames=some X.stack
 stk:X.stack=X.outer∨(X.stack=X.env::X.outer/\X.env.frame=some X.env.locals)
 exf:∀ b∈X.ex,b≠X.env.locals/\∀ x c,X.env.cells.lookup x=some c->c≠b
 bs:∀ b o,X.base.get? b=some o->X.s₀.heap.get? b=some o/\X.H₀ b=none
 bsz:X.base.objs.size<=X.s₀.heap.objs.size
 noex:∀ b o,X.base.get? b=some o->b∉X.ex
 exfs:∀ b∈X.ex,b∉X.fs
 funs:X.s₀.heap.FunFrames X.base X.outer
 frf:∀ b∈X.fs,X.H₀ b=none
structure Inv (X:Cx) (pins:List (Addr×Obj)) (σ:List (Option V)) (H:Hp) (s:Shared):Prop where
 ok:X.Ok
 os:s.os=X.s₀.os
 bare:AllBare s.gens
 base:Un X.fs X.ex X.H₀ H X.s₀.heap s.heap
 loc:∃ m,s.heap.Ns X.env.locals m/\∀ (i:Nat) (x:Str) (v:V),X.N[i]?=some x->σ[i]?=some (some v)->Vis X.env.scope x->∃ u,RelV v u/\Look X.env s.heap m x u
 cell:∀ x c,X.env.cells.lookup x=some c->∃ v,s.heap.IsCell c v
 free:H X.env.locals=none
 freeC:∀ x c,X.env.cells.lookup x=some c->H c=none
 pin:∀ p∈X.pn++pins,s.heap.get? p.1=some p.2/\H p.1=none/\p.1≠X.env.locals/\p.1∉X.fs/\∀ v,p.2.data≠ .cell v
 hok:HOk X.prog X.w H s.heap
 len:σ.length=X.N.length
section
variable {X:Cx} {pins:List (Addr×Obj)} {σ:List (Option V)} {H H':Hp} {s:Shared} {h':Heap}
theorem Cx.Ok.nofr (ok:X.Ok){b:Addr}{o:Obj}(e:X.base.get? b=some o):b∉X.fs:=fun hb=>by
 have:=(ok.funs.mem hb).1
 rw[e] at this; cases this
theorem Inv.bs (I:Inv X pins σ H s):∀ b o,X.base.get? b=some o->s.heap.get? b=some o/\H b=none:=fun b o e=>
 ⟨I.base.keep b o (I.ok.bs b o e).1 (I.ok.bs b o e).2 (I.ok.nofr e) (I.ok.noex b o e),I.base.free b o (I.ok.bs b o e).1 (I.ok.bs b o e).2 (I.ok.noex b o e)⟩
theorem Inv.bk (I:Inv X pins σ H s):∀ b o,X.base.get? b=some o->s.heap.get? b=some o:=fun b o e=>(I.bs b o e).1
theorem Inv.mod (I:Inv X pins σ H s):Mod X.K X.mg X.base:=I.ok.mod
theorem Inv.kIn (I:Inv X pins σ H s):X.K.In s.heap:=I.ok.mod.kin.keeps I.bk
theorem Inv.fr (I:Inv X pins σ H s):∃ m,Fr X.base X.env.locals s.heap m :=
 let ⟨m,hn,_⟩:=I.loc
 ⟨m,hn,I.bk,Nat.le_trans I.ok.bsz I.ok.above⟩
theorem Inv.lt (I:Inv X pins σ H s):X.env.locals<s.heap.objs.size:=let ⟨_,hn,_⟩:=I.loc; hn.lt
theorem Inv.sz (I:Inv X pins σ H s):X.s₀.heap.objs.size<=s.heap.objs.size:=Nat.le_trans I.ok.above (Nat.le_of_lt I.lt)
theorem Inv.nofs (I:Inv X pins σ H s){a:Addr}(h:s.heap.objs.size<=a):a∉X.fs:=fun hb=>by
 obtain⟨_,o,ho,_⟩:=I.ok.funs.mem hb
 exact absurd (Nat.lt_of_lt_of_le (Heap.lt_size ho) (Nat.le_trans I.sz h)) (Nat.lt_irrefl _)
theorem Inv.cne (I:Inv X pins σ H s):∀ x c,X.env.cells.lookup x=some c->c≠X.env.locals:=fun x c e z=>by
 obtain⟨v,o,ho,hd⟩:=I.cell x c e
 obtain⟨m,⟨o',es,ep,ho',hd',_⟩,_⟩:=I.loc
 rw[z,ho'] at ho; cases ho; rw[hd'] at hd; cases hd
theorem Inv.funs (I:Inv X pins σ H s):s.heap.FunFrames X.base X.outer:=by
 have all:∀ (l:List Env),(∀ b∈frs l,b∈X.fs)->X.s₀.heap.FunFrames X.base l->s.heap.FunFrames X.base l:=by
  intro l
  induction l with
  | nil=>intro _ _; trivial
  | cons env r ih=>
   intro hs hl
   obtain⟨hk,⟨L,o,hf,hn,ho,hd⟩,hr⟩:=hl
   have hL:L∈X.fs:=hs L (by unfold frs; rw[List.filterMap_cons,hf]; exact List.mem_cons_self)
   obtain⟨sl,e⟩:=I.base.slot L o ho (I.ok.frf L hL) hL fun z=>I.ok.exfs L z hL
   exact⟨hk,⟨L,_,hf,hn,e,hd⟩,ih (fun b hb=>hs b (by unfold frs; rw[List.filterMap_cons,hf]; exact List.mem_cons_of_mem _ hb)) hr⟩
 exact all X.outer (fun _ hb=>hb) I.ok.funs
theorem Inv.stack (I:Inv X pins σ H s):s.heap.FunFrames X.base X.stack:=by
 rcases I.ok.stk with e | ⟨e,hf⟩
 ·rw[e]; exact I.funs
 ·rw[e]
  obtain⟨m,hn,_⟩:=I.loc
  refine .cons (by rw[I.ok.kind]; decide) hf hn ?_ I.funs
  exact Heap.get?_none_of_le (Nat.le_trans I.ok.bsz I.ok.above)
theorem Inv.stkSub (I:Inv X pins σ H s):∀ b∈frs X.stack,b∈X.env.locals::X.fs:=fun b hb=>by
 rcases I.ok.stk with e | ⟨e,hf⟩
 ·rw[e] at hb; exact List.mem_cons_of_mem _ hb
 ·rw[e] at hb
  unfold frs at hb
  rw[List.filterMap_cons,hf] at hb
  exact hb
theorem Inv.stkFree (I:Inv X pins σ H s):∀ b∈frs X.stack,H b=none:=fun b hb=>by
 rcases List.mem_cons.mp (I.stkSub b hb) with e | hb
 ·rw[e]; exact I.free
 ·obtain⟨_,o,ho,_⟩:=I.ok.funs.mem hb
  exact I.base.free b o ho (I.ok.frf b hb) fun z=>I.ok.exfs b z hb
theorem Inv.step {g':Array GenState}{t':Nat}{d':Drawn}{ch:List Addr}(I:Inv X pins σ H s)
  (hch:∀ b∈ch,(b∈X.ex∨X.s₀.heap.objs.size<=b)/\b≠X.env.locals/\(∀ x c,X.env.cells.lookup x=some c->c≠b)/\∀ p∈X.pn++pins,p.1≠b)
  (keep:∀ b o,b≠X.env.locals->b∉X.fs->b∉ch->s.heap.get? b=some o->H b=none->h'.get? b=some o)
  (slot:∀ b o,b≠X.env.locals->b∈X.fs->b∉ch->s.heap.get? b=some o->H b=none->∃ sl,h'.get? b=some { o with slots:=sl }) (free:∀ b o,b∉ch->s.heap.get? b=some o->H b=none->H' b=none)
  (there:∀ b o,b∉ch->s.heap.get? b=some o->∃ o',h'.get? b=some o')
  (tups:∀ b xs,H b=some (.tup xs)->H' b=some (.tup xs)) (frzs:∀ b o u,H b=some (.frz o u)->H' b=some (.frz o u)) (tbls:∀ b ps,H b=some (.tbl ps)->∃ more,H' b=some (.tbl (ps++more)))
  (ns:∀ m,s.heap.Ns X.env.locals m->h'.Ns X.env.locals m) (hok:HOk X.prog X.w H' h') (hg:AllBare g') :
  Inv X pins σ H' { s with heap:=h',gens:=g',drawn:=d',toks:=t' }:=by
 have neL:∀ b o,X.s₀.heap.get? b=some o->b≠X.env.locals:=fun b o e=>Nat.ne_of_lt (Nat.lt_of_lt_of_le (Heap.lt_size e) I.ok.above)
 have neC:∀ b o,X.s₀.heap.get? b=some o->b∉X.ex->b∉ch:=fun b o e hx hb=>by
  rcases (hch b hb).1 with z | z
  ·exact hx z
  ·exact absurd (Nat.lt_of_lt_of_le (Heap.lt_size e) z) (Nat.lt_irrefl _)
 have cellK:∀ x c,X.env.cells.lookup x=some c->∀ v,s.heap.IsCell c v->h'.IsCell c v:=fun x c e v ⟨o,ho,hd⟩=>by
  have nch:c∉ch:=fun z=>(hch c z).2.2.1 x c e rfl
  by_cases hc:c∈X.fs
  ·obtain⟨sl,q⟩:=slot c o (I.cne x c e) hc nch ho (I.freeC x c e)
   exact⟨_,q,hd⟩
  ·exact⟨o,keep c o (I.cne x c e) hc nch ho (I.freeC x c e),hd⟩
 refine⟨I.ok,I.os,hg,⟨fun b o e n hb hx=>?_,fun b o e n hb hx=>?_,fun b o e n hx=>?_,fun b o e hx=>?_,fun b xs e=>tups b xs (I.base.tups b xs e),fun b o xs e=>frzs b o xs (I.base.frzs b o xs e),fun b ps e=>?_⟩,?_,fun x c e=>?_,?_,fun x c e=>?_,fun p hp=>?_,hok,I.len⟩
 ·exact keep b o (neL b o e) hb (neC b o e hx) (I.base.keep b o e n hb hx) (I.base.free b o e n hx)
 ·obtain⟨sl,e1⟩:=I.base.slot b o e n hb hx
  obtain⟨sl',e2⟩:=slot b _ (neL b o e) hb (neC b o e hx) e1 (I.base.free b o e n hx)
  exact⟨sl',e2⟩
 ·obtain⟨o',e1⟩:=I.base.there b o e hx
  exact free b o' (neC b o e hx) e1 (I.base.free b o e n hx)
 ·obtain⟨o',e1⟩:=I.base.there b o e hx
  exact there b o' (neC b o e hx) e1
 ·obtain⟨m1,e1⟩:=I.base.tbls b ps e
  obtain⟨m2,e2⟩:=tbls b _ e1
  exact⟨m1++m2,by rw[e2,Array.append_assoc]⟩
 ·obtain⟨m,hn,hl⟩:=I.loc
  refine⟨m,ns m hn,fun i x v e1 e2 e3=>?_⟩
  obtain⟨u,r,l⟩:=hl i x v e1 e2 e3
  refine⟨u,r,?_⟩
  rcases l with l | ⟨k,c,e,z⟩
  ·exact .inl l
  ·exact .inr ⟨k,c,e,cellK x c e _ z⟩
 ·obtain⟨v,z⟩:=I.cell x c e
  exact⟨v,cellK x c e v z⟩
 ·obtain⟨m,⟨o,_,_,ho,_⟩,_⟩:=I.loc
  exact free _ o (fun z=>(hch _ z).2.1 rfl) ho I.free
 ·obtain⟨v,o,ho,hd⟩:=I.cell x c e
  exact free c o (fun z=>(hch c z).2.2.1 x c e rfl) ho (I.freeC x c e)
 ·obtain⟨e,n,ne,nf,d⟩:=I.pin p hp
  have nch:p.1∉ch:=fun z=>(hch p.1 z).2.2.2 p hp rfl
  exact⟨keep p.1 p.2 ne nf nch e n,free p.1 p.2 nch e n,ne,nf,d⟩
theorem Inv.un {t':Nat}(I:Inv X pins σ H s) (u:Un X.fs [] H H' s.heap h') (hok:HOk X.prog X.w H' h'):Inv X pins σ H' { s with heap:=h',toks:=t' }:=by
 obtain⟨m,⟨o,es,ep,ho,r⟩,_⟩:=id I.loc
 obtain⟨sl,hL⟩:=u.any ho I.free (by simp)
 exact I.step (g':=s.gens) (d':=s.drawn) (ch:= []) (fun _ z=>nomatch z) (fun b o _ hb _ e n=>u.keep b o e n hb (by simp)) (fun b o _ hb _ e n=>u.slot b o e n hb (by simp)) (fun b o _ e n=>u.free b o e n (by simp)) (fun b o _ e=>u.there b o e (by simp)) u.tups u.frzs u.tbls (fun m' hm=>by
  obtain⟨o',es',ep',ho',r'⟩:=hm
  rw[ho] at ho'; cases ho'
  exact⟨_,es',ep',hL,r'⟩) hok I.bare
theorem Inv.call {g':Array GenState}{t':Nat}{d':Drawn}{ch:List Addr}(I:Inv X pins σ H s) (u:Un (frs X.stack) ch H H' s.heap h') (hok:HOk X.prog X.w H' h') (hg:AllBare g')
  (hch:∀ b∈ch,(b∈X.ex∨X.s₀.heap.objs.size<=b)/\b≠X.env.locals/\(∀ x c,X.env.cells.lookup x=some c->c≠b)/\∀ p∈X.pn++pins,p.1≠b) :
  Inv X pins σ H' { s with heap:=h',gens:=g',drawn:=d',toks:=t' }:=by
 obtain⟨m,⟨o,es,ep,ho,r⟩,_⟩:=id I.loc
 obtain⟨sl,hL⟩:=u.any ho I.free fun z=>(hch _ z).2.1 rfl
 exact I.step (ch:=ch) hch (fun b o hL hb hc e n=>u.keep b o e n (fun z=>(List.mem_cons.mp (I.stkSub b z)).elim hL hb) hc) (fun b o _ _ hc e n=>u.any e n hc) (fun b o hc e n=>u.free b o e n hc) (fun b o hc e=>u.there b o e hc) u.tups u.frzs u.tbls (fun m' hm=>by
  obtain⟨o',es',ep',ho',r'⟩:=hm
  rw[ho] at ho'; cases ho'
  exact⟨_,es',ep',hL,r'⟩) hok hg
theorem Inv.turned {t':Nat}{it:Addr}(I:Inv X pins σ H s) (k:∀ b o,b≠it->s.heap.get? b=some o->h'.get? b=some o) (hn:H it=none) (hL:it≠X.env.locals)
  (h1:it∈X.ex∨X.s₀.heap.objs.size<=it) (h2:∀ x c,X.env.cells.lookup x=some c->c≠it) (h3:∀ p∈X.pn++pins,p.1≠it):Inv X pins σ H { s with heap:=h',toks:=t' }:=by
 have nit:∀ b u,H b=some u->b≠it:=fun b u e z=>by rw[z,hn] at e; cases e
 refine I.step (g':=s.gens) (d':=s.drawn) (ch:= [it]) (fun b hb=>?_) (fun b o _ _ hc e _=>k b o (fun z=>hc (by simp[z])) e) (fun b o _ _ hc e _=>⟨o.slots,k b o (fun z=>hc (by simp[z])) e⟩) (fun _ _ _ _ n=>n)
  (fun b o hc e=>⟨o,k b o (fun z=>hc (by simp[z])) e⟩) (fun _ _ e=>e) (fun _ _ _ e=>e) (fun b ps e=>⟨#[],by rw[e]; simp⟩) (fun m hm=>?_) (fun b u e=>?_) I.bare
 ·have e:b=it:=by simpa using hb
  subst e
  exact⟨h1,hL,h2,h3⟩
 ·obtain⟨o,es,ep,ho,r⟩:=hm
  exact⟨o,es,ep,k _ o (Ne.symm hL) ho,r⟩
 ·refine (I.hok b u e).stay (fun c v hc q=>k c v ?_ q) (fun _ q=>q) fun _ _ q=>q
  rcases hc with z | z
  ·rw[z]; exact nit b u e
  ·exact nit c _ z
theorem Inv.tok (I:Inv X pins σ H s) (t:Nat):Inv X pins σ H { s with toks:=t }:=I.un (h':=s.heap) (t':=t) Un.refl I.hok
theorem Inv.kept {t':Nat}(I:Inv X pins σ H s) (k:∀ b u,s.heap.get? b=some u->h'.get? b=some u):Inv X pins σ H { s with heap:=h',toks:=t' }:=I.un (Un.kept k) (I.hok.kept k)
theorem Inv.laid {a:Addr}{o:HO}{t':Nat}(I:Inv X pins σ H s) (k:∀ b u,s.heap.get? b=some u->h'.get? b=some u) (hp:s.heap.objs.size<=a) (new:ObjOk X.prog X.w (upd H a o) h' a o) :
  Inv X pins σ (upd H a o) { s with heap:=h',toks:=t' }:=I.un (Un.laid k hp (I.hok.fresh hp)) (I.hok.laid k hp new)
theorem Inv.write {x e:Addr}{o:HO}{t':Nat}(I:Inv X pins σ H s) (mu:Mut (H x)) (he:e=x∨H e=some (.own x)) (k:∀ b u,b≠e->s.heap.get? b=some u->h'.get? b=some u) (heo:∃ u,h'.get? e=some u)
  (new:ObjOk X.prog X.w (upd H x o) h' x o):Inv X pins σ (upd H x o) { s with heap:=h',toks:=t' }:=I.un (Un.write mu he k heo) (I.hok.write mu he k heo new)
theorem Inv.weak {σ':List (Option V)}(I:Inv X pins σ H s) (hl:σ'.length=σ.length) (w:∀ (i:Nat) v,σ'[i]?=some (some v)->σ[i]?=some (some v)):Inv X pins σ' H s :=
 ⟨I.ok,I.os,I.bare,I.base,let ⟨m,hn,hl'⟩:=I.loc; ⟨m,hn,fun i x v e1 e2 e3=>hl' i x v e1 (w i v e2) e3⟩,I.cell,I.free,I.freeC,I.pin,I.hok,hl.trans I.len⟩
theorem Inv.pins_of {pins':List (Addr×Obj)}(I:Inv X pins σ H s) (h:∀ p∈pins',s.heap.get? p.1=some p.2/\H p.1=none/\p.1≠X.env.locals/\p.1∉X.fs/\∀ v,p.2.data≠ .cell v):Inv X pins' σ H s :=
 ⟨I.ok,I.os,I.bare,I.base,I.loc,I.cell,I.free,I.freeC,fun p hp=>(List.mem_append.mp hp).elim (fun z=>I.pin p (List.mem_append_left _ z)) (h p),I.hok,I.len⟩
theorem vz {N:List Str}(hN:N.Nodup){i j:Nat}{x:Str}(a:N[i]?=some x) (b:N[j]?=some x):i=j:=by
 obtain⟨h1,e1⟩:=List.getElem?_eq_some_iff.mp a
 obtain⟨h2,e2⟩:=List.getElem?_eq_some_iff.mp b
 exact (List.getElem_inj hN).mp (e1.trans e2.symm)
theorem QH {M:Model}{A:Around}{E:Value->Shared->Prop}{i:Nat}{x:Str}{v:V}{u:Value}{Q:Unit->Shared->Prop}(I:Inv X pins σ H s) (hN:X.N.Nodup) (hi:X.N[i]?=some x) (hx:Loc X.env.scope x) (r:RelV v u)
  (h:∀ s',Inv X pins (σ.set i (some v)) H s'->(∃ a,Heap.SameBut a s.heap s'.heap/\(a=X.env.locals∨X.env.cells.lookup x=some a))->Q () s') (hf:X.fn x=true∨X.env.scope.names.lookup x=some .local:=by first | exact .inl rfl | exact .inr rfl | assumption):wpAny M A (storeName X.env x u) Q E s:=by
 obtain⟨m,hn,hl⟩:=id I.loc
 have hcls:(X.env.scope.kind==.class||(X.env.scope.kind==.module&&X.env.locals !=X.env.globals))=false:=by rw[I.ok.kind]; rfl
 have hiσ:i<σ.length:=by rw[I.len]; exact (List.getElem?_eq_some_iff.mp hi).1
 have cne:=I.cne
 have tracked:∀ {a:Addr} {h':Heap},(∃ o,s.heap.get? a=some o/\H a=none)->Heap.SameBut a s.heap h'->HOk X.prog X.w H h':=fun {a h'} ha hs b ob e=>by
  obtain⟨_,_,hfree⟩:=ha
  refine (I.hok b ob e).stay (fun c w' hc q=>(hs.2 c ?_).trans q) (fun _ q=>q) fun _ _ q=>q
  rintro rfl
  rcases hc with rfl | hc
  ·rw[hfree] at e; cases e
  ·rw[hfree] at hc; cases hc
 rcases hx with hk | hk
 ·refine wpAny_storeName_local hk hn (fun h' hn' hs=>?_) hcls
  obtain⟨oL,_,_,hoL,_⟩:=id hn
  refine h _ ⟨I.ok,I.os,I.bare,⟨fun b o e n hb hx=>?_,fun b o e n hb hx=>?_,I.base.free,fun b o e hx=>?_,I.base.tups,I.base.frzs,I.base.tbls⟩,⟨_,hn',fun j y v' e1 e2 e3=>?_⟩,fun y c e=>?_,I.free,I.freeC,fun p hp=>?_,tracked ⟨oL,hoL,I.free⟩ hs,by simpa using I.len⟩ ⟨_,hs,.inl rfl⟩
  ·exact (hs.2 b (Nat.ne_of_lt (Nat.lt_of_lt_of_le (Heap.lt_size e) I.ok.above))).trans (I.base.keep b o e n hb hx)
  ·obtain⟨sl,e1⟩:=I.base.slot b o e n hb hx
   exact⟨sl,(hs.2 b (Nat.ne_of_lt (Nat.lt_of_lt_of_le (Heap.lt_size e) I.ok.above))).trans e1⟩
  ·obtain⟨o',e1⟩:=I.base.there b o e hx
   exact⟨o',(hs.2 b (Nat.ne_of_lt (Nat.lt_of_lt_of_le (Heap.lt_size e) I.ok.above))).trans e1⟩
  ·by_cases hj:j=i
   ·subst hj
    rw[hi] at e1; cases e1
    rw[List.getElem?_set_self hiσ] at e2
    cases e2
    exact⟨u,r,.inl ⟨hk,by simp⟩⟩
   ·rw[List.getElem?_set_ne (Ne.symm hj)] at e2
    obtain⟨u',r',q⟩:=hl j y v' e1 e2 e3
    refine⟨u',r',?_⟩
    rcases q with ⟨k,e⟩ | ⟨k,c,e,z⟩
    ·refine .inl ⟨k,?_⟩
     have:y≠x:=fun e=>hj (vz hN e1 (e ▸ hi))
     simp[this,e]
    ·exact .inr ⟨k,c,e,z.sameBut hs (cne y c e)⟩
  ·obtain⟨w',z⟩:=I.cell y c e
   exact⟨w',z.sameBut hs (cne y c e)⟩
  ·obtain⟨e,n,ne,nf,d⟩:=I.pin p hp
   exact⟨(hs.2 p.1 ne).trans e,n,ne,nf,d⟩
 ·have hfn:X.fn x=true:=by
   rcases hf with z | z
   ·exact z
   ·rw[z] at hk; cases hk
  obtain⟨c,hc⟩:=I.ok.has x (.inl hk)
  obtain⟨w',z⟩:=I.cell x c hc
  refine wpAny_storeName_cell I.ok.kind hk hc z (fun h' hc' hs=>?_)
  obtain⟨oc,hoc,hocd⟩:=id z
  refine h { s with heap:=h' } ⟨I.ok,I.os,I.bare,⟨fun b o e n hb hx=>?_,fun b o e n hb hx=>?_,I.base.free,fun b o e hx=>?_,I.base.tups,I.base.frzs,I.base.tbls⟩,⟨m,hn.sameBut hs (Ne.symm (cne x c hc)),fun j y v' e1 e2 e3=>?_⟩,fun y c' e=>?_,I.free,I.freeC,fun p hp=>?_,tracked ⟨oc,hoc,I.freeC x c hc⟩ hs,by simpa using I.len⟩ ⟨c,hs,.inr hc⟩
  ·exact (hs.2 b (Nat.ne_of_lt (Nat.lt_of_lt_of_le (Heap.lt_size e) (I.ok.cab x c hfn hc)))).trans (I.base.keep b o e n hb hx)
  ·obtain⟨sl,e1⟩:=I.base.slot b o e n hb hx
   exact⟨sl,(hs.2 b (Nat.ne_of_lt (Nat.lt_of_lt_of_le (Heap.lt_size e) (I.ok.cab x c hfn hc)))).trans e1⟩
  ·obtain⟨o',e1⟩:=I.base.there b o e hx
   exact⟨o',(hs.2 b (Nat.ne_of_lt (Nat.lt_of_lt_of_le (Heap.lt_size e) (I.ok.cab x c hfn hc)))).trans e1⟩
  ·by_cases hj:j=i
   ·subst hj
    rw[hi] at e1; cases e1
    rw[List.getElem?_set_self hiσ] at e2
    cases e2
    exact⟨u,r,.inr ⟨.inl hk,c,hc,hc'⟩⟩
   ·rw[List.getElem?_set_ne (Ne.symm hj)] at e2
    obtain⟨u',r',q⟩:=hl j y v' e1 e2 e3
    refine⟨u',r',?_⟩
    rcases q with q | ⟨k,c',e,z'⟩
    ·exact .inl q
    ·refine .inr ⟨k,c',e,z'.sameBut hs ?_⟩
     rintro rfl
     exact hj (vz hN e1 (I.ok.inj _ _ _ e hc ▸ hi))
  ·by_cases hcc:c'=c
   ·subst hcc; exact⟨_,hc'⟩
   ·obtain⟨w2,z2⟩:=I.cell y c' e
    exact⟨w2,z2.sameBut hs hcc⟩
  ·obtain⟨e,n,ne,nf,d⟩:=I.pin p hp
   refine⟨(hs.2 p.1 ?_).trans e,n,ne,nf,d⟩
   intro q
   rw[q,hoc] at e
   have q':oc=p.2:=Option.some.inj e
   exact d w' (by rw[<- q']; exact hocd)
theorem vI {M:Model}{A:Around}{E:Value->Shared->Prop}{i:Nat}{x:Str}{v:V}{u:Value}{Q:Unit->Shared->Prop}(I:Inv X pins σ H s) (hN:X.N.Nodup) (hi:X.N[i]?=some x) (hx:Loc X.env.scope x) (r:RelV v u)
  (h:∀ s',Inv X pins (σ.set i (some v)) H s'->Q () s') (hf:X.fn x=true∨X.env.scope.names.lookup x=some .local:=by first | exact .inl rfl | exact .inr rfl | assumption):wpAny M A (storeName X.env x u) Q E s :=
 QH I hN hi hx r (fun s' I' _=>h s' I') hf
theorem Inv.call' {s':Shared}{ch:List Addr}(I:Inv X pins σ H s) (ho:s'.os=s.os) (u:Un (frs X.stack) ch H H' s.heap s'.heap) (hok:HOk X.prog X.w H' s'.heap) (hg:AllBare s'.gens)
  (hch:∀ b∈ch,(b∈X.ex∨X.s₀.heap.objs.size<=b)/\b≠X.env.locals/\(∀ x c,X.env.cells.lookup x=some c->c≠b)/\∀ p∈X.pn++pins,p.1≠b):Inv X pins σ H' s':=by
 obtain⟨h',g',d',t',o'⟩:=s'
 have e:o'=s.os:=ho
 subst e
 exact I.call (g':=g') (t':=t') (d':=d') u hok hg hch
end
noncomputable abbrev XK:=Value->Option Addr->Hp->Prop
noncomputable abbrev St:=List (Option V)
noncomputable abbrev VK:=V->Hp->Prop
noncomputable abbrev TE:=St->Hp->VK->Prop
noncomputable abbrev TT:=St->Hp->(Bool->Hp->Prop)->Prop
noncomputable abbrev TA:=St->Hp->(List V->Hp->Prop)->Prop
structure qv where
 nx:St->Hp->Prop
 rt:VK
 bk:St->Hp->Prop:=fun _ _=>False
 ct:St->Hp->Prop:=fun _ _=>False
noncomputable abbrev TS:=qv->St->Hp->Prop
noncomputable def EP (X:Cx) (pins:List (Addr×Obj)) (σ:St) (Q:VK) (u:Value) (s':Shared):Prop:=∃ v H',Inv X pins σ H' s'/\RelV v u/\Q v H'
noncomputable def TP (X:Cx) (pins:List (Addr×Obj)) (σ:St) (Q:Bool->Hp->Prop) (b:Bool) (s':Shared):Prop:=∃ H',Inv X pins σ H' s'/\Q b H'
noncomputable def AP (X:Cx) (pins:List (Addr×Obj)) (σ:St) (Q:List V->Hp->Prop) (us:List Value) (s':Shared):Prop:=∃ vs H',Inv X pins σ H' s'/\Vals vs us/\Q vs H'
noncomputable def SP (X:Cx) (pins:List (Addr×Obj)) (D:qv) (f:Flow) (s':Shared):Prop :=
 match f with
 | .next=>∃ σ' H',Inv X pins σ' H' s'/\D.nx σ' H'
 | .brk=>∃ σ' H',Inv X pins σ' H' s'/\D.bk σ' H'
 | .cont=>∃ σ' H',Inv X pins σ' H' s'/\D.ct σ' H'
 | .ret u=>∃ v σ' H',Inv X pins σ' H' s'/\RelV v u/\D.rt v H'
noncomputable def PE (X:Cx) (e:Expr) (t:TE):Prop :=
 ∀ (pins:List (Addr×Obj)) (s:Shared) (σ:St) (H:Hp) (Q:VK),Inv X pins σ H s->t σ H Q->wpAny (model X.prog X.w) X.A (eval e X.env) (EP X pins σ Q) X.xe s
noncomputable def PT (X:Cx) (e:Expr) (t:TT):Prop :=
 ∀ (pins:List (Addr×Obj)) (s:Shared) (σ:St) (H:Hp) (Q:Bool->Hp->Prop),Inv X pins σ H s->t σ H Q->wpAny (model X.prog X.w) X.A (isTrue e X.env (eval e X.env)) (TP X pins σ Q) X.xe s
noncomputable def PW (X:Cx) (e:Expr) (t:TT):Prop :=
 ∀ (whole:Sem Value) (pins:List (Addr×Obj)) (s:Shared) (σ:St) (H:Hp) (Q:Bool->Hp->Prop),Inv X pins σ H s->t σ H Q->wpAny (model X.prog X.w) X.A (isTrue e X.env whole) (TP X pins σ Q) X.xe s
noncomputable def PA (X:Cx) (es:List Expr) (t:TA):Prop :=
 ∀ (pos:Pos) (pins:List (Addr×Obj)) (s:Shared) (σ:St) (H:Hp) (Q:List V->Hp->Prop),Inv X pins σ H s->t σ H Q->wpAny (model X.prog X.w) X.A (spliced (backTo pos (starEach es X.env))) (AP X pins σ Q) X.xe s
noncomputable def PS (X:Cx) (st:Stmt) (t:TS):Prop :=
 ∀ (pins:List (Addr×Obj)) (s:Shared) (σ:St) (H:Hp) (D:qv),Inv X pins σ H s->t D σ H->wpAny (model X.prog X.w) X.A (exec st X.env) (SP X pins D) X.xe s
noncomputable def PSs (X:Cx) (st:List Stmt) (t:TS):Prop :=
 ∀ (pins:List (Addr×Obj)) (s:Shared) (σ:St) (H:Hp) (D:qv),Inv X pins σ H s->t D σ H->wpAny (model X.prog X.w) X.A (execs st X.env) (SP X pins D) X.xe s
theorem thn {α:Type}{t:Sem α}{Q Q':α->Shared->Prop}{M:Model}{A:Around}{E:Value->Shared->Prop}{s:Shared}(h:wpAny M A t Q E s) (hQ:∀ a s,Q a s->Q' a s):wpAny M A t Q' E s:=wpAny_mono h hQ fun _ _ x=>x
end L2
namespace L2
open PySem PySem.Spec PyProof.Rows
section
variable {X:Cx}
theorem bin {a b:Expr}{ta tb:TE}(ha:PE X a ta) (hb:PE X b tb){pins:List (Addr×Obj)}{s:Shared}{σ:St}{H:Hp}{R:V->V->Hp->Prop}(I:Inv X pins σ H s) (h:ta σ H fun x H1=>tb σ H1 fun y H2=>R x y H2)
  {α:Type} {Q:α->Shared->Prop} {f:Value->Value->Sem α}
  (hf:∀ v u s2 x y H2,Inv X pins σ H2 s2->RelV x v->RelV y u->R x y H2->wpAny (model X.prog X.w) X.A (f v u) Q X.xe s2) :
  wpAny (model X.prog X.w) X.A (eval a X.env) (fun v s₁=>wpAny (model X.prog X.w) X.A (eval b X.env) (fun u s₂=>wpAny (model X.prog X.w) X.A (f v u) Q X.xe s₂) X.xe s₁) X.xe s:=by
 refine thn (ha pins s σ H _ I h) fun v s1 ⟨x,H1,I1,r1,q1⟩=>?_
 refine thn (hb pins s1 σ H1 _ I1 q1) fun u s2 ⟨y,H2,I2,r2,q2⟩=>?_
 exact hf v u s2 x y H2 I2 r1 r2 q2
noncomputable def zd7 (i:Nat):TE:=fun σ H Q=>∃ v,σ[i]?=some (some v)/\Q v H
noncomputable def tC (v:V):TE:=fun _ H Q=>Q v H
theorem z4 {i:Nat}{x:Str}{pos:Pos}(hN:X.N[i]?=some x) (hv:Vis X.env.scope x) (hd:(x==("__debug__" :Str))=false:=by decide) (hcd:(x==("__classdict__" :Str))=false:=by decide):PE X (.Name x pos) (zd7 i):=by
 intro pins s σ H Q I h
 obtain⟨v,e,h⟩:=h
 obtain⟨m,hn,hl⟩:=I.loc
 obtain⟨u,r,l⟩:=hl i x v hN e hv
 have fin:EP X pins σ Q u s:=⟨v,H,I,r,h⟩
 rcases l with ⟨hk,hm⟩ | ⟨hk,c,hc,hcell⟩
 ·exact wpAny_Name (wpAny_loadName_local I.ok.kind hk hn hm fin) hd
 ·rcases hk with hk | hk
  ·exact wpAny_Name (wpAny_loadName_cell I.ok.kind hk hc hcell fin) hd
  ·exact wpAny_Name (wpAny_loadName_free I.ok.kind hk hc hcell fin hcd) hd
theorem pe_int {i j pos}:PE X (.Constant (.int i) j pos) (tC (.int i)):=fun _ _ _ H _ I h=>wpAny_Constant_int ⟨.int i,H,I.tok _,⟨_,rfl⟩,h⟩
theorem pe_bl {b j pos}:PE X (.Constant (.bool b) j pos) (tC (.bl b)):=fun _ _ _ H _ I h=>Constant_bool ⟨.bl b,H,I,rfl,h⟩
theorem pe_non {j pos}:PE X (.Constant .none j pos) (tC .non):=fun _ _ _ H _ I h=>Constant_none ⟨.non,H,I,rfl,h⟩
theorem pe_str {x j pos}:PE X (.Constant (.str x) j pos) (tC (.str x)):=fun _ _ _ H _ I h=>Calls.Constant_str ⟨.str x,H,I.tok _,⟨_,rfl⟩,h⟩
noncomputable def Gl (X:Cx) (x:Str):Prop:=X.env.kindOf x=some .globalImplicit
theorem jo {E:Value->Shared->Prop}{pins:List (Addr×Obj)}{s:Shared}{σ:St}{H:Hp}{x:Str}{u:Value}{pos:Pos}{Q:Value->Shared->Prop}(I:Inv X pins σ H s) (hg:Gl X x) (hm:X.mg x=some u) (h:Q u s)
  (hd:(x==("__debug__" :Str))=false:=by decide):wpAny (model X.prog X.w) X.A (eval (.Name x pos) X.env) Q E s :=
 Calls.Name_function_global I.ok.kind hg (Calls.loadGlobal_global (by rw[I.ok.glob]; exact I.mod.glob.keeps I.bk) hm h) hd
theorem Zl {E:Value->Shared->Prop}{pins:List (Addr×Obj)}{s:Shared}{σ:St}{H:Hp}{x:Str}{u:Value}{pos:Pos}{Q:Value->Shared->Prop}(I:Inv X pins σ H s) (hg:Gl X x) (hm:X.mg x=none) (hv:bootBuiltins x=some u) (h:Q u s)
  (hn:x≠ "__name__" :=by decide) (hd:(x==("__debug__" :Str))=false:=by decide):wpAny (model X.prog X.w) X.A (eval (.Name x pos) X.env) Q E s:=by
 obtain⟨mb,h1,h2⟩:=I.mod.blt
 exact Calls.Name_function_global I.ok.kind hg (Calls.loadGlobal_builtin (by rw[I.ok.glob]; exact I.mod.glob.keeps I.bk) hm (by rw[I.ok.blt]; exact h1.keeps I.bk) ((h2 x hn).trans hv) h) hd
theorem za7 {x:Str}{v:V}{u:Value}{pos:Pos}(hg:Gl X x) (hm:X.mg x=some u) (r:RelV v u) (hd:(x==("__debug__" :Str))=false:=by decide):PE X (.Name x pos) (tC v) :=
 fun _ _ _ H _ I h=>jo I hg hm ⟨v,H,I,r,h⟩ hd
theorem za3 {x:Str}{v:V}{u:Value}{pos:Pos}(hg:Gl X x) (hm:X.mg x=none) (hv:bootBuiltins x=some u) (r:RelV v u) (hn:x≠ "__name__" :=by decide) (hd:(x==("__debug__" :Str))=false:=by decide):PE X (.Name x pos) (tC v) :=
 fun _ _ _ H _ I h=>Zl I hg hm hv ⟨v,H,I,r,h⟩ hn hd
variable {a b:Expr} {ta tb:TE} {pos:Pos}
variable {tA tB':TT} {rest:List Expr}
noncomputable def tAnd (t u:TT):TT:=fun σ H Q=>t σ H fun c H1=>if c=true then u σ H1 Q else Q false H1
noncomputable def tOr (t u:TT):TT:=fun σ H Q=>t σ H fun c H1=>if c=true then Q true H1 else u σ H1 Q
noncomputable def tNot (t:TT):TT:=fun σ H Q=>t σ H fun c H1=>Q (!c) H1
theorem zbe (ha:PT X a tA):PW X (.BoolOp .And [a] pos) tA:=by
 intro wh pins s σ H Q I h
 refine isTrue_and (thn (ha pins s σ H Q I h) fun c s1 e=>?_)
 cases c with
 | true=>exact isTrue_and_nil e
 | false=>exact e
theorem zdr (ha:PT X a tA):PW X (.BoolOp .Or [a] pos) tA:=by
 intro wh pins s σ H Q I h
 refine isTrue_or (thn (ha pins s σ H Q I h) fun c s1 e=>?_)
 cases c with
 | false=>exact isTrue_or_nil e
 | true=>exact e
theorem zdq (ha:PT X a tA) (hb:PW X (.BoolOp .And (b::rest) pos) tB'):PW X (.BoolOp .And (a::b::rest) pos) (tAnd tA tB'):=by
 intro wh pins s σ H Q I h
 refine isTrue_and (thn (ha pins s σ H _ I h) fun c s1 ⟨H1,I1,q1⟩=>?_)
 cases c with
 | true=>exact hb wh pins s1 σ H1 Q I1 q1
 | false=>exact⟨H1,I1,q1⟩
theorem zeS (ha:PT X a tA) (hb:PW X (.BoolOp .Or (b::rest) pos) tB'):PW X (.BoolOp .Or (a::b::rest) pos) (tOr tA tB'):=by
 intro wh pins s σ H Q I h
 refine isTrue_or (thn (ha pins s σ H _ I h) fun c s1 ⟨H1,I1,q1⟩=>?_)
 cases c with
 | true=>exact⟨H1,I1,q1⟩
 | false=>exact hb wh pins s1 σ H1 Q I1 q1
theorem zdp (ha:PT X a tA):PT X (.UnaryOp .Not a pos) (tNot tA):=by
 intro pins s σ H Q I h
 exact isTrue_not (ha pins s σ H (fun c H1=>Q (!c) H1) I h)
noncomputable def zfa (ta tb:TE):TE:=fun σ H Q=>ta σ H fun x H1=>∃ c,x=.bl c/\if c=true then tb σ H1 Q else Q (.bl false) H1
noncomputable def tOrV (ta tb:TE):TE:=fun σ H Q=>ta σ H fun x H1=>∃ c,x=.bl c/\if c=true then Q (.bl true) H1 else tb σ H1 Q
theorem zdk {op}{t:TE}(h:PE X a t):PE X (.BoolOp op [a] pos) t:=fun pins s σ H Q I hw=>BoolOp_one (h pins s σ H Q I hw)
theorem zdj (ha:PE X a ta) (hb:PE X (.BoolOp .And (b::rest) pos) tb):PE X (.BoolOp .And (a::b::rest) pos) (zfa ta tb):=by
 intro pins s σ H Q I h
 refine BoolOp_and (thn (ha pins s σ H _ I h) fun v s1 ⟨x,H1,I1,r1,q1⟩=>?_)
 obtain⟨c,rfl,q1⟩:=q1
 cases r1
 refine wpAny_truthy_bool ?_
 cases c with
 | true=>exact hb pins s1 σ H1 Q I1 q1
 | false=>exact⟨.bl false,H1,I1,rfl,q1⟩
theorem zeQ (ha:PE X a ta) (hb:PE X (.BoolOp .Or (b::rest) pos) tb):PE X (.BoolOp .Or (a::b::rest) pos) (tOrV ta tb):=by
 intro pins s σ H Q I h
 refine BoolOp_or (thn (ha pins s σ H _ I h) fun v s1 ⟨x,H1,I1,r1,q1⟩=>?_)
 obtain⟨c,rfl,q1⟩:=q1
 cases r1
 refine wpAny_truthy_bool ?_
 cases c with
 | false=>exact hb pins s1 σ H1 Q I1 q1
 | true=>exact⟨.bl true,H1,I1,rfl,q1⟩
noncomputable def tIf (t:TT) (ta tb:TE):TE:=fun σ H Q=>t σ H fun c H1=>if c=true then ta σ H1 Q else tb σ H1 Q
theorem k6 {c:Expr}(hc:PT X c tA) (ha:PE X a ta) (hb:PE X b tb):PE X (.IfExp c a b pos) (tIf tA ta tb):=by
 intro pins s σ H Q I h
 refine wpAny_IfExp (thn (hc pins s σ H _ I h) fun d s1 ⟨H1,I1,q1⟩=>?_)
 cases d with
 | true=>exact ha pins s1 σ H1 Q I1 q1
 | false=>exact hb pins s1 σ H1 Q I1 q1
end
end L2
namespace L2
open PySem PySem.Spec PyProof.Rows
noncomputable def SqL (K:PySem.W.Frag) (H:Hp) (a:Addr) (xs:List V):Prop :=
 Rd H a (.lst xs) ∨
  ∃ (o:Obj) (its:Array Value) (n:Nat),K.lookup a=some o/\o.cls=.type "list" /\o.dict=none/\o.data=.seq its n/\its.size<=sizeLine/\Vals xs its.toList
noncomputable def SqT (K:PySem.W.Frag) (H:Hp) (a:Addr) (xs:List V):Prop :=
 Rd H a (.tup xs) ∨
  ∃ (o:Obj) (its:Array Value) (n:Nat),K.lookup a=some o/\o.cls=.type "tuple" /\o.data=.seq its n/\its.size<=sizeLine/\Vals xs its.toList
noncomputable def absV:Value->Option V
 | .none=>some .non
 | .bool b=>some (.bl b)
 | .int i _=>some (.int i)
 | .str x _=>some (.str x)
 | .bytes b _=>some (.byt b)
 | .float b _=>some (.flt b)
 | .ref a=>some (.ref a)
 | .type n=>some (.ty n)
 | _=>none
theorem RelV.abs {x:V}{u:Value}(r:RelV x u):absV u=some x:=by
 cases x with
 | non=>cases r; rfl
 | bl _=>cases r; rfl
 | int _=>obtain⟨t,rfl⟩:=r; rfl
 | str _=>obtain⟨t,rfl⟩:=r; rfl
 | byt _=>obtain⟨t,rfl⟩:=r; rfl
 | flt _=>obtain⟨t,rfl⟩:=r; rfl
 | ref _=>cases r; rfl
 | ty _=>cases r; rfl
theorem RelV.inj {x y:V}{u:Value}(r:RelV x u) (q:RelV y u):x=y:=Option.some.inj (r.abs.symm.trans q.abs)
theorem Vals.inj:∀ {xs ys:List V}{us:List Value},Vals xs us->Vals ys us->xs=ys
 | _,_,_,.nil,.nil=>rfl
 | _,_,_,.cons r t,.cons r' t'=>by rw[r.inj r',Vals.inj t t']
section
variable {X:Cx} {pins:List (Addr×Obj)} {σ:St} {H:Hp} {s:Shared} {a:Addr} {xs ys:List V}
theorem SqL.of {K:PySem.W.Frag}(h:H a=some (.lst xs)):SqL K H a xs:=.inl (.inl h)
theorem SqT.of {K:PySem.W.Frag}(h:H a=some (.tup xs)):SqT K H a xs:=.inl (.inl h)
theorem Inv.list (I:Inv X pins σ H s) (h:SqL X.K H a xs):∃ its:List Value,Vals xs its/\PlainL s.heap a its.toArray/\xs.length<=sizeLine:=by
 rcases h with h | ⟨o,its,n,hk,hc,hd,hs,hz,r⟩
 ·obtain⟨z,its,n,r,e⟩:=h.ok I.hok
  exact⟨its,r,⟨_,n,e,rfl,rfl,rfl⟩,z⟩
 ·refine⟨its.toList,r,⟨o,n,I.kIn a o hk,hc,hd,by simpa using hs⟩,?_⟩
  have e:=r.length
  simp only[Array.length_toList] at e
  omega
theorem Inv.tuple (I:Inv X pins σ H s) (h:SqT X.K H a xs):∃ its:List Value,Vals xs its/\IsTup s.heap a its.toArray/\xs.length<=sizeLine:=by
 rcases h with h | ⟨o,its,n,hk,hc,hs,hz,r⟩
 ·obtain⟨z,its,r,p⟩:=h.ok I.hok
  exact⟨its,r,p,z⟩
 ·refine⟨its.toList,r,⟨o,I.kIn a o hk,hc,n,by simpa using hs⟩,?_⟩
  have e:=r.length
  simp only[Array.length_toList] at e
  omega
theorem Inv.list_inj (I:Inv X pins σ H s) (h:SqL X.K H a xs) (h':SqL X.K H a ys):xs=ys:=by
 obtain⟨its,r,⟨o,n,e,_,_,d⟩,_⟩:=I.list h
 obtain⟨its',r',⟨o',n',e',_,_,d'⟩,_⟩:=I.list h'
 rw[e] at e'; cases e'
 rw[d] at d'
 injection d' with d1 _
 have:its=its':=by simpa using congrArg Array.toList d1
 subst this
 exact r.inj r'
theorem Inv.tuple_inj (I:Inv X pins σ H s) (h:SqT X.K H a xs) (h':SqT X.K H a ys):xs=ys:=by
 obtain⟨its,r,⟨o,e,_,n,d⟩,_⟩:=I.tuple h
 obtain⟨its',r',⟨o',e',_,n',d'⟩,_⟩:=I.tuple h'
 rw[e] at e'; cases e'
 rw[d] at d'
 injection d' with d1 _
 have:its=its':=by simpa using congrArg Array.toList d1
 subst this
 exact r.inj r'
end
noncomputable abbrev Cx.wish (X:Cx) (E:Value->Shared->Prop):Cx:={ X with xe:=E }
noncomputable abbrev Cx.nox (X:Cx):Cx:=X.wish fun _ _=>False
theorem Cx.Ok.wish {X:Cx}(ok:X.Ok) (E:Value->Shared->Prop):(X.wish E).Ok :=
 ⟨ok.mod,ok.kind,ok.glob,ok.blt,ok.above,ok.inj,ok.has,ok.cab,ok.hd,ok.frames,ok.stk,ok.exf,ok.bs,ok.bsz,ok.noex,ok.exfs,ok.funs,ok.frf⟩
theorem Cx.Ok.unwish {X:Cx}{E:Value->Shared->Prop}(ok:(X.wish E).Ok):X.Ok :=
 ⟨ok.mod,ok.kind,ok.glob,ok.blt,ok.above,ok.inj,ok.has,ok.cab,ok.hd,ok.frames,ok.stk,ok.exf,ok.bs,ok.bsz,ok.noex,ok.exfs,ok.funs,ok.frf⟩
section
variable {X:Cx} {pins:List (Addr×Obj)} {σ:St} {H:Hp} {s:Shared} {E:Value->Shared->Prop}
theorem Inv.wish (I:Inv X pins σ H s) (E:Value->Shared->Prop):Inv (X.wish E) pins σ H s:=⟨I.ok.wish E,I.os,I.bare,I.base,I.loc,I.cell,I.free,I.freeC,I.pin,I.hok,I.len⟩
theorem Inv.unwish (I:Inv (X.wish E) pins σ H s):Inv X pins σ H s:=⟨I.ok.unwish,I.os,I.bare,I.base,I.loc,I.cell,I.free,I.freeC,I.pin,I.hok,I.len⟩
theorem SP.unwish {D:qv}{f:Flow}{s':Shared}(h:SP (X.wish E) pins D f s'):SP X pins D f s':=by
 cases f with
 | next=>obtain⟨σ',H',I,q⟩:=h; exact⟨σ',H',I.unwish,q⟩
 | brk=>obtain⟨σ',H',I,q⟩:=h; exact⟨σ',H',I.unwish,q⟩
 | cont=>obtain⟨σ',H',I,q⟩:=h; exact⟨σ',H',I.unwish,q⟩
 | ret u=>obtain⟨v,σ',H',I,r,q⟩:=h; exact⟨v,σ',H',I.unwish,r,q⟩
theorem PSs.nox {st:List Stmt}{t:TS}(h:PSs X.nox st t):PSs X st t:=fun pins s σ H D I hw=>
 wpAny_mono (h pins s σ H D (I.wish _) hw) (fun _ _ q=>q.unwish) fun _ _ z=>False.elim z
end
section
variable {X:Cx} {st:Stmt} {rest:List Stmt} {t u:TS} {e:Expr} {te:TE} {pos:Pos}
noncomputable def zcr:TS:=fun D σ H=>D.nx σ H
noncomputable def tSeq (t u:TS):TS:=fun D σ H=>t { D with nx:=u D } σ H
theorem pss_nil:PSs X [] zcr:=fun _ _ σ H _ I h=>wpAny_execs_nil ⟨σ,H,I,h⟩
theorem qJ (h1:PS X st t) (h2:PSs X rest u):PSs X (st::rest) (tSeq t u):=by
 intro pins s σ H D I h
 refine wpAny_execs_cons (thn (h1 pins s σ H { D with nx:=u D } I h) fun f s1 q=>?_)
 cases f with
 | next=>
  obtain⟨σ',H',I',q⟩:=q
  exact h2 pins s1 σ' H' D I' q
 | ret v=>exact q
 | brk=>exact q
 | cont=>exact q
theorem ZF (h1:PS X st t):PSs X [st] t:=by
 intro pins s σ H D I h
 refine wpAny_execs_cons (thn (h1 pins s σ H D I h) fun f s1 q=>?_)
 cases f with
 | next=>exact wpAny_execs_nil q
 | ret v=>exact q
 | brk=>exact q
 | cont=>exact q
theorem ps_pass:PS X (.Pass pos) zcr:=fun _ _ σ H _ I h=>wpAny_Pass ⟨σ,H,I,h⟩
theorem Inv.quiet {pins:List (Addr×Obj)}{σ:St}{H:Hp}{s:Shared}(I:Inv X pins σ H s):interactive X.env=false:=by simp[interactive,I.ok.kind]
noncomputable def zfc (te:TE):TS:=fun D σ H=>te σ H fun _ H1=>D.nx σ H1
theorem Jg (he:PE X e te) (hs:swapsWith e none pos.line X.env=pure false:=by rfl):PS X (.Expr e pos) (zfc te):=by
 intro pins s σ H D I h
 exact wpAny_Expr_any (thn (he pins s σ H _ I h) fun v s1 ⟨x,H1,I1,r1,q1⟩=>⟨σ,H1,I1,q1⟩) I.quiet hs
noncomputable def tRet (te:TE):TS:=fun D σ H=>te σ H D.rt
theorem Vx (he:PE X e te):PS X (.Return (some e) pos) (tRet te):=by
 intro pins s σ H D I h
 exact wpAny_Return_some (thn (he pins s σ H _ I h) fun v s1 ⟨x,H1,I1,r1,q1⟩=>⟨x,σ,H1,I1,r1,q1⟩)
noncomputable def tIfS (c:TT) (t u:TS):TS:=fun D σ H=>c σ H fun b H1=>if b=true then t D σ H1 else u D σ H1
theorem zeR {c:Expr}{a b:List Stmt}{tc:TT}(hc:PT X c tc) (ha:PSs X a t) (hb:PSs X b u):PS X (.If c a b pos) (tIfS tc t u):=by
 intro pins s σ H D I h
 refine wpAny_If (thn (hc pins s σ H _ I h) fun d s1 ⟨H1,I1,q1⟩=>?_)
 cases d with
 | true=>exact ha pins s1 σ H1 D I1 q1
 | false=>exact hb pins s1 σ H1 D I1 q1
end
noncomputable abbrev TG:=V->St->Hp->(St->Hp->Prop)->Prop
noncomputable abbrev TGs:=List V->St->Hp->(St->Hp->Prop)->Prop
noncomputable def PG (X:Cx) (target:Expr) (t:TG):Prop :=
 ∀ (pins:List (Addr×Obj)) (s:Shared) (σ:St) (H:Hp) (v:V) (u:Value) (Q:St->Hp->Prop),Inv X pins σ H s->RelV v u->t v σ H Q ->
  wpAny (model X.prog X.w) X.A (assign target X.env u) (fun _ s'=>∃ σ' H',Inv X pins σ' H' s'/\Q σ' H') X.xe s
noncomputable def PGs (X:Cx) (ts:List Expr) (t:TGs):Prop :=
 ∀ (pins:List (Addr×Obj)) (s:Shared) (σ:St) (H:Hp) (vs:List V) (us:List Value) (Q:St->Hp->Prop),Inv X pins σ H s->Vals vs us->t vs σ H Q ->
  wpAny (model X.prog X.w) X.A (assignInOrder ((assignEach ts X.env).map (·.2)) us) (fun _ s'=>∃ σ' H',Inv X pins σ' H' s'/\Q σ' H') X.xe s
noncomputable abbrev zam:=V->V->V->Hp->(Hp->Prop)->Prop
noncomputable def zcx (X:Cx) (t:zam):Prop :=
 ∀ (pins:List (Addr×Obj)) (s:Shared) (σ:St) (H:Hp) (o i v:V) (ov iv u:Value) (Q:Hp->Prop),Inv X pins σ H s->RelV o ov->RelV i iv->RelV v u->t o i v H Q ->
  wpAny (model X.prog X.w) X.A (setItem ov iv u) (fun _ s'=>∃ H',Inv X pins σ H' s'/\Q H') X.xe s
section
variable {X:Cx} {pos:Pos}
noncomputable def Js (i:Nat):TG:=fun v σ H Q=>Q (σ.set i (some v)) H
theorem Jf {i:Nat}{x:Str}(hN:X.N.Nodup) (hi:X.N[i]?=some x) (hx:Loc X.env.scope x) (hf:X.fn x=true∨X.env.scope.names.lookup x=some .local:=by first | exact .inl rfl | exact .inr rfl | assumption):PG X (.Name x pos) (Js i):=by
 intro pins s σ H v u Q I r h
 exact wpAny_assign_Name (vI I hN hi hx r (fun s' I'=>⟨_,H,I',h⟩) hf)
noncomputable def gNil:TGs:=fun vs σ H Q=>vs= []/\Q σ H
noncomputable def zex (t:TG) (u:TGs):TGs:=fun vs σ H Q=>∃ v r,vs=v::r/\t v σ H fun σ' H'=>u r σ' H' Q
theorem pgs_nil:PGs X [] gNil:=by
 intro pins s σ H vs us Q I r h
 obtain⟨e,h⟩:=h
 subst e
 cases r
 exact assignInOrder_nil ⟨σ,H,I,h⟩
theorem JF {e:Expr}{es:List Expr}{t:TG}{u:TGs}(h1:PG X e t) (h2:PGs X es u)
  (hs:(assignEach (e::es) X.env).map (·.2)=assign e X.env::(assignEach es X.env).map (·.2):=by rfl):PGs X (e::es) (zex t u):=by
 intro pins s σ H vs us Q I r h
 obtain⟨v,vr,e1,h⟩:=h
 subst e1
 cases r with
 | cons r rr=>
  rw[hs]
  refine assignInOrder_cons (thn (h1 pins s σ H _ _ _ I r h) fun _ s1 ⟨σ1,H1,I1,q1⟩=>?_)
  exact h2 pins s1 σ1 H1 _ _ Q I1 rr q1
noncomputable def gTup (K:PySem.W.Frag) (n:Nat) (t:TGs):TG:=fun v σ H Q=>∃ a xs,v=.ref a/\SqT K H a xs/\xs.length=n/\t xs σ H Q
theorem Ka {es:List Expr}{k:Nat}{t:TGs}{n:Nat}(hc:X.calm=true) (h:PGs X es t)
  (hn:(assignEach es X.env).length=n:=by rfl) (hst:(assignEach es X.env).findIdx? (·.1)=none:=by rfl):PG X (.Tuple es k pos) (gTup X.K n t):=by
 intro pins s σ H v u Q I r hw
 obtain⟨a,xs,e1,hq,hl,hw⟩:=hw
 subst e1
 cases r
 obtain⟨its,rv,ht,hz⟩:=I.tuple hq
 refine assign_Tuple_tuple (I.ok.hd hc) ht (by simp[hn,<- hl,rv.length]) hst fun h' hx=>?_
 have I1:Inv X pins σ H { s with heap:=h' }:=I.kept (t':=s.toks) fun b o e=>hx b o (Nat.ne_of_lt (Heap.lt_size e)) e
 exact h pins _ σ H xs _ Q I1 (by simpa using rv) hw
noncomputable def zey (to ti:TE) (t:zam):TG:=fun v σ H Q=>to σ H fun o H1=>ti σ H1 fun i H2=>t o i v H2 fun H3=>Q σ H3
theorem zdn {o i:Expr}{to ti:TE}{t:zam}(ho:PE X o to) (hi:PE X i ti) (hs:zcx X t)
  (ha:∀ v,assign (.Subscript o i pos) X.env v=(do
   let ov<-holding [v] (eval o X.env)
   let iv<-holding [v,ov] (eval i X.env)
   standAt pos
   holding [v,ov,iv] (setItem ov iv v)
   release [v,ov,iv] []):=by intro _; rfl):PG X (.Subscript o i pos) (zey to ti t):=by
 intro pins s σ H v u Q I r h
 rw[ha]
 refine wpAny_bind (wpAny_holding (thn (ho pins s σ H _ I h) fun ov s1 ⟨x,H1,I1,r1,q1⟩=>?_))
 refine wpAny_bind (wpAny_holding (thn (hi pins s1 σ H1 _ I1 q1) fun iv s2 ⟨y,H2,I2,r2,q2⟩=>?_))
 refine wpAny_bind (wpAny_standAt (wpAny_bind (wpAny_holding (thn (hs pins s2 σ H2 x y v ov iv u _ I2 r1 r2 r q2) fun _ s3 ⟨H3,I3,q3⟩=>?_))))
 exact wpAny_release ⟨σ,H3,I3,q3⟩
noncomputable def WG (te:TE) (g:TG):TS:=fun D σ H=>te σ H fun x H1=>g x σ H1 D.nx
theorem Vw {tg e:Expr}{te:TE}{g:TG}(he:PE X e te) (hg:PG X tg g) (hs:swapsWithSole [tg] e pos.line X.env=pure false:=by rfl) (hw:swappedStores [tg] e X.env=pure none:=by rfl)
    (h1:(assignEach [tg] X.env).map (·.2)= [assign tg X.env]:=by rfl):PS X (.Assign [tg] e pos) (WG te g):=by
  intro pins s σ H D I h
  refine wpAny_Assign_stores (thn (he pins s σ H _ I h) fun v s1 ⟨x,H1,I1,r1,q1⟩=>?_) hs hw
  rw[h1]
  exact thn (hg pins s1 σ H1 x v _ I1 r1 q1) fun _ s2 q=>q
theorem Qy {i:Nat}{x:Str}{e:Expr}{te:TE}{pos':Pos}(hN:X.N.Nodup) (hi:X.N[i]?=some x) (hx:Loc X.env.scope x) (he:PE X e te) (hs:swapsWith e (some (.Name x pos')) pos.line X.env=pure false:=by rfl) (hf:X.fn x=true∨X.env.scope.names.lookup x=some .local:=by first | exact .inl rfl | exact .inr rfl | assumption) :
    PS X (.Assign [.Name x pos'] e pos) (WG te (Js i)):=by
  intro pins s σ H D I h
  refine wpAny_Assign_Name (thn (he pins s σ H _ I h) fun v s1 ⟨y,H1,I1,r1,q1⟩=>?_) hs
  exact vI I1 hN hi hx r1 (fun s2 I2=>⟨_,H1,I2,q1⟩) hf
end
section
variable {X:Cx} {pos:Pos}
end
structure It where
 go:Nat->Hp->Prop
 yld:Nat->Hp->V->Hp->Prop
 stop:Nat->Hp->Prop
noncomputable def ZL (X:Cx) (pins:List (Addr×Obj)) (H:Hp) (b:Addr):Prop :=
 H b=none/\b≠X.env.locals/\b∉X.fs/\(b∈X.ex∨X.s₀.heap.objs.size<=b)/\(∀ x c,X.env.cells.lookup x=some c->c≠b)/\∀ p∈X.pn++pins,p.1≠b
theorem Inv.fpOk {X:Cx}{pins:List (Addr×Obj)}{σ:St}{H H':Hp}{s:Shared}{b:Addr}(I:Inv X pins σ H s) (hb:s.heap.objs.size<=b) (hn:H' b=none):ZL X pins H' b:=by
 refine⟨hn,Nat.ne_of_gt (Nat.lt_of_lt_of_le I.lt hb),I.nofs hb,.inr (Nat.le_trans I.sz hb),fun x c e z=>?_,fun p hp z=>?_⟩
 ·obtain⟨v,q⟩:=I.cell x c e
  exact absurd (Nat.lt_of_lt_of_le q.lt (by rw[z]; exact hb)) (Nat.lt_irrefl _)
 ·exact absurd (Nat.lt_of_lt_of_le (Heap.lt_size (I.pin p hp).1) (by rw[z]; exact hb)) (Nat.lt_irrefl _)
structure WT (P:Program) (w:World) (K:PySem.W.Frag) (tg:Expr) (J:It) (fp:List Addr) (it:Addr) (tn:Nat->Heap->Prop):Prop where
 mem:it∈fp
 obj:∀ i h,tn i h->∀ b∈fp,∃ o,h.get? b=some o/\∀ v,o.data≠ .cell v
 keep:∀ i h h',tn i h->(∀ b∈fp,∀ o,h.get? b=some o->h'.get? b=some o)->tn i h'
 item:∀ (X:Cx),X.prog=P->X.w=w->X.K=K->X.calm=true->∀ (i:Nat) (pins:List (Addr×Obj)) (s:Shared) (σ:St) (H:Hp) (E:Value->Shared->Prop),Inv X pins σ H s->(∀ b∈fp,ZL X pins H b)->tn i s.heap->J.go i H ->
  wpAny (model P w) X.A (pyNext (.ref it)) (fun r s1=>∃ u,r=some u /\
   wpAny (model P w) X.A (letOwnedTupleGo tg (.ref it) u) (fun _ s2=>∃ x H',Inv X pins σ H' s2/\RelV x u/\J.yld i H x H'/\tn (i+1) s2.heap/\∀ b∈fp,H' b=none) E s1) E s
 done:∀ (X:Cx),X.prog=P->X.w=w->X.K=K->X.calm=true->∀ (i:Nat) (pins:List (Addr×Obj)) (s:Shared) (σ:St) (H:Hp) (E:Value->Shared->Prop),Inv X pins σ H s->(∀ b∈fp,ZL X pins H b)->tn i s.heap->J.stop i H ->
  wpAny (model P w) X.A (pyNext (.ref it)) (fun r s1=>r=none/\Inv X pins σ H s1) E s
 self:∀ (A:Around) (i:Nat) (s:Shared) (Q:Value->Shared->Prop) (E:Value->Shared->Prop),tn i s.heap->Q (.ref it) s->wpAny (model P w) A (pyIter (.ref it)) Q E s
noncomputable abbrev TI:=St->Hp->(It->Hp->Prop)->Prop
noncomputable def PIE (X:Cx) (pins:List (Addr×Obj)) (σ:St) (tg:Expr) (R:It->Hp->Prop) (itv:Value) (s2:Shared):Prop :=
 ∃ (it:Addr) (fp:List Addr) (tn:Nat->Heap->Prop) (J:It) (H':Hp),itv=.ref it/\Inv X pins σ H' s2/\WT X.prog X.w X.K tg J fp it tn/\tn 0 s2.heap/\(∀ b∈fp,ZL X pins H' b)/\R J H'
noncomputable def PI (X:Cx) (tg iter:Expr) (wi:TI):Prop :=
 ∀ (pins:List (Addr×Obj)) (s:Shared) (σ:St) (H:Hp) (R:It->Hp->Prop),Inv X pins σ H s->wi σ H R ->
  wpAny (model X.prog X.w) X.A (eval iter X.env) (fun v s1=>wpAny (model X.prog X.w) X.A (pyIter v) (PIE X pins σ tg R) X.xe s1) X.xe s
theorem ku {M:Model}{A:Around}{E:Value->Shared->Prop}{s:Shared}{tg:Expr}{it:Addr}{u:Value}{o:Obj}{n:String}{vs:Array Value}{Q:Unit->Shared->Prop}(ho:s.heap.get? it=some o) (hc:o.cls=.type n) (hd:o.data=.fields vs)
    (hn: ["enumerate","zip","dict_itemiterator","dict_reverseitemiterator","odict_iterator","itertools.zip_longest","itertools.pairwise"].contains n=false) (hQ:Q () s):wpAny M A (letOwnedTupleGo tg (.ref it) u) Q E s:=by
  unfold letOwnedTupleGo
  cases tg <;> first
    | exact wpAny_pure hQ
    | (cases u <;> first
        | exact wpAny_pure hQ
        | (refine wpAny_bind (wpAny_load ho ?_)
           rw[hc,hd]
           show wpAny M A (if (["enumerate","zip","dict_itemiterator","dict_reverseitemiterator","odict_iterator","itertools.zip_longest","itertools.pairwise"].contains n&&vs[0]?==some (rawInt _))=true then _ else _) Q E s
           rw[if_neg (by intro h; rw[hn,Bool.false_and] at h; cases h)]
           exact wpAny_pure hQ))
noncomputable def Itl (K:PySem.W.Frag) (a:Addr):It :=
 ⟨fun i H=>∃ xs x,SqL K H a xs/\xs[i]?=some x,fun i H x H'=>H'=H/\∀ xs,SqL K H a xs->xs[i]?=some x,fun i H=>∃ xs,SqL K H a xs/\xs.length<=i⟩
noncomputable def Itt (K:PySem.W.Frag) (a:Addr):It :=
 ⟨fun i H=>∃ xs x,SqT K H a xs/\xs[i]?=some x,fun i H x H'=>H'=H/\∀ xs,SqT K H a xs->xs[i]?=some x,fun i H=>∃ xs,SqT K H a xs/\xs.length<=i⟩
noncomputable def Itr (lo:Int) (n:Nat):It:=⟨fun i _=>i<n,fun i H x H'=>H'=H/\x=.int (lo+i),fun i _=>n<=i⟩
theorem Yr {P:Program}{w:World}{K:PySem.W.Frag}{tg:Expr}(a it:Addr):WT P w K tg (Itl K a) [it] it (fun i h=>h.IsListIter it a i) where
 mem:=by simp
 obj:=fun i h st b hb=>by
  have e:b=it:=by simpa using hb
  subst e
  obtain⟨o,e,c,d⟩:=st
  exact⟨o,e,fun v z=>by rw[d] at z; cases z⟩
 keep:=fun i h h' st k=>st.at fun o e=>k it (by simp) o e
 item:=by
  intro X hP hw hK hc i pins s σ H E I hf st hg
  subst hP hw hK
  obtain⟨xs,x,hq,hx⟩:=hg
  obtain⟨its,rv,p,hz⟩:=I.list hq
  obtain⟨u,hu,ru⟩:=rv.get hx
  obtain⟨f0,f1,f2,f3,f4,f5⟩:=hf it (by simp)
  refine wpAny_pyNext_list_item st p.isList (x:=u) (by simpa using hu) fun h' st' sb=>?_
  have I1:Inv X pins σ H { s with heap:=h' }:=I.turned (t':=s.toks) (fun b o hb e=>(sb.2 b hb).trans e) f0 f1 f3 f4 f5
  obtain⟨o,e,c,d⟩:=id st'
  exact⟨u,rfl,ku (s:={ s with heap:=h' }) e c d (by decide) ⟨x,H,I1,ru,⟨rfl,fun ys hy=>by rw[I.list_inj hy hq]; exact hx⟩,st',fun b hb=>(hf b hb).1⟩⟩
 done:=by
  intro X hP hw hK hc i pins s σ H E I hf st hg
  subst hP hw hK
  obtain⟨xs,hq,hx⟩:=hg
  obtain⟨its,rv,p,hz⟩:=I.list hq
  obtain⟨f0,f1,f2,f3,f4,f5⟩:=hf it (by simp)
  have hl:=rv.length
  exact wpAny_pyNext_list_end (I.ok.hd hc) st p.isList (by simp; omega) fun h' eb=>⟨rfl,I.turned (t':=s.toks) (fun b o hb e=>eb b o hb e) f0 f1 f3 f4 f5⟩
 self:=fun _ _ _ _ _ st h=>wpAny_pyIter_listiter st h
theorem VF {P:Program}{w:World}{K:PySem.W.Frag}{tg:Expr}(a it:Addr):WT P w K tg (Itt K a) [it] it (fun i h=>h.IsTupleIter it a i) where
 mem:=by simp
 obj:=fun i h st b hb=>by
  have e:b=it:=by simpa using hb
  subst e
  obtain⟨o,e,c,d⟩:=st
  exact⟨o,e,fun v z=>by rw[d] at z; cases z⟩
 keep:=fun i h h' st k=>st.at fun o e=>k it (by simp) o e
 item:=by
  intro X hP hw hK hc i pins s σ H E I hf st hg
  subst hP hw hK
  obtain⟨xs,x,hq,hx⟩:=hg
  obtain⟨its,rv,p,hz⟩:=I.tuple hq
  obtain⟨u,hu,ru⟩:=rv.get hx
  obtain⟨f0,f1,f2,f3,f4,f5⟩:=hf it (by simp)
  refine wpAny_pyNext_tuple_item st (show s.heap.IsTuple a its.toArray from p) (x:=u) (by simpa using hu) fun h' st' sb=>?_
  have I1:Inv X pins σ H { s with heap:=h' }:=I.turned (t':=s.toks) (fun b o hb e=>(sb.2 b hb).trans e) f0 f1 f3 f4 f5
  obtain⟨o,e,c,d⟩:=id st'
  exact⟨u,rfl,ku (s:={ s with heap:=h' }) e c d (by decide) ⟨x,H,I1,ru,⟨rfl,fun ys hy=>by rw[I.tuple_inj hy hq]; exact hx⟩,st',fun b hb=>(hf b hb).1⟩⟩
 done:=by
  intro X hP hw hK hc i pins s σ H E I hf st hg
  subst hP hw hK
  obtain⟨xs,hq,hx⟩:=hg
  obtain⟨its,rv,p,hz⟩:=I.tuple hq
  obtain⟨f0,f1,f2,f3,f4,f5⟩:=hf it (by simp)
  have hl:=rv.length
  exact wpAny_pyNext_tuple_end (I.ok.hd hc) st (show s.heap.IsTuple a its.toArray from p) (by simp; omega) fun h' eb=>⟨rfl,I.turned (t':=s.toks) (fun b o hb e=>eb b o hb e) f0 f1 f3 f4 f5⟩
 self:=fun _ _ _ _ _ st h=>wpAny_pyIter_tupleiter st h
theorem VE {P:Program}{w:World}{K:PySem.W.Frag}{tg:Expr}(it:Addr) (lo:Int) (n:Nat):WT P w K tg (Itr lo n) [it] it (fun i h=>IsRangeIter h it (lo+(i:Nat)*1) ((n:Int)-(i:Nat)) 1) where
 mem:=by simp
 obj:=fun i h st b hb=>by
  have e:b=it:=by simpa using hb
  subst e
  exact⟨_,st,fun v z=>by
   have z':Data.fields _=Data.cell v:=z
   cases z'⟩
 keep:=fun i h h' st k=>k it (by simp) _ st
 item:=by
  intro X hP hw hK hc i pins s σ H E I hf st hg
  subst hP hw hK
  obtain⟨f0,f1,f2,f3,f4,f5⟩:=hf it (by simp)
  have W:=Walks.range (prog:=X.prog) (w:=X.w) (I.ok.hd hc) it lo 1 n
  refine W.item i s _ _ hg st fun v h' tk hv st' kk=>?_
  obtain⟨t,rfl⟩:=hv
  have I1:Inv X pins σ H { s with heap:=h',toks:=tk }:=I.turned (fun b o hb e=>kk b o (by simpa using hb) e) f0 f1 f3 f4 f5
  refine⟨_,rfl,ku (s:={ s with heap:=h',toks:=tk }) (n:= "range_iterator") st' rfl rfl (by decide) ⟨.int (lo+i),H,I1,⟨t,?_⟩,⟨rfl,rfl⟩,st',fun b hb=>(hf b hb).1⟩⟩
  rw[Int.mul_one]
 done:=by
  intro X hP hw hK hc i pins s σ H E I hf st hg
  subst hP hw hK
  obtain⟨f0,f1,f2,f3,f4,f5⟩:=hf it (by simp)
  exact wpAny_pyNext_range_end (I.ok.hd hc) st (by have:n<=i:=hg; omega) fun h' eb=>⟨rfl,I.turned (t':=s.toks) (fun b o hb e=>eb b o hb e) f0 f1 f3 f4 f5⟩
 self:=fun _ _ _ _ _ st h=>wpAny_pyIter_rangeiter st h
end L2
namespace L2
open PySem PySem.Spec PyProof.Rows
section
variable {X:Cx} {tg:Expr}
noncomputable def zeB (K:PySem.W.Frag) (tl:TE):TI:=fun σ H R=>tl σ H fun x H1=>∃ a,x=.ref a/\(∃ xs,SqL K H1 a xs)/\R (Itl K a) H1
noncomputable def iTup (K:PySem.W.Frag) (tl:TE):TI:=fun σ H R=>tl σ H fun x H1=>∃ a,x=.ref a/\(∃ xs,SqT K H1 a xs)/\R (Itt K a) H1
theorem yc {l:Expr}{tl:TE}(hl:PE X l tl):PI X tg l (zeB X.K tl):=by
 intro pins s σ H R I h
 refine thn (hl pins s σ H _ I h) fun v s1 ⟨x,H1,I1,r1,q1⟩=>?_
 obtain⟨a,e,⟨xs,hq⟩,q⟩:=q1
 subst e
 cases r1
 obtain⟨its,rv,p,hz⟩:=I1.list hq
 refine wpAny_pyIter_list p.isList ?_
 refine⟨s1.heap.objs.size,[s1.heap.objs.size],_,_,H1,rfl,I1.kept (t':=s1.toks) fun b o e=>Heap.get?_push_of_some _ e,Yr a _,⟨_,Heap.get?_push_size _ rfl,rfl,rfl⟩,fun b hb=>?_,q⟩
 have e:b=s1.heap.objs.size:=by simpa using hb
 subst e
 exact I1.fpOk (Nat.le_refl _) (I1.hok.fresh (Nat.le_refl _))
theorem zdo {l:Expr}{tl:TE}(hl:PE X l tl):PI X tg l (iTup X.K tl):=by
 intro pins s σ H R I h
 refine thn (hl pins s σ H _ I h) fun v s1 ⟨x,H1,I1,r1,q1⟩=>?_
 obtain⟨a,e,⟨xs,hq⟩,q⟩:=q1
 subst e
 cases r1
 obtain⟨its,rv,p,hz⟩:=I1.tuple hq
 refine wpAny_pyIter_tuple (show s1.heap.IsTuple a its.toArray from p) ?_
 refine⟨s1.heap.objs.size,[s1.heap.objs.size],_,_,H1,rfl,I1.kept (t':=s1.toks) fun b o e=>Heap.get?_push_of_some _ e,VF a _,⟨_,Heap.get?_push_size _ rfl,rfl,rfl⟩,fun b hb=>?_,q⟩
 have e:b=s1.heap.objs.size:=by simpa using hb
 subst e
 exact I1.fpOk (Nat.le_refl _) (I1.hok.fresh (Nat.le_refl _))
theorem Kp {pins:List (Addr×Obj)}{σ:St}{H:Hp}{s:Shared}{R:It->Hp->Prop}{E:Value->Shared->Prop}{lo hi:Int}{t u v:Tok}{tk:Nat}(I:Inv X pins σ H s) (h1: -(2 ^ 62)<=lo) (h2:lo<2 ^ 62) (h3: -(2 ^ 62)<=hi) (h4:hi<2 ^ 62)
  (q:R (Itr lo (hi-lo).toNat) H):wpAny (model X.prog X.w) X.A (pyIter (.ref s.heap.objs.size)) (PIE X pins σ tg R) E { s with heap:=s.heap.push { cls:=.type "range",data:=.fields #[.int lo t,.int hi u,.int 1 v] },toks:=tk }:=by
 refine wpAny_pyIter_range (IsRange.new ..) (small_one h1 h2 h3 h4) ?_
 have I1:Inv X pins σ H { s with heap:=s.heap.push { cls:=.type "range",data:=.fields #[.int lo t,.int hi u,.int 1 v] },toks:=tk }:=I.kept fun b o e=>Heap.get?_push_of_some _ e
 refine⟨(s.heap.push { cls:=.type "range",data:=.fields #[.int lo t,.int hi u,.int 1 v] }).objs.size,[(s.heap.push { cls:=.type "range",data:=.fields #[.int lo t,.int hi u,.int 1 v] }).objs.size],_,_,H,rfl,
  I1.kept (t':=tk) fun b o e=>Heap.get?_push_of_some _ e,VE _ lo (hi-lo).toNat,?_,fun b hb=>?_,q⟩
 ·have e1:lo+((0:Nat):Int)*1=lo:=by simp
  have e2:(((hi-lo).toNat:Nat):Int)-((0:Nat):Int)=Builtin.Range.rangeSize lo hi 1:=by rw[rangeSize_one]; split <;> omega
  show IsRangeIter _ _ (lo+((0:Nat):Int)*1) ((((hi-lo).toNat:Nat):Int)-((0:Nat):Int)) 1
  rw[e1,e2]
  exact Heap.get?_push_size _ rfl
 ·have e:b=(s.heap.push { cls:=.type "range",data:=.fields #[.int lo t,.int hi u,.int 1 v] }).objs.size:=by simpa using hb
  subst e
  exact I1.fpOk (Nat.le_refl _) (I1.hok.fresh (Nat.le_refl _))
noncomputable def zeC (ta:TA):TI:=fun σ H R=>ta σ H fun vs H1=>∃ j:Int,vs= [.int j]/\ -(2 ^ 62)<=j/\j<2 ^ 62/\R (Itr 0 j.toNat) H1
theorem Yf {a:Expr}{ta:TA}{p pos:Pos}(hg:Gl X "range") (hm:X.mg "range" =none) (ha:PA X [a] ta) (hs:starEach [a] X.env= [(false,eval a X.env)]:=by rfl):PI X tg (.Call (.Name "range" p) [a] [] pos) (zeC ta):=by
 intro pins s σ H R I h
 refine Call_ (Zl I hg hm boot_range (PyProof.Rows.callWith_type1 (thn (ha pos pins s σ H _ I h) fun us s1 ⟨vs,H1,I1,r1,q1⟩=>?_) hs rfl))
 obtain⟨j,e,q1,q2,q⟩:=q1
 subst e
 cases r1 with
 | cons r rr=>
  cases rr
  obtain⟨t,rfl⟩:=r
  exact call_range_1 (Kp I1 (by omega) (by omega) q1 q2 (by simpa using q))
noncomputable def tFor (wi:TI) (g:TG) (tb:TS):TS:=fun D σ H=>wi σ H fun J H1=>∃ W:Nat->Nat->St->Hp->Prop,(∃ m,W 0 m σ H1)/\∀ i m σ H,W i m σ H ->
 (J.stop i H/\D.nx σ H)∨(J.go i H/\∃ N:St->Hp->Prop,(∀ σ' H',N σ' H'->∃ m',m'<m/\W (i+1) m' σ' H')/\∀ x H',J.yld i H x H'->g x σ H' fun σ2 H2=>tb { D with nx:=N,ct:=N,bk:=D.nx } σ2 H2)
noncomputable def JJ (fp:List Addr) (h:Heap):List (Addr×Obj):=fp.filterMap fun b=>(h.get? b).map fun o=>(b,o)
theorem qF {fp:List Addr}{h:Heap}{b:Addr}{o:Obj}(hb:b∈fp) (e:h.get? b=some o):(b,o)∈JJ fp h:=List.mem_filterMap.mpr ⟨b,hb,by rw[e]; rfl⟩
theorem Yb {fp:List Addr}{h:Heap}{p:Addr×Obj}(hp:p∈JJ fp h):p.1∈fp/\h.get? p.1=some p.2:=by
 obtain⟨b,hb,e⟩:=List.mem_filterMap.mp hp
 cases q:h.get? b with
 | none=>rw[q] at e; cases e
 | some o=>
  rw[q] at e
  have e':(b,o)=p:=Option.some.inj e
  subst e'
  exact⟨hb,q⟩
theorem Inv.pinned {pins:List (Addr×Obj)}{σ:St}{H:Hp}{s:Shared}{fp:List Addr}(I:Inv X pins σ H s) (hf:∀ b∈fp,ZL X pins H b) (ho:∀ b∈fp,∃ o,s.heap.get? b=some o/\∀ v,o.data≠ .cell v):Inv X (pins++JJ fp s.heap) σ H s :=
 I.pins_of fun p hp=>(List.mem_append.mp hp).elim (fun z=>I.pin p (List.mem_append_right _ z)) fun z=>by
  obtain⟨hb,e⟩:=Yb z
  obtain⟨f0,f1,f2,_⟩:=hf p.1 hb
  obtain⟨o,e',d⟩:=ho p.1 hb
  rw[e] at e'; cases e'
  exact⟨e,f0,f1,f2,d⟩
theorem Inv.unpinned {pins pl:List (Addr×Obj)}{σ:St}{H:Hp}{s:Shared}(I:Inv X (pins++pl) σ H s):Inv X pins σ H s:=I.pins_of fun p hp=>I.pin p (List.mem_append_right _ (List.mem_append_left _ hp))
theorem Kg {iter:Expr}{body:List Stmt}{wi:TI}{g:TG}{tb:TS}{pos:Pos}(hp:PassesOwn (model X.prog X.w) X.A X.env X.xe) (hc:X.calm=true) (hi:PI X tg iter wi) (hg:PG X tg g) (hb:PSs X body tb)
  (hs:∀ x,foldedSetIterable iter X.env x=pure x:=by intro _; rfl):PS X (.For tg iter body [] pos) (tFor wi g tb):=by
 intro pins s σ H D I h
 refine wpAny_For (thn (hi pins s σ H _ I h) fun v s1 h1=>thn h1 fun itv s2 h2=>?_) hs
 obtain⟨it,fp,tn,J,H2,e,I2,T,st2,f2,W,⟨m0,w0⟩,turn⟩:=h2
 subst e
 -- what stays true of the iterator's objects through the loop
 have stat:∀ {H':Hp},(∀ b∈fp,H' b=none)->∀ b∈fp,ZL X pins H' b:=fun hn b hb=>⟨hn b hb,(f2 b hb).2⟩
 refine codeAny_forLoop_any (fun n s'=>∃ i σ' H',Inv X pins σ' H' s'/\tn i s'.heap/\(∀ b∈fp,H' b=none)/\W i n σ' H') ?_ m0 ⟨0,σ,H2,I2,st2,fun b hb=>(f2 b hb).1,w0⟩
 rintro n s3 ⟨i,σ3,H3,I3,st3,fr3,w3⟩
 rcases turn i n σ3 H3 w3 with ⟨stop,qn⟩ | ⟨go,N,hN,step⟩
 ·refine wpAny_passesOwn hp (thn (T.done X rfl rfl rfl hc i pins s3 σ3 H3 X.xe I3 (stat fr3) st3 stop) fun r s4 ⟨hr,I4⟩=>?_)
  subst hr
  exact wpAny_execs_nil ⟨σ3,H3,I4,qn⟩
 ·refine wpAny_passesOwn hp (thn (T.item X rfl rfl rfl hc i pins s3 σ3 H3 X.xe I3 (stat fr3) st3 go) fun r s4 ⟨u,hr,h4⟩=>?_)
  subst hr
  refine wpAny_passesOwn hp (thn h4 fun _ s5 ⟨x,H5,I5,r5,y5,st5,fr5⟩=>?_)
  have I5':=I5.pinned (stat fr5) (T.obj _ _ st5)
  refine wpAny_passesOwn hp (thn (hg _ s5 σ3 H5 x u _ I5' r5 (step x H5 y5)) fun _ s6 ⟨σ6,H6,I6,q6⟩=>?_)
  refine wpAny_passesOwn hp (thn (hb _ s6 σ6 H6 _ I6 q6) fun f s7 q7=>?_)
  have again:∀ {σ7:St} {H7:Hp},Inv X (pins++JJ fp s5.heap) σ7 H7 s7->N σ7 H7->∃ m,m<n/\∃ i σ' H',Inv X pins σ' H' s7/\tn i s7.heap/\(∀ b∈fp,H' b=none)/\W i m σ' H':=fun {σ7 H7} I7 n7=>by
   obtain⟨m',hm,w7⟩:=hN σ7 H7 n7
   refine⟨m',hm,i+1,σ7,H7,I7.unpinned,T.keep _ _ _ st5 fun b hb o e=>(I7.pin (b,o) (List.mem_append_right _ (List.mem_append_right _ (qF hb e)))).1,fun b hb=>?_,w7⟩
   obtain⟨o,e,d⟩:=T.obj _ _ st5 b hb
   exact (I7.pin (b,o) (List.mem_append_right _ (List.mem_append_right _ (qF hb e)))).2.1
  cases f with
  | next=>obtain⟨σ7,H7,I7,n7⟩:=q7; exact again I7 n7
  | cont=>obtain⟨σ7,H7,I7,n7⟩:=q7; exact again I7 n7
  | brk=>obtain⟨σ7,H7,I7,q7⟩:=q7; exact⟨σ7,H7,I7.unpinned,q7⟩
  | ret v=>obtain⟨x7,σ7,H7,I7,r7,q7⟩:=q7; exact⟨x7,σ7,H7,I7.unpinned,r7,q7⟩
end
theorem kj {K:PySem.W.Frag}{a:Addr}{xs:List V}{g:TG}{tb:TS}{D:qv}{σ:St}{H:Hp}(Pv:Nat->St->Hp->Prop) (h0:Pv 0 σ H) (hl:∀ i σ H,i<=xs.length->Pv i σ H->SqL K H a xs)
  (hs:∀ i x σ H,xs[i]?=some x->Pv i σ H->g x σ H fun σ2 H2=>tb { D with nx:=Pv (i+1),ct:=Pv (i+1),bk:=D.nx } σ2 H2) (hd:∀ σ H,Pv xs.length σ H->D.nx σ H) :
  ∃ W:Nat->Nat->St->Hp->Prop,(∃ m,W 0 m σ H)/\∀ i m σ H,W i m σ H ->
   ((Itl K a).stop i H/\D.nx σ H)∨((Itl K a).go i H/\∃ N:St->Hp->Prop,(∀ σ' H',N σ' H'->∃ m',m'<m/\W (i+1) m' σ' H')/\∀ x H',(Itl K a).yld i H x H'->g x σ H' fun σ2 H2=>tb { D with nx:=N,ct:=N,bk:=D.nx } σ2 H2):=by
 refine⟨fun i m σ H=>m=xs.length-i/\i<=xs.length/\Pv i σ H,⟨xs.length,by simp,Nat.zero_le _,h0⟩,?_⟩
 rintro i m σ H ⟨rfl,hi,p⟩
 have q:=hl i σ H hi p
 by_cases hlt:i<xs.length
 ·refine .inr ⟨⟨xs,xs[i],q,by simp[hlt]⟩,Pv (i+1),fun σ' H' p'=>⟨xs.length-(i+1),by omega,rfl,hlt,p'⟩,fun x H' y=>?_⟩
  obtain⟨e,y⟩:=y
  subst e
  exact hs i x σ _ (y xs q) p
 ·have e:i=xs.length:=by omega
  subst e
  exact .inl ⟨⟨xs,q,Nat.le_refl _⟩,hd σ H p⟩
end L2
namespace L2
open PySem PySem.Spec PyProof.Rows
noncomputable abbrev R2:=V->V->Hp->VK->Prop
noncomputable def OpR (X:Cx) (f:Value->Value->Sem Value) (r:R2):Prop :=
 ∀ (pins:List (Addr×Obj)) (s:Shared) (σ:St) (H:Hp) (x y:V) (v u:Value) (Q:VK),Inv X pins σ H s->RelV x v->RelV y u->r x y H Q ->
  wpAny (model X.prog X.w) X.A (f v u) (EP X pins σ Q) X.xe s
noncomputable def UnR (X:Cx) (f:Value->Sem Value) (r:V->Hp->VK->Prop):Prop :=
 ∀ (pins:List (Addr×Obj)) (s:Shared) (σ:St) (H:Hp) (x:V) (v:Value) (Q:VK),Inv X pins σ H s->RelV x v->r x H Q ->
  wpAny (model X.prog X.w) X.A (f v) (EP X pins σ Q) X.xe s
noncomputable def qB (X:Cx) (f:Value) (r:List V->Hp->VK->Prop):Prop :=
 ∀ (pins:List (Addr×Obj)) (s:Shared) (σ:St) (H:Hp) (xs:List V) (us:List Value) (Q:VK),Inv X pins σ H s->Vals xs us->r xs H Q ->
  wpAny (model X.prog X.w) X.A (call f us) (EP X pins σ Q) X.xe s
noncomputable def TruR (X:Cx) (r:V->Hp->(Bool->Hp->Prop)->Prop):Prop :=
 ∀ (pins:List (Addr×Obj)) (s:Shared) (σ:St) (H:Hp) (x:V) (v:Value) (Q:Bool->Hp->Prop),Inv X pins σ H s->RelV x v->r x H Q ->
  wpAny (model X.prog X.w) X.A (truthy v) (TP X pins σ Q) X.xe s
noncomputable def tOp (r:R2) (ta tb:TE):TE:=fun σ H Q=>ta σ H fun x H1=>tb σ H1 fun y H2=>r x y H2 Q
noncomputable def tUn (r:V->Hp->VK->Prop) (ta:TE):TE:=fun σ H Q=>ta σ H fun x H1=>r x H1 Q
noncomputable def rI (C:Int->Int->Prop) (g:Int->Int->V):R2:=fun x y H Q=>∃ i j,x=.int i/\y=.int j/\C i j/\Q (g i j) H
noncomputable def rI0 (g:Int->Int->V):R2:=fun x y H Q=>∃ i j,x=.int i/\y=.int j/\Q (g i j) H
noncomputable def rU (g:Int->V):V->Hp->VK->Prop:=fun x H Q=>∃ i,x=.int i/\Q (g i) H
section
variable {X:Cx} {a b c:Expr} {ta tb tc:TE} {pos:Pos}
theorem zcA (ha:PE X a ta) (hb:PE X b tb){pins:List (Addr×Obj)}{s:Shared}{σ:St}{H:Hp}{R:V->V->Hp->Prop}(I:Inv X pins σ H s)
  (h:ta σ H fun x H1=>tb σ H1 fun y H2=>R x y H2) {Q:Value->Shared->Prop} {f:Value->Value->Sem Value}
  (hf:∀ v u s2 x y H2,Inv X pins σ H2 s2->RelV x v->RelV y u->R x y H2->wpAny (model X.prog X.w) X.A (f v u) Q X.xe s2) :
  wpAny (model X.prog X.w) X.A (eval a X.env) (fun v s₁=>wpAny (model X.prog X.w) X.A (eval b X.env) (fun u s₂=>wpAny (model X.prog X.w) X.A (f v u) Q X.xe s₂) X.xe s₁) X.xe s:=by
 refine thn (ha pins s σ H _ I h) fun v s1 ⟨x,H1,I1,r1,q1⟩=>?_
 refine thn (hb pins s1 σ H1 _ I1 q1) fun u s2 ⟨y,H2,I2,r2,q2⟩=>?_
 exact hf v u s2 x y H2 I2 r1 r2 q2
theorem wK {op:Operator}{r:R2}(ho:OpR X (binaryOp op) r) (ha:PE X a ta) (hb:PE X b tb):PE X (.BinOp a op b pos) (tOp r ta tb):=by
 intro pins s σ H Q I h
 exact wpAny_BinOp (zcA ha hb I h fun v u s2 x y H2 I2 rx ry q=>ho pins s2 σ H2 x y v u Q I2 rx ry q)
theorem zcj {op:UnaryOp}{r:V->Hp->VK->Prop}(ho:UnR X (unaryOp op) r) (ha:PE X a ta):PE X (.UnaryOp op a pos) (tUn r ta):=by
 intro pins s σ H Q I h
 exact UnaryOp_ (thn (ha pins s σ H _ I h) fun v s1 ⟨x,H1,I1,r1,q1⟩=>ho pins s1 σ H1 x v Q I1 r1 q1)
theorem opI {f:Value->Value->Sem Value}{C:Int->Int->Prop}{g:Int->Int->Int}
  (rule:∀ (i j:Int) (t u:Tok) (s:Shared) (Q:Value->Shared->Prop) (E:Value->Shared->Prop),C i j->Q (.int (g i j) s.toks) { s with toks:=s.toks+1 }->wpAny (model X.prog X.w) X.A (f (.int i t) (.int j u)) Q E s) :
  OpR X f (rI C fun i j=>.int (g i j)):=by
 intro pins s σ H x y v u Q I rx ry h
 obtain⟨i,j,rfl,rfl,hc,q⟩:=h
 obtain⟨t,rfl⟩:=rx
 obtain⟨t',rfl⟩:=ry
 exact rule i j t t' s _ _ hc ⟨.int (g i j),H,I.tok _,⟨_,rfl⟩,q⟩
theorem zdb {f:Value->Value->Sem Value}{g:Int->Int->Int}
  (rule:∀ (i j:Int) (t u:Tok) (s:Shared) (Q:Value->Shared->Prop) (E:Value->Shared->Prop),Q (.int (g i j) s.toks) { s with toks:=s.toks+1 }->wpAny (model X.prog X.w) X.A (f (.int i t) (.int j u)) Q E s) :
  OpR X f (rI0 fun i j=>.int (g i j)):=by
 intro pins s σ H x y v u Q I rx ry h
 obtain⟨i,j,rfl,rfl,q⟩:=h
 obtain⟨t,rfl⟩:=rx
 obtain⟨t',rfl⟩:=ry
 exact rule i j t t' s _ _ ⟨.int (g i j),H,I.tok _,⟨_,rfl⟩,q⟩
theorem zaZ {f:Value->Value->Sem Value}{g:Int->Int->Bool}
  (rule:∀ (i j:Int) (t u:Tok) (s:Shared) (Q:Value->Shared->Prop) (E:Value->Shared->Prop),Q (.bool (g i j)) s->wpAny (model X.prog X.w) X.A (f (.int i t) (.int j u)) Q E s) :
  OpR X f (rI0 fun i j=>.bl (g i j)):=by
 intro pins s σ H x y v u Q I rx ry h
 obtain⟨i,j,rfl,rfl,q⟩:=h
 obtain⟨t,rfl⟩:=rx
 obtain⟨t',rfl⟩:=ry
 exact rule i j t t' s _ _ ⟨.bl (g i j),H,I,rfl,q⟩
noncomputable def CDiv (i j:Int):Prop:=0<j/\j<1073741824
noncomputable def zek (i j:Int):Prop:=0<=j/\j<=1000000/\i.natAbs<2 ^ 64
noncomputable def CMul (i j:Int):Prop:=(-(2 ^ 64)<i/\i<2 ^ 64)∨(-(2 ^ 64)<j/\j<2 ^ 64)
theorem CMul.ok {i j:Int}(h:CMul i j):IntMulOk i j:=by
 rcases h with ⟨h1,h2⟩ | ⟨h1,h2⟩
 ·exact .of_left (intBits_le_64 h1 h2)
 ·exact .of_right (intBits_le_64 h1 h2)
theorem VG (k:Nat):(0:Int)<=2 ^ k:=by
 rw[two_pow_cast]
 exact Int.natCast_nonneg _
theorem Vq:OpR X (binaryOp .Add) (rI0 fun i j=>.int (i+j)):=zdb fun _ _ _ _ _ _ _ q=>add_int q
theorem zdi:OpR X (binaryOp .Sub) (rI0 fun i j=>.int (i-j)):=zdb fun _ _ _ _ _ _ _ q=>sub_int q
theorem kU:OpR X (binaryOp .Mult) (rI CMul fun i j=>.int (i*j)):=opI fun _ _ _ _ _ _ _ hc q=>mul_int q hc.ok
theorem za0:OpR X (binaryOp .FloorDiv) (rI CDiv fun i j=>.int (i / j)):=opI fun i j _ _ _ _ _ hc q=>by
 have h1:(0:Int)<j:=hc.1
 have h2:j<1073741824:=hc.2
 exact floordiv_int (by omega) (by rw[Int.fdiv_eq_ediv_of_nonneg i (by omega)]; exact q) (.inl (PyProof.noPylong_small (by omega)))
theorem kT:OpR X (binaryOp .Mod) (rI (fun _ j=>0<j) fun i j=>.int (i % j)):=opI fun i j _ _ _ _ _ hc q=>by
 have h1:(0:Int)<j:=hc
 exact mod_int' (by omega) (by rw[Int.fmod_eq_emod_of_nonneg i (by omega)]; exact q)
theorem zdf:OpR X (binaryOp .Pow) (rI zek fun i j=>.int (i ^ j.toNat)):=opI fun _ _ _ _ _ _ _ hc q=>pow_int_small hc.1 hc.2.1 hc.2.2 q
theorem zdg:OpR X (binaryOp .LShift) (rI zek fun i j=>.int (i*2 ^ j.toNat)):=opI fun _ _ _ _ _ _ _ hc q=>lshift_int_small hc.1 hc.2.1 hc.2.2 q
theorem zdh:OpR X (binaryOp .RShift) (rI (fun _ j=>0<=j) fun i j=>.int (i / 2 ^ j.toNat)):=opI fun i j _ _ _ _ _ hc q=>
 rshift_int hc (by rw[Int.fdiv_eq_ediv_of_nonneg i (VG _)]; exact q)
theorem zdc:OpR X (binaryOp .BitAnd) (rI0 fun i j=>.int (Builtin.bitAnd i j)):=zdb fun _ _ _ _ _ _ _ q=>and_int q
theorem unI {f:Value->Sem Value}{g:Int->Int}
  (rule:∀ (i:Int) (t:Tok) (s:Shared) (Q:Value->Shared->Prop) (E:Value->Shared->Prop),Q (.int (g i) s.toks) { s with toks:=s.toks+1 }->wpAny (model X.prog X.w) X.A (f (.int i t)) Q E s) :
  UnR X f (rU fun i=>.int (g i)):=by
 intro pins s σ H x v Q I rx h
 obtain⟨i,rfl,q⟩:=h
 obtain⟨t,rfl⟩:=rx
 exact rule i t s _ _ ⟨.int (g i),H,I.tok _,⟨_,rfl⟩,q⟩
theorem zed:UnR X (unaryOp .USub) (rU fun i=>.int (-i)):=unI fun _ _ _ _ _ q=>neg_int q
end
section
variable {X:Cx} {a b c:Expr} {ta tb tc:TE} {pos:Pos}
theorem ki {pins:List (Addr×Obj)}{σ:St}{H:Hp}{s:Shared}{Q:VK}{k k':Bool}(I:Inv X pins σ H s) (q:Q (.bl k) H) (e:k=k'):EP X pins σ Q (.bool k') s:=by
 subst e
 exact⟨.bl k,H,I,rfl,q⟩
theorem zeM:OpR X (compareOp .Lt) (rI0 fun i j=>.bl (decide (i<j))):=zaZ fun _ _ _ _ _ _ _ q=>lt_int q
theorem zeL:OpR X (compareOp .LtE) (rI0 fun i j=>.bl (decide (i<=j))):=zaZ fun _ _ _ _ _ _ _ q=>le_int q
theorem zeK:OpR X (compareOp .Gt) (rI0 fun i j=>.bl (decide (j<i))):=zaZ fun _ _ _ _ _ _ _ q=>gt_int q
theorem zeJ:OpR X (compareOp .GtE) (rI0 fun i j=>.bl (decide (j<=i))):=zaZ fun _ _ _ _ _ _ _ q=>ge_int q
theorem zde:OpR X (compareOp .Is) (fun x y H Q=>y=.non/\Q (.bl (decide (x=.non))) H):=by
 intro pins s σ H x y v u Q I rx ry h
 obtain⟨rfl,q⟩:=h
 cases ry
 refine is_none_gen (ki I q ?_)
 cases x <;> first
  | (cases rx; rfl)
  | (obtain⟨t,rfl⟩:=rx; rfl)
theorem za1:OpR X (compareOp .IsNot) (fun x y H Q=>y=.non/\Q (.bl (!decide (x=.non))) H):=by
 intro pins s σ H x y v u Q I rx ry h
 obtain⟨rfl,q⟩:=h
 cases ry
 refine isnot_none_gen (ki I q ?_)
 cases x <;> first
  | (cases rx; rfl)
  | (obtain⟨t,rfl⟩:=rx; rfl)
theorem za5 {op:CmpOp}{r:R2}(ho:OpR X (compareOp op) r) (ha:PE X a ta) (hb:PE X b tb) (hm:behindInMarks op b=false):PE X (.Compare a [op] [b] pos) (tOp r ta tb):=by
 intro pins s σ H Q I h
 exact wpAny_Compare1 (zcA ha hb I h fun v u s2 x y H2 I2 rx ry q=>ho pins s2 σ H2 x y v u Q I2 rx ry q) hm
noncomputable def zcs (t:TE):TT:=fun σ H Q=>t σ H fun x H'=>∃ k,x=.bl k/\Q k H'
theorem zbc {op:CmpOp}{r:R2}(ho:OpR X (compareOp op) r) (ha:PE X a ta) (hb:PE X b tb) (hm:behindInMarks op b=false):PT X (.Compare a [op] [b] pos) (zcs (tOp r ta tb)):=by
 intro pins s σ H Q I h
 refine wpAny_isTrue_Compare1 (thn (ha pins s σ H _ I h) fun v s1 ⟨x,H1,I1,r1,q1⟩=>thn (hb pins s1 σ H1 _ I1 q1) fun u s2 ⟨y,H2,I2,r2,q2⟩=>
  thn (ho pins s2 σ H2 x y v u _ I2 r1 r2 q2) fun c s3 ⟨z,H3,I3,r3,k,e,q3⟩=>?_) hm
 subst e
 cases r3
 exact wpAny_truthy_bool ⟨H3,I3,q3⟩
noncomputable def VC (r r':R2) (ta tb tc:TE):TE:=fun σ H Q=>ta σ H fun x H1=>tb σ H1 fun y H2=>r x y H2 fun z H3=>∃ k,z=.bl k /\
 (if k=true then tc σ H3 fun w' H4=>r' y w' H4 Q else Q (.bl false) H3)
theorem kX {op op':CmpOp}{r r':R2}(ho:OpR X (compareOp op) r) (ho':OpR X (compareOp op') r') (ha:PE X a ta) (hb:PE X b tb) (hc:PE X c tc)
  (hm:lastMarks [op,op'] [b,c]=false:=by with_unfolding_all rfl):PE X (.Compare a [op,op'] [b,c] pos) (VC r r' ta tb tc):=by
 intro pins s σ H Q I h
 refine Compare_chain (thn (ha pins s σ H _ I h) fun v s1 ⟨x,H1,I1,r1,q1⟩=>chain_link (thn (hb pins s1 σ H1 _ I1 q1) fun u s2 ⟨y,H2,I2,r2,q2⟩=>
  thn (ho pins s2 σ H2 x y v u _ I2 r1 r2 q2) fun d s3 ⟨z,H3,I3,r3,k,e,q3⟩=>?_)) hm
 subst e
 cases r3
 refine wpAny_truthy_bool ?_
 cases k with
 | false=>exact ite_ff ⟨.bl false,H3,I3,rfl,q3⟩
 | true=>exact ite_tt (chain_last (thn (hc pins s3 σ H3 _ I3 q3) fun w' s4 ⟨z',H4,I4,r4,q4⟩=>ho' pins s4 σ H4 y z' u w' Q I4 r2 r4 q4))
theorem Kj {op op':CmpOp}{r r':R2}(ho:OpR X (compareOp op) r) (ho':OpR X (compareOp op') r') (ha:PE X a ta) (hb:PE X b tb) (hc:PE X c tc)
  (hm:lastMarks [op,op'] [b,c]=false:=by with_unfolding_all rfl):PT X (.Compare a [op,op'] [b,c] pos) (zcs (VC r r' ta tb tc)):=by
 intro pins s σ H Q I h
 refine isTrue_chain (thn (ha pins s σ H _ I h) fun v s1 ⟨x,H1,I1,r1,q1⟩=>test_link (thn (hb pins s1 σ H1 _ I1 q1) fun u s2 ⟨y,H2,I2,r2,q2⟩=>
  thn (ho pins s2 σ H2 x y v u _ I2 r1 r2 q2) fun d s3 ⟨z,H3,I3,r3,k,e,q3⟩=>?_)) hm
 subst e
 cases r3
 refine wpAny_truthy_bool ?_
 cases k with
 | false=>
  obtain⟨k',e',q'⟩:=q3
  cases e'
  exact ite_ff ⟨H3,I3,q'⟩
 | true=>
  refine ite_tt (test_last (thn (hc pins s3 σ H3 _ I3 q3) fun w' s4 ⟨z',H4,I4,r4,q4⟩=>thn (ho' pins s4 σ H4 y z' u w' _ I4 r2 r4 q4) fun d' s5 ⟨z2,H5,I5,r5,k2,e2,q5⟩=>?_))
  subst e2
  cases r5
  exact wpAny_truthy_bool ⟨H5,I5,q5⟩
noncomputable def zan (K:PySem.W.Frag) (x:V) (H:Hp) (k:Bool):Prop :=
 match x with
 | .non=>k=false
 | .bl b=>k=b
 | .int i=>k=(i !=0)
 | .str y=>y.length<=sizeLine/\k=((y.length:Int) !=0)
 | .byt y=>y.size<=sizeLine/\k=((y.size:Int) !=0)
 | .ref p=>(∃ xs,SqL K H p xs/\k= !xs.isEmpty)∨(∃ xs,SqT K H p xs/\k= !xs.isEmpty)∨∃ kvs,H p=some (.dK kvs)/\k= !kvs.isEmpty
 | _=>False
theorem Vm {κ:Type}{kvs:List (κ×V)}{vs:List (κ×Value)}(r:KV kvs vs):(!vs.isEmpty)= !kvs.isEmpty:=by
 cases r <;> rfl
theorem Jw {xs:List V}{its:List Value}(r:Vals xs its):(!its.toArray.isEmpty)= !xs.isEmpty:=by
 cases r <;> simp
theorem Jx:(sizeLine:Nat)<2 ^ 63:=by rw[sizeLine_eq]; decide
theorem KS:TruR X (fun x H Q=>∃ k,zan X.K x H k/\Q k H):=by
 intro pins s σ H x v Q I rx h
 obtain⟨k,e,q⟩:=h
 have hl:=Jx
 have hs:sizeLine=16777216:=sizeLine_eq
 cases x with
 | non=>
  cases rx
  have e':k=false:=e
  subst e'
  exact truthy_none ⟨H,I,q⟩
 | bl b=>
  cases rx
  have e':k=b:=e
  subst e'
  exact wpAny_truthy_bool ⟨H,I,q⟩
 | int i=>
  obtain⟨t,rfl⟩:=rx
  have e':k=(i !=0):=e
  subst e'
  exact PySem.P.truthy_int ⟨H,I,q⟩
 | str y=>
  obtain⟨t,rfl⟩:=rx
  obtain⟨hy,e'⟩:y.length<=sizeLine/\k=((y.length:Int) !=0):=e
  subst e'
  exact PySem.P.truthy_str (by omega) ⟨H,I.tok _,q⟩
 | byt y=>
  obtain⟨t,rfl⟩:=rx
  obtain⟨hy,e'⟩:y.size<=sizeLine/\k=((y.size:Int) !=0):=e
  subst e'
  exact PySem.W.truthy_bytes (by omega) ⟨H,I.tok _,q⟩
 | ref p=>
  cases rx
  have e':(∃ xs,SqL X.K H p xs/\k= !xs.isEmpty)∨(∃ xs,SqT X.K H p xs/\k= !xs.isEmpty)∨∃ kvs,H p=some (.dK kvs)/\k= !kvs.isEmpty:=e
  rcases e' with ⟨xs,hx,e'⟩ | ⟨xs,hx,e'⟩ | ⟨kvs,hx,e'⟩
  ·subst e'
   obtain⟨its,r,pl,hz⟩:=I.list hx
   have hlen:=r.length
   exact wpAny_truthy_list pl.isList (by simp only[List.size_toArray]; omega) ⟨H,I.tok _,by rw[Jw r]; exact q⟩
  ·subst e'
   obtain⟨its,r,pl,hz⟩:=I.tuple hx
   have hlen:=r.length
   exact truthy_tuple pl (by simp only[List.size_toArray]; omega) ⟨H,I.tok _,by rw[Jw r]; exact q⟩
  ·subst e'
   obtain⟨hz,hS,vs,r,m⟩:kvs.length<=sizeLine/\(p==sysModules)=false/\∃ vs,KV kvs vs/\s.heap.DictOf (qq X.prog X.w) p vs:=I.hok p _ hx
   have hlen:kvs.length=vs.length:=Paired.length r
   exact wpAny_truthy_dict hS m (by omega) ⟨H,I.tok _,by rw[Vm r]; exact q⟩
 | _=>exact (show False from e).elim
theorem Kk (ha:PE X a ta) (he:∀ whole,isTrue a X.env whole=(do let v<-whole; standAt a.pos; holding [v] (truthy v))) :
  PT X a (fun σ H Q=>ta σ H fun x H'=>∃ k,zan X.K x H' k/\Q k H'):=by
 intro pins s σ H Q I h
 exact isTrue_plain (thn (ha pins s σ H _ I h) fun v s1 ⟨x,H1,I1,r1,q1⟩=>KS pins s1 σ H1 x v Q I1 r1 q1) (he _)
theorem jz {x:V}{us:List Value}(r:Vals [x] us):∃ u,us= [u]/\RelV x u:=by
 cases r with
 | cons r1 r2=>cases r2; exact⟨_,rfl,r1⟩
theorem zaa {x y:V}{us:List Value}(r:Vals [x,y] us):∃ u w',us= [u,w']/\RelV x u/\RelV y w':=by
 cases r with
 | cons r1 r2=>
  cases r2 with
  | cons r3 r4=>cases r4; exact⟨_,_,rfl,r1,r3⟩
theorem yM (hc:X.calm=true):qB X (.builtin "max") (fun xs H Q=>∃ i j,xs= [.int i,.int j]/\Q (.int (if j>i then j else i)) H):=by
 intro pins s σ H xs us Q I r h
 obtain⟨i,j,rfl,q⟩:=h
 obtain⟨u,w',rfl,⟨t,rfl⟩,⟨t',rfl⟩⟩:=zaa r
 refine max_two_ints (I.ok.hd hc) fun h' tk k=>⟨_,H,I.kept k,?_,q⟩
 by_cases hj:j>i
 ·rw[if_pos hj,if_pos hj]; exact⟨_,rfl⟩
 ·rw[if_neg hj,if_neg hj]; exact⟨_,rfl⟩
theorem yN (hc:X.calm=true):qB X (.builtin "min") (fun xs H Q=>∃ i j,xs= [.int i,.int j]/\Q (.int (if j<i then j else i)) H):=by
 intro pins s σ H xs us Q I r h
 obtain⟨i,j,rfl,q⟩:=h
 obtain⟨u,w',rfl,⟨t,rfl⟩,⟨t',rfl⟩⟩:=zaa r
 refine min_two_ints (I.ok.hd hc) fun h' tk k=>⟨_,H,I.kept k,?_,q⟩
 by_cases hj:j<i
 ·rw[if_pos hj,if_pos hj]; exact⟨_,rfl⟩
 ·rw[if_neg hj,if_neg hj]; exact⟨_,rfl⟩
theorem wy:qB X (.type "int") (fun xs H Q=>(∃ i,xs= [.int i]/\Q (.int i) H)∨∃ k,xs= [.bl k]/\Q (.int (if k then 1 else 0)) H):=by
 intro pins s σ H xs us Q I r h
 rcases h with ⟨i,rfl,q⟩ | ⟨k,rfl,q⟩
 ·obtain⟨u,rfl,t,rfl⟩:=jz r
  exact call_int_int ⟨.int i,H,I,⟨_,rfl⟩,q⟩
 ·obtain⟨u,rfl,r1⟩:=jz r
  cases r1
  exact call_int_bool ⟨.int (if k then 1 else 0),H,I.tok _,⟨_,rfl⟩,q⟩
end
end L2
namespace L2
open PySem PySem.Spec PyProof.Rows
structure ObjM (h:Heap) (x dx C:Addr) (mA:Str->Option Value):Prop where
 obj:h.get? x=some (PySem.W.instObj C dx)
 ns:h.Ns1 dx mA
 ne:dx≠x
theorem Ya {h:Heap}{dx:Addr}{mA:Str->Option Value}(n:h.Ns1 dx mA):∃ od,h.get? dx=some od/\∀ name,PySem.W.lookIn name od=some (mA name):=by
 obtain⟨o,es,ep,ho,hd,hk,_,hm⟩:=n
 refine⟨o,ho,fun name=>?_⟩
 have e:=hm name
 unfold nsFind findBy at e
 rw[<- Array.find?_toList] at e
 unfold PySem.W.lookIn
 rw[hd]
 dsimp only
 split
 ·rename_i y q
  rw[q] at e
  exact congrArg some e
 ·rename_i q
  rw[q] at e
  have a:es.toList.any (·.refKey)=false:=by
   rw[List.any_eq_false]
   intro y hy
   obtain⟨z,t,hkey⟩:=hk y (Array.mem_toList_iff.mp hy)
   simp[DictEntry.refKey,hkey]
  have a':¬ es.toList.any (·.refKey)=true:=by rw[a]; exact Bool.false_ne_true
  rw[if_neg a']
  exact congrArg some e
theorem ObjM.look {h:Heap}{x dx C:Addr}{mA:Str->Option Value}(I:ObjM h x dx C mA):∃ od,PySem.W.InstAt h x (PySem.W.instObj C dx) C (some od)/\∀ name,PySem.W.lookIn name od=some (mA name) :=
 let ⟨od,ho,hl⟩:=Ya I.ns
 ⟨od,⟨I.obj,rfl,rfl,ho⟩,hl⟩
section
variable {prog:Program} {w:World} {A:Around} {E:Value->Shared->Prop} {s:Shared} {K:PySem.W.Frag} {x dx C f:Addr} {mA:Str->Option Value} {name:Str} {v:Value}
end
section
variable {P:Program} {w:World} {H H':Hp} {h h':Heap} {a C dx:Addr} {fs fs':List (Str×V)}
theorem zaO (hok:HOk P w H h) (e:H a=some (.ins C dx fs)):∃ mA,ObjM h a dx C mA/\(∀ f,RelO (fs.lookup f) (mA f))/\PySem.Within mA (fs.map (·.1))/\fs.length<=1000/\H dx=some (.own a):=by
 obtain⟨d,z,ne,ob,mA,n,r,q⟩:=(show ObjOk P w H h a (.ins C dx fs) from hok a _ e)
 exact⟨mA,⟨ob,n,ne⟩,r,q,z,d⟩
end
structure Cls (K:PySem.W.Frag) (C:Addr):Prop where
 pg:PySem.W.plainGet K C Str.empty=true
 hd:PySem.W.hasDictIn K C=true
 po:PySem.W.plainOver K C=true
 sa:PySem.W.findIn K (.ref C) "__setattr__" =some (some (.builtin "object.__setattr__"))
theorem Cls.get {K:PySem.W.Frag}{C:Addr}(c:Cls K C) (f:Str):PySem.W.plainGet K C f=true:=c.pg
noncomputable def Za (K:PySem.W.Frag) (C:Addr) (f:Str):Prop:=PySem.W.findIn K (.ref C) f=some none
structure zcv (K:PySem.W.Frag) (C:Addr) (m:Str) (f:Addr):Prop where
 at_:PySem.W.findIn K (.ref C) m=some (some (.ref f))
 fn:PySem.W.isFn K (.ref f)=true
 kp:PySem.W.keepIn K (.ref f)=true
section
variable {X:Cx} {pins:List (Addr×Obj)} {σ:St} {H:Hp} {s:Shared} {a C dx:Addr} {fs:List (Str×V)} {f:Str} {v:V} {A:Around} {E:Value->Shared->Prop}
theorem Inv.made (I:Inv X pins σ H s):Inv X pins σ (upd (upd H s.heap.objs.size (.own (s.heap.objs.size+1))) (s.heap.objs.size+1) (.ins C s.heap.objs.size []))
  { s with heap:=(s.heap.push PySem.W.emptyDict).push (PySem.W.instObj C s.heap.objs.size) }:=by
 have e1:(s.heap.push PySem.W.emptyDict).get? s.heap.objs.size=some PySem.W.emptyDict:=Heap.get?_push_size s.heap rfl
 have e2:((s.heap.push PySem.W.emptyDict).push (PySem.W.instObj C s.heap.objs.size)).get? (s.heap.objs.size+1)=some (PySem.W.instObj C s.heap.objs.size):=by
  have:=Heap.get?_push_size (s.heap.push PySem.W.emptyDict) (o:=PySem.W.instObj C s.heap.objs.size) rfl
  rwa [Heap.size_push] at this
 have e3:(s.heap.push PySem.W.emptyDict).Ns s.heap.objs.size (fun _=>none):=⟨PySem.W.emptyDict,#[],_,e1,rfl,(fun e he=>absurd he (by simp)),fun _=>rfl⟩
 have I1:=I.laid (a:=s.heap.objs.size) (o:=.own (s.heap.objs.size+1)) (h':=s.heap.push PySem.W.emptyDict) (t':=s.toks) (fun b u q=>Heap.get?_push_of_some _ q) (Nat.le_refl _) ⟨_,e1⟩
 refine I1.laid (a:=s.heap.objs.size+1) (o:=.ins C s.heap.objs.size []) (t':=s.toks) (fun b u q=>Heap.get?_push_of_some _ q) (Nat.le_of_eq (Heap.size_push _ _)) ?_
 have ne:s.heap.objs.size≠s.heap.objs.size+1:=Nat.ne_of_lt (Nat.lt_succ_self _)
 refine⟨by rw[ze ne,zj],Nat.zero_le _,ne,e2,fun _=>none,(Heap.Ns1.of_empty e3).at fun o q=>Heap.get?_push_of_some _ q,fun _=>True.intro,fun y hy=>absurd rfl hy⟩
end
section
variable {X:Cx} {o e value:Expr} {f:Str} {pos pos' tpos:Pos} {ta tv:TE}
end
section
variable {X:Cx} {pins:List (Addr×Obj)} {σ:St} {H:Hp} {s:Shared} {A:Around} {E:Value->Shared->Prop} {Q:Value->Shared->Prop} {c:Value} {b:Bool}
inductive Zr (K:PySem.W.Frag) (H:Hp):V->Value->Prop where
 | non:Zr K H .non (.type "NoneType")
 | bl (x:Bool):Zr K H (.bl x) (.type "bool")
 | int (i:Int):Zr K H (.int i) (.type "int")
 | str (x:Str):Zr K H (.str x) (.type "str")
 | flt (x:UInt64):Zr K H (.flt x) (.type "float")
 | lst {a:Addr} {xs:List V} (e:H a=some (.lst xs)):Zr K H (.ref a) (.type "list")
 | frz {a:Addr} {o:Obj} {xs:List V} (e:H a=some (.frz o (.lst xs))):Zr K H (.ref a) (.type "list")
 | tup {a:Addr} {xs:List V} (e:H a=some (.tup xs)):Zr K H (.ref a) (.type "tuple")
 | dK {a:Addr} {kvs:List (Key×V)} (e:H a=some (.dK kvs)):Zr K H (.ref a) (.type "dict")
 | dT {a:Addr} {kvs:List (List Key×V)} (e:H a=some (.dT kvs)):Zr K H (.ref a) (.type "dict")
 | ins {a C dx:Addr} {fs:List (Str×V)} (e:H a=some (.ins C dx fs)) (cl:Cls K C) (ha:PySem.W.findIn K (.ref C) "__class__" =some (some (.builtin "object.__class__")))
   (hn:PySem.W.specialIn K (.builtin "object.__class__") "__get__" =some (some (.builtin "getset_descriptor.__get__"))) (htk:PySem.W.takesIn K (.builtin "object.__class__")=some true)
   (hm:PySem.W.mroIn K C (.type "object")=some true):Zr K H (.ref a) (.ref C)
theorem yY {x:V}{u t:Value}(I:Inv X pins σ H s) (rx:RelV x u) (ty:Zr X.K H x t) (e:PySem.W.kitOne X.K t c=some b) (h:∀ tk,Q (.bool b) { s with toks:=tk }) :
  wpAny (model X.prog X.w) A (call (.builtin "isinstance") [u,c]) Q E s:=by
 cases ty with
 | non=>cases (show u=Value.none from rx); exact PySem.W.kia_one PySem.W.kitx_none I.kIn True.intro e (fun z=>nomatch z) h
 | bl y=>cases (show u=Value.bool y from rx); exact PySem.W.kia_one PySem.W.kitx_bool I.kIn True.intro e (fun z=>nomatch z) h
 | int i=>obtain⟨t,q⟩:=(show ∃ t,u=Value.int i t from rx); cases q; exact PySem.W.kia_one PySem.W.kitx_int I.kIn True.intro e (fun z=>nomatch z) h
 | str y=>obtain⟨t,q⟩:=(show ∃ t,u=Value.str y t from rx); cases q; exact PySem.W.kia_one PySem.W.kitx_str I.kIn True.intro e (fun z=>nomatch z) h
 | flt y=>obtain⟨t,q⟩:=(show ∃ t,u=Value.float y t from rx); cases q; exact PySem.W.kia_one PySem.W.kitx_float I.kIn True.intro e (fun z=>nomatch z) h
 | @lst a xs ea=>
  cases (show u=Value.ref a from rx)
  obtain⟨_,_,n,_,h1⟩:=(show ObjOk X.prog X.w H s.heap a (.lst xs) from I.hok a _ ea)
  exact PySem.W.kia_one PySem.W.kitx_list I.kIn ⟨_,h1,rfl⟩ e (fun z=>nomatch z) h
 | @frz a ob xs ea=>
  cases (show u=Value.ref a from rx)
  obtain⟨_,_,_,n,_,h1⟩:=(show ObjOk X.prog X.w H s.heap a (.frz ob (.lst xs)) from I.hok a _ ea)
  exact PySem.W.kia_one PySem.W.kitx_list I.kIn ⟨_,h1,rfl⟩ e (fun z=>nomatch z) h
 | @tup a xs ea=>
  cases (show u=Value.ref a from rx)
  obtain⟨_,_,_,p⟩:=(show ObjOk X.prog X.w H s.heap a (.tup xs) from I.hok a _ ea)
  obtain⟨o,h1,h2,_⟩:=p
  exact PySem.W.kia_one PySem.W.kitx_tuple I.kIn ⟨o,h1,h2⟩ e (fun z=>nomatch z) h
 | @dK a kvs ea=>
  cases (show u=Value.ref a from rx)
  obtain⟨_,_,vs,_,p⟩:=(show ObjOk X.prog X.w H s.heap a (.dK kvs) from I.hok a _ ea)
  obtain⟨o,es,ep,h1,h2,_⟩:=p
  exact PySem.W.kia_one PySem.W.kitx_dict I.kIn ⟨o,h1,h2.1⟩ e (fun z=>nomatch z) h
 | @dT a kvs ea=>
  cases (show u=Value.ref a from rx)
  obtain⟨_,_,xs,_,o,es,ep,h1,h2,_⟩:=(show ObjOk X.prog X.w H s.heap a (.dT kvs) from I.hok a _ ea)
  exact PySem.W.kia_one PySem.W.kitx_dict I.kIn ⟨o,h1,h2.1⟩ e (fun z=>nomatch z) h
 | @ins a C dx fs ea cl ha hn htk hm=>
  cases (show u=Value.ref a from rx)
  obtain⟨mA,O,_⟩:=zaO I.hok ea
  obtain⟨od,J,_⟩:=O.look
  exact PySem.W.kia_one (PySem.W.kitx_own (cl.get _) cl.hd ha hn htk hm) I.kIn J e (fun z=>nomatch z) h
end
end L2
namespace L2
open PySem PySem.Spec PyProof.Rows
structure Room (k:Nat) (A:Around):Prop where
 hd:A.handled=none
 dp:A.depth+3*k+5<recursionLimit
 un:A.units+16*k+200<cLine
theorem Room.mono {j k:Nat}{A:Around}(r:Room k A) (h:j<=k):Room j A:=⟨r.hd,by have:=r.dp; omega,by have:=r.un; omega⟩
theorem Room.deeper {k:Nat}{A:Around}(r:Room (k+1) A) (env:Env):Room k (A.deeper env) :=
 ⟨r.hd,by have:=r.dp; show A.depth+1+3*k+5<_; omega,by have:=r.un; show A.units+3+16*k+200<_; omega⟩
theorem Room.in1 {k:Nat}{A:Around}(r:Room (k+1) A):Room k A.in1 :=
 ⟨r.hd,by have:=r.dp; show A.depth+3*k+5<_; omega,by have:=r.un; show A.units+1+16*k+200<_; omega⟩
theorem Room.depth {k:Nat}{A:Around}(r:Room k A):A.depth<recursionLimit:=by have:=r.dp; omega
theorem Room.units {k:Nat}{A:Around}(r:Room k A):A.units+64<cLine:=by have:=r.un; omega
noncomputable def zd6:TA:=fun _ H Q=>Q [] H
noncomputable def KO (ta:TE) (tr:TA):TA:=fun σ H Q=>ta σ H fun x H1=>tr σ H1 fun xs H2=>Q (x::xs) H2
section
variable {X:Cx} {e:Expr} {es:List Expr} {te:TE} {t:TA} {pos:Pos}
theorem pa_nil:PA X [] zd6:=fun _ _ _ _ H Q I h=>Calls.spliced_nil ⟨[],H,I,.nil,h⟩
theorem zo (ha:PE X e te) (hr:PA X es t) (hs:starEach (e::es) X.env=(false,eval e X.env)::starEach es X.env:=by rfl):PA X (e::es) (KO te t):=by
 intro pos pins s σ H Q I h
 rw[hs]
 show wpAny _ _ (spliced ((false,eval e X.env)::backTo pos (starEach es X.env))) _ _ s
 refine Calls.spliced_cons (thn (ha pins s σ H _ I h) fun u s1 ⟨x,H1,I1,r1,q1⟩=>?_)
 exact thn (hr pos pins s1 σ H1 _ I1 q1) fun us s2 ⟨xs,H2,I2,r2,q2⟩=>⟨x::xs,H2,I2,.cons r1 r2,q2⟩
noncomputable def tTup (t:TA):TE:=fun σ H Q=>t σ H fun xs H1=>xs.length<=sizeLine/\∀ p,H1 p=none->Q (.ref p) (upd H1 p (.tup xs))
noncomputable def tLst (t:TA):TE:=fun σ H Q=>t σ H fun xs H1=>xs.length<=sizeLine/\∀ p,H1 p=none->Q (.ref p) (upd H1 p (.lst xs))
theorem Vs {x1}(h:PA X es t):PE X (.Tuple es x1 pos) (tTup t):=by
 intro pins s σ H Q I hq
 refine wpAny_Tuple_spliced (thn (h pos pins s σ H _ I hq) fun us s1 ⟨xs,H1,I1,r,z,q⟩=>⟨by rw[<- r.length]; exact z,?_⟩)
 have hf:H1 s1.heap.objs.size=none:=I1.hok.fresh (Nat.le_refl _)
 refine⟨.ref s1.heap.objs.size,upd H1 s1.heap.objs.size (.tup xs),I1.laid (t':=s1.toks) (fun b u e=>Heap.get?_push_of_some _ e) (Nat.le_refl _) ?_,rfl,q _ hf⟩
 exact⟨z,us,r,⟨_,Heap.get?_push_size _ rfl,rfl,_,rfl⟩⟩
theorem k7 (h:PA X es t):PE X (.List es pos) (tLst t):=by
 intro pins s σ H Q I hq
 refine wpAny_List_spliced (thn (h pos pins s σ H _ I hq) fun us s1 ⟨xs,H1,I1,r,z,q⟩=>⟨by rw[<- r.length]; exact z,?_⟩)
 have hf:H1 s1.heap.objs.size=none:=I1.hok.fresh (Nat.le_refl _)
 refine⟨.ref s1.heap.objs.size,upd H1 s1.heap.objs.size (.lst xs),I1.laid (t':=s1.toks) (fun b u e=>Heap.get?_push_of_some _ e) (Nat.le_refl _) ?_,rfl,q _ hf⟩
 exact⟨z,us,0,r,Heap.get?_push_size _ rfl⟩
end
noncomputable abbrev Sp:=List V->Hp->VK->XK->Prop
noncomputable abbrev CXT:=List Env->Hp->Shared->XK->Value->Shared->Prop
structure zak (P:Program) (w:World) (K:PySem.W.Frag) (mg:Str->Option Value) (base:Heap) (A:Around) (outer:List Env) (s:Shared) (H:Hp):Prop where
 frames:A.frames=some outer
 mod:Mod K mg base
 bs:∀ b o,base.get? b=some o->s.heap.get? b=some o/\H b=none
 bsz:base.objs.size<=s.heap.objs.size
 funs:s.heap.FunFrames base outer
 frf:∀ b∈frs outer,H b=none
 hok:HOk P w H s.heap
 bare:AllBare s.gens
noncomputable def CE (outer:List Env) (P:Program) (w:World) (H:Hp) (s:Shared) (Q:VK) (u:Value) (s':Shared):Prop :=
 ∃ v H',s'.os=s.os/\AllBare s'.gens/\Un (frs outer) [] H H' s.heap s'.heap/\HOk P w H' s'.heap/\RelV v u/\Q v H'
noncomputable def CR (CX:CXT) (outer:List Env) (P:Program) (w:World) (H:Hp) (s:Shared) (Q:VK) (E:XK) (r:Result) (s':Shared):Prop :=
 match r with
 | .ok (.ret u)=>CE outer P w H s Q u s'
 | .ok _=>False
 | .error e=>CX outer H s E e s'
structure FnOk (P:Program) (w:World) (K:PySem.W.Frag) (mg:Str->Option Value) (base:Heap) (CX:CXT) (k:Nat) (f:Addr) (fd:FuncData) (ps:List Str) (sp:Sp):Prop where
 len:∀ vs H Q E,sp vs H Q E->vs.length=ps.length
 run:∀ (A:Around) (outer:List Env) (s:Shared) (H:Hp) (args:Args) (us:List Value) (vs:List V) (Q:VK) (E:XK),Room k A->zak P w K mg base A outer s H->BindsTo s fd args (ps.zip us)->Vals vs us->sp vs H Q E ->
  codeAny (model P w) A (.call (.ref f) args) (CR CX outer P w H s Q E) s
theorem FnOk.mono {P:Program}{w:World}{K:PySem.W.Frag}{mg:Str->Option Value}{base:Heap}{CX:CXT}{j k:Nat}{f:Addr}{fd:FuncData}{ps:List Str}{sp:Sp}(F:FnOk P w K mg base CX j f fd ps sp) (h:j<=k) :
  FnOk P w K mg base CX k f fd ps sp:=⟨F.len,fun A outer s H args us vs Q E hr=>F.run A outer s H args us vs Q E (hr.mono h)⟩
section
variable {X:Cx} {pins:List (Addr×Obj)} {σ:St} {H:Hp} {s s':Shared}
theorem Inv.env0 (I:Inv X pins σ H s):zak X.prog X.w X.K X.mg X.base X.A X.stack s H :=
 ⟨I.ok.frames,I.ok.mod,I.bs,Nat.le_trans I.ok.bsz I.sz,I.stack,I.stkFree,I.hok,I.bare⟩
theorem Inv.after {Q:VK}{u:Value}(I:Inv X pins σ H s) (h:CE X.stack X.prog X.w H s Q u s'):EP X pins σ Q u s':=by
 obtain⟨v,H',os,bare,un,hok,r,q⟩:=h
 obtain⟨hh,g,d,t,os'⟩:=s'
 obtain rfl:os'=s.os:=os
 exact⟨v,H',I.call (h':=hh) (g':=g) (d':=d) (t':=t) (ch:= []) un hok bare (fun b z=>absurd z (by simp)),r,q⟩
end
noncomputable def zfb (sp:Sp) (dvs:List V) (E:XK) (t:TA):TE:=fun σ H Q=>t σ H fun vs H1=>sp (vs++dvs) H1 Q E
noncomputable def Binds (K:PySem.W.Frag) (fd:FuncData) (ps:List Str) (ds:List Value):Prop :=
 ∀ (s:Shared) (us:List Value),K.In s.heap->(us++ds).length=ps.length->BindsTo s fd ⟨us,[]⟩ (ps.zip (us++ds))
theorem Binds.all {K:PySem.W.Frag}{fd:FuncData}{ps:List Str}(h:∀ us:List Value,us.length=ps.length->bindArgs fd ⟨us,[]⟩=pure (ps.zip us)):Binds K fd ps []:=fun s us _ hl=>by
 rw[List.append_nil] at hl |-
 exact .of_eq (h us hl)
noncomputable def w4 (CX:CXT) (X:Cx) (E:XK):Prop:=∀ (pins:List (Addr×Obj)) (σ:St) (H:Hp) (s:Shared) (e:Value) (s':Shared),Inv X pins σ H s->CX X.stack H s E e s'->X.xe e s'
section
variable {X:Cx} {CX:CXT} {k:Nat} {f C:Addr} {fd:FuncData} {ps:List Str} {sp:Sp} {dvs:List V} {ds:List Value} {E:XK} {x m:Str} {p pos apos:Pos} {e o:Expr} {es:List Expr} {ta:TE} {t:TA}
theorem zdv {pins:List (Addr×Obj)}{σ:St}{H:Hp}{s:Shared}{Q:VK}{us:List Value}{vs:List V}(F:FnOk X.prog X.w X.K X.mg X.base CX k f fd ps sp) (hr:Room k X.A) (hb:Binds X.K fd ps ds) (hd:Vals dvs ds) (hx:w4 CX X E)
  (I:Inv X pins σ H s) (r:Vals vs us) (h:sp (vs++dvs) H Q E):wpAny (model X.prog X.w) X.A (call (.ref f) us) (EP X pins σ Q) X.xe s:=by
 have r2:Vals (vs++dvs) (us++ds):=r.append hd
 have hl:(us++ds).length=ps.length:=by rw[<- r2.length]; exact F.len _ _ _ _ h
 refine wpAny_call (codeAny_mono (F.run X.A X.stack s H ⟨us,[]⟩ (us++ds) (vs++dvs) Q E hr I.env0 (hb s us I.kIn hl) r2 h) fun r s' hq=>?_)
 cases r with
 | error e=>exact hx pins σ H s e s' I hq
 | ok fl=>
  cases fl with
  | ret u=>exact I.after hq
  | next=>exact False.elim hq
  | brk=>exact False.elim hq
  | cont=>exact False.elim hq
theorem za4 (F:FnOk X.prog X.w X.K X.mg X.base CX k f fd ps sp) (hr:Room k X.A) (hg:Gl X x) (hm:X.mg x=some (.ref f)) (hk:PySem.W.keepIn X.K (.ref f)=true) (hb:Binds X.K fd ps ds) (hd:Vals dvs ds) (hx:w4 CX X E)
  (ha:PA X (e::es) t) (hdb:(x==("__debug__" :Str))=false:=by decide) (he:starEach (e::es) X.env=(false,eval e X.env)::starEach es X.env:=by rfl) (hpl:(backTo pos (starEach es X.env)).any (·.1)=false:=by rfl) :
  PE X (.Call (.Name x p) (e::es) [] pos) (zfb sp dvs E t):=by
 intro pins s σ H Q I h
 refine wpAny_Call_Name_kw (jo I hg hm ?_ hdb)
 refine PySem.W.callWith_K (h₀:=X.base) I.ok.mod.kin hk (thn (ha pos pins s σ H _ I h) fun us s1 ⟨vs,H1,I1,r,q⟩=>⟨I1.kIn,?_⟩) he hpl
 exact zdv F hr hb hd hx I1 r q
structure Mk (K:PySem.W.Frag) (C f:Addr):Prop where
 makes:PySem.W.makesIn K C=true
 init:PySem.W.findIn K (.ref C) "__init__" =some (some (.ref f))
 fn:PySem.W.isFn K (.ref f)=true
 kp:PySem.W.keepIn K (.ref C)=true
end
section
variable {X:Cx} {CX:CXT} {k:Nat} {f C:Addr} {fd:FuncData} {ps ks:List Str} {sp:Sp} {E:XK} {x m:Str} {p pos apos kpos:Pos} {e o:Expr} {es:List Expr} {kws:List Keyword} {te ta:TE} {t tk:TA} {nm:Option Str}
variable {g:List Value->List Value->List Value} {gV:List V->List V->List V}
end
structure qO (N P:List Str) (sc:Scope):Prop where
 kind:sc.kind=.function
 co:sc.isCoroutine=false
 gen:sc.isGenerator=false
 nd:N.Nodup
 pre:N.take P.length=P
 par:∀ x∈P,sc.names.lookup x=some .local∨sc.names.lookup x=some .cell
 nofree:∀ y∈sc.names,y.2≠ .free
theorem wf {kindOf:Str->Option NameKind}{x:Str}:∀ {binds:List (Str×Value)}{m:Str->Option Value},(∀ v,(x,v)∉binds)->bindL kindOf binds m x=m x
 | [],_,_=>rfl
 | (n,v)::r,m,h=>by
  unfold bindL
  rw[wf fun w hw=>h w (List.mem_cons_of_mem _ hw)]
  split
  ·have:x≠n:=by rintro rfl; exact h v List.mem_cons_self
   simp[this]
  ·rfl
theorem wd {kindOf:Str->Option NameKind}{x:Str}:∀ {binds:List (Str×Value)}{m:Str->Option Value},(∀ v,(x,v)∉binds)->bindC kindOf binds m x=m x
 | [],_,_=>rfl
 | (n,v)::r,m,h=>by
  unfold bindC
  rw[wd fun w hw=>h w (List.mem_cons_of_mem _ hw)]
  split
  ·rfl
  ·have:x≠n:=by rintro rfl; exact h v List.mem_cons_self
   simp[this]
theorem we {kindOf:Str->Option NameKind}{x:Str}{v:Value}:∀ {P:List Str}{vs:List Value}{i:Nat}{m:Str->Option Value},P.Nodup->P[i]?=some x->vs[i]?=some v->kindOf x=some .local ->
  bindL kindOf (P.zip vs) m x=some v
 | [],_,_,_,_,h,_,_=>by simp at h
 | _::_,[],_,_,_,_,h,_=>by simp at h
 | p::P,w::vs,0,m,nd,h1,h2,hk=>by
  simp at h1 h2; subst h1; subst h2
  show bindL kindOf ((p,w)::P.zip vs) m p=_
  unfold bindL
  rw[wf fun v hv=>(List.nodup_cons.mp nd).1 (List.of_mem_zip hv).1,if_pos hk]
  simp
 | p::P,w::vs,i+1,m,nd,h1,h2,hk=>by
  show bindL kindOf ((p,w)::P.zip vs) m x=_
  unfold bindL
  exact we (i:=i) (List.nodup_cons.mp nd).2 (by simpa using h1) (by simpa using h2) hk
theorem wc {kindOf:Str->Option NameKind}{x:Str}{v:Value}:∀ {P:List Str}{vs:List Value}{i:Nat}{m:Str->Option Value},P.Nodup->P[i]?=some x->vs[i]?=some v->kindOf x≠some .local ->
  bindC kindOf (P.zip vs) m x=some v
 | [],_,_,_,_,h,_,_=>by simp at h
 | _::_,[],_,_,_,_,h,_=>by simp at h
 | p::P,w::vs,0,m,nd,h1,h2,hk=>by
  simp at h1 h2; subst h1; subst h2
  show bindC kindOf ((p,w)::P.zip vs) m p=_
  unfold bindC
  rw[wd fun v hv=>(List.nodup_cons.mp nd).1 (List.of_mem_zip hv).1,if_neg hk]
  simp
 | p::P,w::vs,i+1,m,nd,h1,h2,hk=>by
  show bindC kindOf ((p,w)::P.zip vs) m x=_
  unfold bindC
  exact wc (i:=i) (List.nodup_cons.mp nd).2 (by simpa using h1) (by simpa using h2) hk
noncomputable def start (N:List Str) (vs:List V):St:=vs.map some++List.replicate (N.length-vs.length) none
noncomputable def Zh (CX:CXT) (P:Program) (w:World) (K:PySem.W.Frag) (mg:Str->Option Value) (base:Heap) (N:List Str) (qual:Str) (scope:Scope) (f:Addr) (cd:Value) (A:Around) (outer:List Env) (s:Shared) (H:Hp) (E:XK):Cx where
 prog:=P
 w:=w
 K:=K
 mg:=mg
 base:=base
 A:=A.deeper (envOfC qual scope s.heap.objs.size f cd)
 N:=N
 s₀:=s
 H₀:=H
 env:=envOfC qual scope s.heap.objs.size f cd
 outer:=outer
 stack:=envOfC qual scope s.heap.objs.size f cd::outer
 ex:= []
 calm:=true
 fn:=fun _=>true
 pn:= []
 xe:=fun e s'=>wpAny (model P w) (A.deeper (envOfC qual scope s.heap.objs.size f cd)) (leaving (envOfC qual scope s.heap.objs.size f cd) e) (fun _ s''=>CX outer H s E e s'') (fun e' s''=>CX outer H s E e' s'') s'
theorem Zy {sc:Scope}{n:Nat}{x:Str}(h:sc.names.lookup x=some .cell):∃ c,(cellsFrom n sc.names []).lookup x=some c:=by
 have q:=PySem.W.cellsFrom_some sc.names n [] (.inl h)
 exact Option.isSome_iff_exists.mp q
theorem yX {CX:CXT}{P:Program}{w:World}{K:PySem.W.Frag}{mg:Str->Option Value}{base:Heap}{N ps:List Str}{qual:Str}{scope:Scope}{f:Addr}{cd:Value}{A:Around}{outer:List Env}{s s1:Shared}{H:Hp}{E:XK}{us:List Value}{vs:List V}
  (S:qO N ps scope) (hd:A.handled=none) (e0:zak P w K mg base A outer s H) (hl:vs.length=ps.length) (r:Vals vs us)
  (x:InCallC s s.heap.objs.size (bindL (envOfC qual scope s.heap.objs.size f cd).kindOf (ps.zip us) fun _=>none) (cellsFrom (s.heap.objs.size+1) scope.names []) (bindC (envOfC qual scope s.heap.objs.size f cd).kindOf (ps.zip us) fun _=>none) s1) :
  Inv (Zh CX P w K mg base N qual scope f cd A outer s H E) [] (start N vs) H s1:=by
 have hpl:ps.length<=N.length:=by have:=congrArg List.length S.pre; rw[List.length_take] at this; omega
 obtain⟨h1,tk,rfl,hk⟩:=x.done
 have noA:∀ b:Addr,b∉(Zh CX P w K mg base N qual scope f cd A outer s H E).ex:=fun b z=>absurd (show b∈([]:List Addr) from z) (by simp)
 refine⟨⟨e0.mod,S.kind,rfl,rfl,Nat.le_refl _,fun y z c h1 h2=>?_,fun y hy=>?_,fun y c _ h=>?_,fun _=>hd,Around.frames_deeper e0.frames,.inr ⟨rfl,rfl⟩,fun b z=>absurd z (noA b),e0.bs,e0.bsz,fun b _ _=>noA b,fun b z=>absurd z (noA b),e0.funs,e0.frf⟩,
  rfl,e0.bare,Un.kept hk,⟨_,x.toInCall.ns,fun i y v h1 h2 h3=>?_⟩,fun y c h=>⟨_,x.cell y c h⟩,e0.hok.fresh (Nat.le_refl _),fun y c h=>?_,fun p hp=>absurd (show p∈([]:List (Addr×Obj)) from hp) (by simp),e0.hok.kept hk,?_⟩
 ·exact name_of_addr x.apart (PySem.mem_of_lookup h1) (PySem.mem_of_lookup h2)
 ·have hy:scope.names.lookup y=some .cell∨scope.names.lookup y=some .free:=hy
  rcases hy with hy | hy
  ·exact Zy hy
  ·exact absurd rfl (S.nofree _ (PySem.mem_of_lookup hy))
 ·exact Nat.le_of_lt (x.above y c (PySem.mem_of_lookup h))
 ·have hi:i<vs.length:=by
   unfold start at h2
   by_cases hi:i<vs.length
   ·exact hi
   ·rw[List.getElem?_append_right (by simpa using hi)] at h2
    rw[List.getElem?_replicate] at h2
    split at h2 <;> cases h2
  have ha:vs[i]?=some v:=by
   unfold start at h2
   rw[List.getElem?_append_left (by simpa using hi),List.getElem?_map] at h2
   cases e:vs[i]? with
   | none=>rw[e] at h2; cases h2
   | some a=>rw[e] at h2; cases h2; rfl
  obtain⟨u,hu,rv⟩:=r.get ha
  have hp:ps[i]?=some y:=by
   rw[<- S.pre,List.getElem?_take_of_lt (by omega)]; exact h1
  have ndP:ps.Nodup:=by rw[<- S.pre]; exact S.nd.sublist (List.take_sublist _ _)
  refine⟨u,rv,?_⟩
  rcases S.par y (List.mem_of_getElem? hp) with k | k
  ·exact .inl ⟨k,we ndP hp hu k⟩
  ·obtain⟨c,e⟩:=Zy (n:=s.heap.objs.size+1) k
   refine .inr ⟨.inl k,c,e,?_⟩
   have q:=x.cell y c e
   rw[wc ndP hp hu (by show scope.names.lookup y≠_; rw[k]; decide)] at q
   exact q
 ·exact e0.hok.fresh (Nat.le_of_lt (x.above y c (PySem.mem_of_lookup h)))
 ·unfold start
  show _=N.length
  rw[List.length_append,List.length_map,List.length_replicate]
  omega
theorem zcg {CX:CXT}{P:Program}{w:World}{K:PySem.W.Frag}{mg:Str->Option Value}{base:Heap}{k:Nat}{f:Addr}{name qual:Str}{params:Arguments}{body:List Stmt}{scope:Scope}{dV kV doc pm cdv ct oc:Value}{an od:Option Addr}
  {osl:Array (Option Value)} {N ps:List Str} {sp:Sp} (lk:K.lookup f=some ⟨oc,od,.func (PySem.W.fnOf name qual params body scope dV kV doc pm an cdv ct),osl⟩) (hcd:PySem.W.codeIn K cdv qual=true) (S:qO N ps scope)
  (len:∀ vs H Q E,sp vs H Q E->vs.length=ps.length)
  (hbody:∀ (A:Around) (outer:List Env) (s:Shared) (H:Hp) (vs:List V) (Q:VK) (E:XK),Room k (A.deeper (envOfC qual scope s.heap.objs.size f cdv))->sp vs H Q E ->
   ∃ t,PSs (Zh CX P w K mg base N qual scope f cdv A outer s H E) body t/\t { nx:=fun _ H'=>Q .non H',rt:=Q } (start N vs) H) :
  FnOk P w K mg base CX (k+1) f (PySem.W.fnOf name qual params body scope dV kV doc pm an cdv ct) ps sp:=by
 refine⟨len,fun A outer s H args us vs Q E hr e0 hb r hsp=>?_⟩
 have hl:=len _ _ _ _ hsp
 have KX:K.In s.heap:=e0.mod.kin.keeps fun b o e=>(e0.bs b o e).1
 have lim:s.heap.NoLimit:=e0.mod.nolimit.keeps fun b o e=>(e0.bs b o e).1
 have hkind:∀ y∈ps.zip us,scope.names.lookup y.1=some .local∨(scope.names.lookup y.1=some .cell/\((cellsFrom (s.heap.objs.size+1) scope.names []).lookup y.1).isSome=true):=fun ⟨n,v⟩ hy=>by
  rcases S.par n (List.of_mem_zip hy).1 with q | q
  ·exact .inl q
  ·exact .inr ⟨q,PySem.W.cellsFrom_some _ _ _ (.inl q)⟩
 refine codeAny_call_function hr.depth (KX _ _ lk) rfl S.co S.gen rfl (PySem.W.codeRec_of KX hcd) (hb _ _ _ _ ?_)
 refine wpAny_newFunctionEnv_cells S.kind hkind fun env he s1 x=>?_
 subst he
 refine⟨lim.keeps x.toInCall.keep,codeAny_func ?_⟩
 obtain⟨t,ht,hq⟩:=hbody A outer s H vs Q E (hr.deeper _) hsp
 have I:Inv (Zh CX P w K mg base N qual scope f cdv A outer s H E) [] (start N vs) H s1:=yX S hr.hd e0 hl r x
 refine wpAny_mono (ht [] s1 (start N vs) H _ I hq) (fun fl s' hs=>?_) fun e s' hs=>hs
 have fin:∀ {σ':St} {H':Hp} {v:V} {u:Value},Inv (Zh CX P w K mg base N qual scope f cdv A outer s H E) [] σ' H' s'->RelV v u->Q v H'->CE outer P w H s Q u s' :=
  fun {σ' H' v u} J rv q=>⟨v,H',J.os,J.bare,J.base,J.hok,rv,q⟩
 cases fl with
 | ret u=>
  obtain⟨v,σ',H',J,rv,q⟩:=hs
  exact fin J rv q
 | next=>
  obtain⟨σ',H',J,q⟩:=hs
  exact fin (v:=V.non) (u:=Value.none) J rfl q
 | brk=>
  obtain⟨_,_,_,q⟩:=hs
  exact False.elim q
 | cont=>
  obtain⟨_,_,_,q⟩:=hs
  exact False.elim q
end L2
namespace L2
open PySem PySem.Spec PyProof.Rows
section
variable {X:Cx} {x:Str} {p pos:Pos} {e:Expr} {es:List Expr} {t:TA} {id T:String} {r:List V->Hp->VK->Prop}
noncomputable def tCB (r:List V->Hp->VK->Prop) (t:TA):TE:=fun σ H Q=>t σ H fun vs H1=>r vs H1 Q
theorem ZC (hc:qB X (.builtin id) r) (hg:Gl X x) (hm:X.mg x=none) (hv:bootBuiltins x=some (.builtin id)) (ha:PA X (e::es) t) (hn:x≠ "__name__" :=by decide) (hdb:(x==("__debug__" :Str))=false:=by decide)
    (he:starEach (e::es) X.env=(false,eval e X.env)::starEach es X.env:=by rfl) (hpl:(backTo pos (starEach es X.env)).any (·.1)=false:=by rfl):PE X (.Call (.Name x p) (e::es) [] pos) (tCB r t):=by
  intro pins s σ H Q I h
  refine wpAny_Call_Name_kw (Zl I hg hm hv ?_ hn hdb)
  exact PyProof.Rows.callWith_builtin1 (thn (ha pos pins s σ H _ I h) fun us s1 ⟨vs,H1,I1,r1,q1⟩=>hc pins s1 σ H1 vs us Q I1 r1 q1) he hpl
theorem qz (hc:qB X (.type T) r) (hg:Gl X x) (hm:X.mg x=none) (hv:bootBuiltins x=some (.type T)) (ha:PA X (e::es) t) (hn:x≠ "__name__" :=by decide) (hdb:(x==("__debug__" :Str))=false:=by decide)
    (he:starEach (e::es) X.env=(false,eval e X.env)::starEach es X.env:=by rfl) (hpl:(backTo pos (starEach es X.env)).any (·.1)=false:=by rfl):PE X (.Call (.Name x p) (e::es) [] pos) (tCB r t):=by
  intro pins s σ H Q I h
  refine wpAny_Call_Name_kw (Zl I hg hm hv ?_ hn hdb)
  exact PyProof.Rows.callWith_type1 (thn (ha pos pins s σ H _ I h) fun us s1 ⟨vs,H1,I1,r1,q1⟩=>hc pins s1 σ H1 vs us Q I1 r1 q1) he hpl
end
end L2
namespace HT
open PySem PyProof.Rows
section
open PySem.SeqAt
open PySem.AutoSeq1 (wpAny_loadPart')
open PySem.MeetsSeq PySem.MeetsSeq2 PySem.MeetsSeq3
end
section
variable {prog:Program} {w:World} {A:Around} {E:Value->Shared->Prop} {s:Shared}
theorem cat_tup {t b:Addr}{vs ws:List Value}{Q:Value->Shared->Prop}(ht:IsTup s.heap t vs.toArray) (hb:IsTup s.heap b ws.toArray) (hv:vs≠ [])
  (h1:ws= []->Q (.ref t) s) (h2:ws≠ []->Q (.ref s.heap.objs.size) { s with heap:=s.heap.push { cls:=.type "tuple",data:=.seq (vs++ws).toArray } })
  (hsz:vs.length+ws.length<=sizeLine):wpAny (model prog w) A (binaryOp .Add (.ref t) (.ref b)) Q E s:=by
 obtain⟨⟨cls,dd,data,sl⟩,ho,hc,n,hd⟩:=id ht
 obtain⟨⟨cls2,dd2,data2,sl2⟩,ho2,hc2,n2,hd2⟩:=id hb
 simp only at hc hd hc2 hd2
 subst hc hd hc2 hd2
 have e:vs.toArray++ws.toArray=(vs++ws).toArray:=by simp
 by_cases hw:ws= []
 ·exact concat_meets ⟨_,ho,rfl⟩ ⟨_,ho2,rfl⟩ noFill_tuple_add seq_tuple_add PySem.F.slot_tuple_add PySem.F.entry_tuple_add (PySem.F.args_tuple_add_2 _ _)
   (tuple_addW1 t b vs.toArray ws.toArray n n2 dd dd2 sl sl2 (by simpa using hv) (by simp[hw])) ⟨ho,ho2,h1 hw⟩
 ·refine concat_meets ⟨_,ho,rfl⟩ ⟨_,ho2,rfl⟩ noFill_tuple_add seq_tuple_add PySem.F.slot_tuple_add PySem.F.entry_tuple_add (PySem.F.args_tuple_add_2 _ _)
   (tuple_addW2 t b vs.toArray ws.toArray n n2 dd dd2 sl sl2 (by simpa using hv) (by simpa using hw) (by rw[List.size_toArray,List.size_toArray]; exact hsz)) ⟨ho,ho2,?_⟩
  rw[e]
  exact h2 hw
noncomputable def sIx (n d:Nat):Option Int->Nat
 | none=>d
 | some v=>if v<0 then (v+(n:Int)).toNat else min v.toNat n
theorem zdw (n d:Nat) (hd:d<=n) (o:Option Int):sIx n d o<=n:=by
 cases o with
 | none=>exact hd
 | some v=>
  show (if v<0 then (v+(n:Int)).toNat else min v.toNat n)<=n
  by_cases hv:v<0
  ·rw[if_pos hv]; omega
  ·rw[if_neg hv]; exact Nat.min_le_right _ _
theorem V2 (v:Int) (n d:Nat):(if v<0 then max (v+(n:Int)) 0 else min v (n:Int))=((sIx n d (some v):Nat):Int):=by
 show (if v<0 then max (v+(n:Int)) 0 else min v (n:Int))=(((if v<0 then (v+(n:Int)).toNat else min v.toNat n):Nat):Int)
 by_cases hv:v<0
 ·simp only[if_pos hv]; omega
 ·simp only[if_neg hv]; omega
theorem vZ (lo hi:Option Int) (n:Nat):Builtin.Slice.sliceAdjust lo hi 1 (n:Int)=(((sIx n 0 lo:Nat):Int),((sIx n n hi:Nat):Int)):=by
 have h1:¬ ((1:Int)<0):=by omega
 unfold Builtin.Slice.sliceAdjust
 simp only[h1,if_false]
 refine Prod.ext ?_ ?_
 ·cases lo with
  | none=>rfl
  | some v=>exact V2 v n 0
 ·cases hi with
  | none=>rfl
  | some v=>exact V2 v n n
theorem Vt (i j:Nat):Builtin.Slice.slicePlaces (i:Int) (j:Int) 1=j-i:=by
 unfold Builtin.Slice.slicePlaces
 have h1:(1:Int)>0:=by omega
 simp only[h1,if_true,Int.ediv_one]
 split <;> omega
theorem JP {v:Value}{o:Option Int}{Q:Option Int->Shared->Prop}(p:IsPart v o) (h:Q o s):wpAny (model prog w) A (Builtin.Slice.slicePartIndex v) Q E s:=by
 cases p with
 | none=>exact slicePart_none h
 | int i t=>exact slicePart_int h
theorem QD {sl:Addr}{vl vu:Value}{lo hi:Option Int}{n:Nat}{Q:Int×Int×Nat->Shared->Prop}(hs:s.heap.IsSliceOf sl vl vu .none) (pl:IsPart vl lo) (pu:IsPart vu hi)
  (h:Q (((sIx n 0 lo:Nat):Int),1,sIx n n hi-sIx n 0 lo) s):wpAny (model prog w) A (Builtin.Slice.sliceApplied (.ref sl) (pure (n:Int))) Q E s:=by
 obtain⟨os,hos,hcs,hds⟩:=id hs
 unfold Builtin.Slice.sliceApplied Builtin.Slice.sliceFields
 refine wpAny_bind (wpAny_bind (wpAny_field hos hds (x:=vl) rfl (wpAny_bind (wpAny_field hos hds (x:=vu) rfl (wpAny_bind (wpAny_field hos hds (x:=.none) rfl (wpAny_pure ?_)))))))
 refine wpAny_bind (slicePart_none ?_)
 show wpAny _ _ (if ((1:Int)==0)=true then _ else _) _ _ s
 rw[if_neg (by decide)]
 refine wpAny_bind (JP pl (wpAny_bind (JP pu (wpAny_bind (wpAny_pure ?_)))))
 show wpAny _ _ (match Builtin.Slice.sliceAdjust lo hi 1 (n:Int) with | (lo,hi)=>pure (lo,(1:Int),Builtin.Slice.slicePlaces lo hi 1)) _ _ s
 rw[vZ lo hi n]
 show wpAny _ _ (pure (((sIx n 0 lo:Nat):Int),(1:Int),Builtin.Slice.slicePlaces ((sIx n 0 lo:Nat):Int) ((sIx n n hi:Nat):Int) 1)) _ _ s
 rw[Vt]
 exact wpAny_pure h
theorem Kb (xs:Array Value) (i k:Nat):((List.range k).filterMap fun (m:Nat)=>xs[((i:Int)+(m:Int)*1).toNat]?).toArray=((xs.toList.drop i).take k).toArray:=by
 have e:(fun (m:Nat)=>xs[((i:Int)+(m:Int)*1).toNat]?)=fun m=>xs[i+m]?:=by
  funext m
  have:((i:Int)+(m:Int)*1).toNat=i+m:=by omega
  rw[this]
 rw[e]
 have:=pick_run xs i k
 rw[List.filterMap_map] at this
 have e2:((fun x=>xs[x]?)∘fun x=>i+x)=fun m=>xs[i+m]?:=rfl
 rw[e2] at this
 rw[this]
theorem getItem_tuple_cut {t sl:Addr}{items:Array Value}{vl vu:Value}{lo hi:Option Int}{Q:Value->Shared->Prop}(ht:IsTup s.heap t items) (hs:s.heap.IsSliceOf sl vl vu .none) (pl:IsPart vl lo) (pu:IsPart vu hi)
  (hw:¬ (sIx items.size 0 lo=0/\sIx items.size items.size hi=items.size))
  (h:Q (.ref s.heap.objs.size) { s with heap:=s.heap.push { cls:=.type "tuple",data:=.seq ((items.toList.drop (sIx items.size 0 lo)).take (sIx items.size items.size hi-sIx items.size 0 lo)).toArray } })
  (hsz:items.size<=sizeLine):wpAny (model prog w) A (getItem (.ref t) (.ref sl)) Q E s:=by
 have htake:sizeOk (.seq ((items.toList.drop (sIx items.size 0 lo)).take (sIx items.size items.size hi-sIx items.size 0 lo)).toArray):=by
  show ((items.toList.drop (sIx items.size 0 lo)).take (sIx items.size items.size hi-sIx items.size 0 lo)).toArray.size<=sizeLine
  rw[List.size_toArray,List.length_take,List.length_drop,Array.length_toList]
  omega
 have hj:sIx items.size items.size hi<=items.size:=zdw _ _ (Nat.le_refl _) hi
 obtain⟨os,hos,hcs,hds⟩:=id hs
 have hTs:s.TypeIs (.ref sl) "slice" :=⟨os,hos,hcs⟩
 unfold getItem
 try with_reducible refine wpAny_holding ?_
 first | refine wpAny_bind (wpAny_pure ?_) | skip
 refine wpAny_bind (wpAny_sequenceKey ht.typeIs (by decide) ?_)
 refine wpAny_bind (wpAny_callSpecial?_slot (name:=Str.ofString "__getitem__") ht.typeIs PyProof.Rows.slot_tuple_getitem
  (wpAny_call_entry PyProof.Rows.slot_tuple_getitem ht.typeIs entry_tuple_getitem ?_ (args_tuple_getitem _ _)))
 show wpAny _ _ (Builtin.Tuple.tupleItemsOf (.ref t) >>= _) _ _ s
 refine wpAny_bind (tupleItemsOf_ ht ?_)
 refine wpAny_bind (wpAny_typeOf hTs ?_)
 rw[if_pos (by decide)]
 refine wpAny_bind (QD hs pl pu ?_)
 have hno:¬ ((((sIx items.size 0 lo:Nat):Int)==0&&(1:Int)==1&&(sIx items.size items.size hi-sIx items.size 0 lo)==items.size)=true):=by
  intro q
  rw[Bool.and_eq_true,Bool.and_eq_true] at q
  have q1:((sIx items.size 0 lo:Nat):Int)=0:=eq_of_beq q.1.1
  have q2:sIx items.size items.size hi-sIx items.size 0 lo=items.size:=eq_of_beq q.2
  exact hw ⟨by omega,by omega⟩
 show wpAny _ _ (if (((sIx items.size 0 lo:Nat):Int)==0&&(1:Int)==1&&(sIx items.size items.size hi-sIx items.size 0 lo)==items.size)=true then _ else _) _ _ s
 rw[if_neg hno,Kb]
 first
  | exact wpAny_bind (m:=Builtin.Tuple.tupleExact _) (wpAny_newObj_type (wpAny_pure ⟨_,rfl,wpAny_pure h⟩) htake)
  | exact wpAny_bind (m:=Builtin.Tuple.tupleExact _) (wpAny_newObj_type (wpAny_bind (wpAny_pure (wpAny_pure ⟨_,rfl,wpAny_pure h⟩))) htake)
  | exact wpAny_bind (wpAny_bind (m:=Builtin.Tuple.tupleExact _) (wpAny_newObj_type (wpAny_pure (wpAny_pure ⟨_,rfl,wpAny_pure h⟩)) htake))
  | exact wpAny_bind (wpAny_bind (m:=Builtin.Tuple.tupleExact _) (wpAny_newObj_type (wpAny_pure ⟨_,rfl,wpAny_pure h⟩) htake))
end
end HT
namespace L2
open PySem PySem.Spec PyProof.Rows
noncomputable abbrev TO:=St->Hp->(Option Int->Hp->Prop)->Prop
noncomputable def PO (X:Cx) (e:Option Expr) (t:TO):Prop :=
 ∀ (pins:List (Addr×Obj)) (s:Shared) (σ:St) (H:Hp) (Q:Option Int->Hp->Prop),Inv X pins σ H s->t σ H Q ->
  wpAny (model X.prog X.w) X.A (evalPart e X.env) (fun u s'=>∃ o H',Inv X pins σ H' s'/\IsPart u o/\Q o H') X.xe s
noncomputable def zbO:TO:=fun _ H Q=>Q none H
noncomputable def zfd (t:TE):TO:=fun σ H Q=>t σ H fun x H1=>∃ i,x=.int i/\Q (some i) H1
section
variable {X:Cx} {e:Expr} {te:TE} {lo hi:Option Expr} {tl th:TO} {pos p2:Pos}
theorem Wz:PO X none zbO:=by
 intro pins s σ H Q I h
 rw[evalPart_none]
 exact wpAny_pure ⟨none,H,I,.none,h⟩
theorem WA (h:PE X e te):PO X (some e) (zfd te):=by
 intro pins s σ H Q I hw
 rw[evalPart_some]
 refine thn (h pins s σ H _ I hw) fun u s1 ⟨x,H1,I1,r1,q1⟩=>?_
 obtain⟨i,rfl,q⟩:=q1
 obtain⟨t,rfl⟩:=r1
 exact⟨some i,H1,I1,.int i t,q⟩
noncomputable def SlR (X:Cx) (r:V->Option Int->Option Int->Hp->VK->Prop):Prop :=
 ∀ (pins:List (Addr×Obj)) (s:Shared) (σ:St) (H:Hp) (x:V) (v vl vu:Value) (lo hi:Option Int) (sl:Addr) (Q:VK),Inv X pins σ H s->RelV x v->s.heap.IsSliceOf sl vl vu .none->IsPart vl lo->IsPart vu hi->r x lo hi H Q ->
  ∃ T id,typeLookup (.type T) "__getitem__" =pure (some (.builtin id))/\s.TypeIs v T/\wpAny (model X.prog X.w) X.A (getItem v (.ref sl)) (EP X pins σ Q) X.xe s
noncomputable def tSl (r:V->Option Int->Option Int->Hp->VK->Prop) (te:TE) (tl th:TO):TE:=fun σ H Q=>te σ H fun x H1=>tl σ H1 fun l H2=>th σ H2 fun u H3=>r x l u H3 Q
theorem ZD {r:V->Option Int->Option Int->Hp->VK->Prop}(hr:SlR X r) (he:PE X e te) (hl:PO X lo tl) (hu:PO X hi th):PE X (.Subscript e (.Slice lo hi none p2) pos) (tSl r te tl th):=by
 intro pins s σ H Q I h
 refine Subscript_ (thn (he pins s σ H _ I h) fun v s1 ⟨x,H1,I1,r1,q1⟩=>?_)
 refine wpAny_Slice (thn (hl pins s1 σ H1 _ I1 q1) fun vl s2 ⟨l,H2,I2,pl,q2⟩=>thn (hu pins s2 σ H2 _ I2 q2) fun vu s3 ⟨u,H3,I3,pu,q3⟩=>?_)
 rw[evalPart_none]
 refine wpAny_pure ?_
 have I4:Inv X pins σ H3 { s3 with heap:=s3.heap.push { cls:=.type "slice",data:=.fields #[vl,vu,.none] } }:=I3.kept (t':=s3.toks) fun b ob q=>Heap.get?_push_of_some _ q
 obtain⟨T,id,hT,ht,hg⟩:=hr pins { s3 with heap:=s3.heap.push { cls:=.type "slice",data:=.fields #[vl,vu,.none] } } σ H3 x v vl vu l u s3.heap.objs.size Q I4 r1 (Heap.IsSliceOf.new ..) pl pu q3
 show wpAny (model X.prog X.w) X.A (subscriptTail e (.Slice lo hi none p2) v (.ref s3.heap.objs.size)) (EP X pins σ Q) X.xe { s3 with heap:=s3.heap.push { cls:=.type "slice",data:=.fields #[vl,vu,.none] } }
 exact tail_any (ops:= [.ref s3.heap.objs.size,v]) ht hT hg (by with_unfolding_all rfl)
noncomputable def Zg (xs:List V) (lo hi:Option Int):List V:=(xs.drop (HT.sIx xs.length 0 lo)).take (HT.sIx xs.length xs.length hi-HT.sIx xs.length 0 lo)
theorem QW (xs:List V) (lo hi:Option Int):(Zg xs lo hi).length<=xs.length:=by
 unfold Zg
 rw[List.length_take,List.length_drop]
 omega
noncomputable def rSlT (K:PySem.W.Frag):V->Option Int->Option Int->Hp->VK->Prop:=fun x lo hi H Q=>∃ a xs,x=.ref a/\SqT K H a xs /\
 ¬ (HT.sIx xs.length 0 lo=0/\HT.sIx xs.length xs.length hi=xs.length)/\∀ p,H p=none->Q (.ref p) (upd H p (.tup (Zg xs lo hi)))
theorem zdR:SlR X (rSlT X.K):=by
 intro pins s σ H x v vl vu lo hi sl Q I rx hs pl pu h
 obtain⟨a,xs,rfl,hx,hw,q⟩:=h
 cases rx
 obtain⟨its,r,ht,hz⟩:=I.tuple hx
 have hlen:its.toArray.size=xs.length:=by rw[List.size_toArray]; exact r.length.symm
 refine⟨"tuple",_,PyProof.Rows.slot_tuple_getitem.lookup,ht.typeIs,?_⟩
 refine HT.getItem_tuple_cut ht hs pl pu (by rw[hlen]; exact hw) ?_ (by rw[hlen]; exact hz)
 rw[hlen]
 refine⟨.ref s.heap.objs.size,_,I.laid (t':=s.toks) (o:=.tup (Zg xs lo hi)) (fun b ob q=>Heap.get?_push_of_some _ q) (Nat.le_refl _) ?_,rfl,q _ (I.hok.fresh (Nat.le_refl _))⟩
 exact⟨Nat.le_trans (QW xs lo hi) hz,_,(r.drop (HT.sIx xs.length 0 lo)).take (HT.sIx xs.length xs.length hi-HT.sIx xs.length 0 lo),IsTup.new _ _⟩
theorem Vals.nil_iff {xs:List V}{us:List Value}(r:Vals xs us):us= []↔xs= []:=by
 cases r with
 | nil=>simp
 | cons _ _=>simp
end
end L2
namespace L2
open PySem PySem.Spec PyProof.Rows
noncomputable def ixN (n:Nat) (i:Int):Option Nat:=if 0<=i then (if i<n then some i.toNat else none) else if -(n:Int)<=i then some (i+n).toNat else none
noncomputable def atI {α:Type}(xs:List α) (i:Int):Option α:=(ixN xs.length i).bind fun j=>xs[j]?
theorem V9 {n:Nat}{i:Int}{j:Nat}(h:ixN n i=some j):seqIndex? i n=some j/\j<n/\ -(n:Int)<=i/\i<n:=by
 unfold ixN at h
 by_cases h0:0<=i
 ·rw[if_pos h0] at h
  by_cases h1:i<n
  ·rw[if_pos h1] at h
   have e:i.toNat=j:=Option.some.inj h
   exact⟨by rw[seqIndex_of h0 h1,e],by omega,by omega,h1⟩
  ·rw[if_neg h1] at h; cases h
 ·rw[if_neg h0] at h
  by_cases h1: -(n:Int)<=i
  ·rw[if_pos h1] at h
   have e:(i+n).toNat=j:=Option.some.inj h
   exact⟨by rw[seqIndex_neg (by omega) h1,e],by omega,h1,by omega⟩
  ·rw[if_neg h1] at h; cases h
theorem V0 {α:Type}{xs:List α}{i:Int}{v:α}(h:atI xs i=some v):∃ j,seqIndex? i xs.length=some j/\xs[j]?=some v/\j<xs.length/\ -(xs.length:Int)<=i/\i<xs.length:=by
 unfold atI at h
 cases e:ixN xs.length i with
 | none=>rw[e] at h; cases h
 | some j=>
  rw[e] at h
  obtain⟨h1,h2,h3,h4⟩:=V9 e
  exact⟨j,h1,h,h2,h3,h4⟩
theorem Wa {α:Type}{xs:List α}{j:Nat}{v:α}(h:xs[j]?=some v):atI xs (j:Int)=some v:=by
 have hj:j<xs.length:=(List.getElem?_eq_some_iff.mp h).1
 have e:ixN xs.length (j:Int)=some j:=by
  unfold ixN
  rw[if_pos (by omega),if_pos (by omega)]; simp
 unfold atI; rw[e]; exact h
noncomputable def w6 (b:Expr):Prop:=∀ o i,subscripted b false o i=operate [o,i] (getItem o i)
noncomputable def IxR (X:Cx) (r:R2):Prop :=
 ∀ (value slice:Expr) (pins:List (Addr×Obj)) (s:Shared) (σ:St) (H:Hp) (x y:V) (v u:Value) (Q:VK),Inv X pins σ H s->RelV x v->RelV y u->r x y H Q ->
  subscripted slice false v u=operate [v,u] (getItem v u)->wpAny (model X.prog X.w) X.A (subscriptTail value slice v u) (EP X pins σ Q) X.xe s
noncomputable def MtR (X:Cx) (id:String) (r:V->List V->Hp->VK->Prop):Prop :=
 ∀ (pins:List (Addr×Obj)) (s:Shared) (σ:St) (H:Hp) (x:V) (xs:List V) (v:Value) (us:List Value) (Q:VK),Inv X pins σ H s->RelV x v->Vals xs us->r x xs H Q ->
  wpAny (model X.prog X.w) X.A (call (.builtin id) (v::us)) (EP X pins σ Q) X.xe s
section
variable {X:Cx} {a b:Expr} {ta tb:TE} {pos:Pos}
theorem IxR.or {r r':R2}(h:IxR X r) (h':IxR X r'):IxR X (fun x y H Q=>r x y H Q∨r' x y H Q):=by
 intro value slice pins s σ H x y v u Q I rx ry q hs
 rcases q with q | q
 ·exact h value slice pins s σ H x y v u Q I rx ry q hs
 ·exact h' value slice pins s σ H x y v u Q I rx ry q hs
theorem yb {r:R2}(hr:IxR X r) (ha:PE X a ta) (hb:PE X b tb) (hs:w6 b):PE X (.Subscript a b pos) (tOp r ta tb):=by
 intro pins s σ H Q I h
 exact Subscript_ (zcA ha hb I h fun v u s2 x y H2 I2 rx ry q=>hr a b pins s2 σ H2 x y v u Q I2 rx ry q (hs _ _))
noncomputable def rIxL (K:PySem.W.Frag):R2:=fun x y H Q=>∃ p xs i v,x=.ref p/\y=.int i/\SqL K H p xs/\atI xs i=some v/\Q v H
noncomputable def rIxT (K:PySem.W.Frag):R2:=fun x y H Q=>∃ p xs i v,x=.ref p/\y=.int i/\SqT K H p xs/\atI xs i=some v/\Q v H
theorem ix_list:IxR X (rIxL X.K):=by
 intro value slice pins s σ H x y v u Q I rx ry h hs
 obtain⟨p,xs,i,z,rfl,rfl,hq,he,q⟩:=h
 cases rx
 obtain⟨t,rfl⟩:=ry
 obtain⟨its,r,pl,hz⟩:=I.list hq
 obtain⟨j,h1,h2,h3,h4,h5⟩:=V0 he
 obtain⟨w,ew,rw'⟩:=r.get h2
 have hl:=r.length
 have hn:=Jx
 have fin:EP X pins σ Q w s:=⟨z,H,I,rw',q⟩
 by_cases h0:0<=i
 ·have hj:i.toNat=j:=by
   rw[seqIndex_of h0 h5] at h1
   exact Option.some.inj h1
  exact item_listR pl.isList h0 (by omega) (by rw[hj]; simpa using ew) fin hs
 ·have hj:(i+(its.toArray.size:Int)).toNat=j:=by
   rw[seqIndex_neg (by omega) h4] at h1
   rw[List.size_toArray,<- hl]
   exact Option.some.inj h1
  exact subscriptTail_builtinR (x:=w) pl.isList.typeIs slot_list_getitem.lookup
   (wpAny_getItem_list_neg (Q:=fun r s'=>r=w/\EP X pins σ Q r s') pl.isList (by omega) (by rw[List.size_toArray] <;> omega) (by omega) (by rw[hj]; simpa using ew) ⟨rfl,fin⟩) hs
theorem Wt:IxR X (rIxT X.K):=by
 intro value slice pins s σ H x y v u Q I rx ry h hs
 obtain⟨p,xs,i,z,rfl,rfl,hq,he,q⟩:=h
 cases rx
 obtain⟨t,rfl⟩:=ry
 obtain⟨its,r,pl,hz⟩:=I.tuple hq
 obtain⟨j,h1,h2,h3,h4,h5⟩:=V0 he
 obtain⟨w,ew,rw'⟩:=r.get h2
 have hl:=r.length
 have hn:=Jx
 have fin:EP X pins σ Q w s:=⟨z,H,I,rw',q⟩
 exact subscriptTail_builtinR (x:=w) pl.typeIs slot_tuple_getitem.lookup
  (getItem_tuple (j:=j) (Q:=fun r s'=>r=w/\EP X pins σ Q r s') pl (by omega) (by omega) (by rw[List.size_toArray,<- hl]; exact h1) (by simpa using ew) ⟨rfl,fin⟩) hs
theorem Vo (its:List Value) (n j:Nat) (u:Value):Obj.mapSeq (·.setIfInBounds j u) { cls:=.type "list",data:=.seq its.toArray n }={ cls:=.type "list",data:=.seq (its.set j u).toArray n }:=by
 simp[Obj.mapSeq]
theorem Inv.lst {pins:List (Addr×Obj)}{σ:St}{H:Hp}{s:Shared}{p:Addr}{xs:List V}(I:Inv X pins σ H s) (h:H p=some (.lst xs)) :
  ∃ (its:List Value) (n:Nat),Vals xs its/\s.heap.get? p=some { cls:=.type "list",data:=.seq its.toArray n }/\xs.length<=sizeLine:=by
 obtain⟨z,its,n,r,e⟩:=I.hok p _ h
 exact⟨its,n,r,e,z⟩
theorem Inv.lstUpd {pins:List (Addr×Obj)}{σ:St}{H:Hp}{s:Shared}{p:Addr}{xs ys:List V}{its its':List Value}{n n':Nat}{f:Obj->Obj}(I:Inv X pins σ H s) (h:H p=some (.lst xs))
  (ho:s.heap.get? p=some { cls:=.type "list",data:=.seq its.toArray n }) (hf:f { cls:=.type "list",data:=.seq its.toArray n }={ cls:=.type "list",data:=.seq its'.toArray n' }) (r:Vals ys its') (hz:ys.length<=sizeLine) (t:Nat) :
  Inv X pins σ (upd H p (.lst ys)) { s with heap:=s.heap.update p f,toks:=t }:=by
 have e:(s.heap.update p f).get? p=some { cls:=.type "list",data:=.seq its'.toArray n' }:=by
  rw[Heap.get?_update_self f ho (by rw[hf] <;> rfl),hf]
 refine I.write (x:=p) (e:=p) (by rw[h]; trivial) (.inl rfl) (fun b u hb q=>(Heap.get?_update_other _ _ (Ne.symm hb)).trans q) ⟨_,e⟩ ?_
 exact⟨hz,its',n',r,e⟩
noncomputable def zeV:V->V->V->Hp->(Hp->Prop)->Prop:=fun o i v H Q=>∃ p xs k j,o=.ref p/\i=.int k/\H p=some (.lst xs)/\ixN xs.length k=some j/\Q (upd H p (.lst (xs.set j v)))
theorem Kz:zcx X zeV:=by
 intro pins s σ H o i v ov iv u Q I ro ri rv h
 obtain⟨p,xs,k,j,rfl,rfl,hp,hj,q⟩:=h
 cases ro
 obtain⟨t,rfl⟩:=ri
 obtain⟨its,n,r,ho,hz⟩:=I.lst hp
 obtain⟨h1,h2,h3,h4⟩:=V9 hj
 have hl:=r.length
 have hn:=Jx
 have I':Inv X pins σ (upd H p (.lst (xs.set j v))) { s with heap:=s.heap.update p (Obj.mapSeq (·.setIfInBounds j u)) } :=
  I.lstUpd hp ho (Vo its n j u) (r.set rv j) (by rw[List.length_set]; exact hz) s.toks
 by_cases h0:0<=k
 ·have hk:k.toNat=j:=by
   rw[seqIndex_of h0 h4] at h1
   exact Option.some.inj h1
  exact PySem.W.ki_setAt ho h0 (by omega) (by rw[List.size_toArray,<- hl]; exact h4) (by rw[hk]; exact⟨_,I',q⟩)
 ·have hk:(k+(its.toArray.size:Int)).toNat=j:=by
   rw[seqIndex_neg (by omega) h3] at h1
   rw[List.size_toArray,<- hl]
   exact Option.some.inj h1
  exact PySem.W.ki_setBack ho (by omega) (by rw[List.size_toArray,<- hl]; exact h3) (by omega) (by rw[hk]; exact⟨_,I',q⟩)
theorem WD (lo hi:Option Int) (n:Nat):(sliceBounds lo hi none n).1=((HT.sIx n 0 lo:Nat):Int)/\(sliceBounds lo hi none n).2.1=((HT.sIx n n hi:Nat):Int)/\(sliceBounds lo hi none n).2.2=1:=by
 refine⟨?_,?_,rfl⟩
 ·cases lo with
  | none=>simp[sliceBounds,HT.sIx]
  | some i=>
   simp only[sliceBounds,HT.sIx,Option.getD_none,show (1:Int)>0 by decide,if_true]
   by_cases h:i<0
   ·simp only[h,if_true] <;> omega
   ·simp only[h,if_false] <;> omega
 ·cases hi with
  | none=>simp[sliceBounds,HT.sIx]
  | some i=>
   simp only[sliceBounds,HT.sIx,Option.getD_none,show (1:Int)>0 by decide,if_true]
   by_cases h:i<0
   ·simp only[h,if_true] <;> omega
   ·simp only[h,if_false] <;> omega
theorem J5 (its:List Value) (lo hi:Option Int):slicePick its.toArray lo hi none=((its.drop (HT.sIx its.length 0 lo)).take (HT.sIx its.length its.length hi-HT.sIx its.length 0 lo)).toArray:=by
 obtain⟨h1,h2,h3⟩:=WD lo hi its.toArray.size
 unfold slicePick
 rw[h1,h2,h3]
 simp only[sliceRange_one,pick_run,List.size_toArray] <;> rfl
noncomputable def rSlL (K:PySem.W.Frag):V->Option Int->Option Int->Hp->VK->Prop:=fun x lo hi H Q=>∃ a xs,x=.ref a/\SqL K H a xs/\∀ p,H p=none->Q (.ref p) (upd H p (.lst (Zg xs lo hi)))
theorem WC:SlR X (rSlL X.K):=by
 intro pins s σ H x v vl vu lo hi sl Q I rx hs pl pu h
 obtain⟨a,xs,rfl,hx,q⟩:=h
 cases rx
 obtain⟨its,r,ht,hz⟩:=I.list hx
 have hlen:=r.length
 refine⟨"list",_,slot_list_getitem.lookup,ht.isList.typeIs,?_⟩
 refine wpAny_getItem_list_slice ht.isList hs pl pu .none (by simp) ?_ (by rw[List.size_toArray] <;> omega)
 rw[J5,<- hlen]
 refine⟨.ref s.heap.objs.size,_,I.laid (t':=s.toks) (o:=.lst (Zg xs lo hi)) (fun b ob q=>Heap.get?_push_of_some _ q) (Nat.le_refl _) ?_,rfl,q _ (I.hok.fresh (Nat.le_refl _))⟩
 exact⟨Nat.le_trans (QW xs lo hi) hz,_,0,(r.drop (HT.sIx xs.length 0 lo)).take (HT.sIx xs.length xs.length hi-HT.sIx xs.length 0 lo),Heap.get?_push_size _ rfl⟩
theorem Zw:qB X (.builtin "len") (fun xs H Q=>∃ p ys,xs= [.ref p]/\(SqL X.K H p ys∨SqT X.K H p ys)/\Q (.int ys.length) H):=by
 intro pins s σ H xs us Q I r h
 obtain⟨p,ys,rfl,hq,q⟩:=h
 obtain⟨u,rfl,rx⟩:=jz r
 cases rx
 have hn:=Jx
 rcases hq with hq | hq
 ·obtain⟨its,r',pl,hz⟩:=I.list hq
  have hlen:=r'.length
  exact Calls.call_len_list pl.isList (by simp only[List.size_toArray] <;> omega) ⟨.int ys.length,H,I.tok _,⟨s.toks+1,by rw[List.size_toArray,hlen]⟩,q⟩
 ·obtain⟨its,r',pl,hz⟩:=I.tuple hq
  have hlen:=r'.length
  exact len_tuple pl (by simp only[List.size_toArray] <;> omega) ⟨.int ys.length,H,I.tok _,⟨s.toks+1,by rw[List.size_toArray,hlen]⟩,q⟩
theorem Zx:qB X (.type "list") (fun xs H Q=>∃ p ys,xs= [.ref p]/\(SqL X.K H p ys∨SqT X.K H p ys)/\∀ l,H l=none->Q (.ref l) (upd H l (.lst ys))):=by
 intro pins s σ H xs us Q I r h
 obtain⟨p,ys,rfl,hq,q⟩:=h
 obtain⟨u,rfl,rx⟩:=jz r
 cases rx
 have fin:∀ (its:List Value),Vals ys its->ys.length<=sizeLine->∀ (h':Heap) (c':Nat),(∀ b o',s.heap.get? b=some o'->h'.get? b=some o') ->
   h'.get? s.heap.objs.size=some { cls:=.type "list",dict:=none,data:=.seq its.toArray c',slots:=#[] }->EP X pins σ Q (.ref s.heap.objs.size) { s with heap:=h' }:=fun its r' hz h' c' kp e=>
  ⟨.ref s.heap.objs.size,_,I.laid (t':=s.toks) kp (Nat.le_refl _) (show ObjOk X.prog X.w _ h' _ (.lst ys) from ⟨hz,its,c',r',e⟩),rfl,q _ (I.hok.fresh (Nat.le_refl _))⟩
 rcases hq with hq | hq
 ·obtain⟨its,r',pl,hz⟩:=I.list hq
  have hlen:=r'.length
  obtain⟨o,ho,hc,n,hd⟩:=pl.isList
  exact call_list_seq p (.inl rfl) ho hc hd (fun h' c' kp e=>fin its r' hz h' c' kp e) (by simp only[List.size_toArray] <;> omega)
 ·obtain⟨its,r',pl,hz⟩:=I.tuple hq
  have hlen:=r'.length
  obtain⟨o,ho,hc,n,hd⟩:=pl
  exact call_list_seq p (.inr rfl) ho hc hd (fun h' c' kp e=>fin its r' hz h' c' kp e) (by simp only[List.size_toArray] <;> omega)
theorem J1:qB X (.type "tuple") (fun xs H Q=>∃ p ys,xs= [.ref p]/\((SqL X.K H p ys/\∀ l,H l=none->Q (.ref l) (upd H l (.tup ys)))∨(SqT X.K H p ys/\Q (.ref p) H))):=by
 intro pins s σ H xs us Q I r h
 obtain⟨p,ys,rfl,h⟩:=h
 obtain⟨u,rfl,rx⟩:=jz r
 cases rx
 rcases h with ⟨hq,q⟩ | ⟨hq,q⟩
 ·obtain⟨its,r',pl,hz⟩:=I.list hq
  have hlen:=r'.length
  refine call_tuple_list pl.isList (fun h' kp=>?_) (by simp only[List.size_toArray] <;> omega)
  have I1:Inv X pins σ H { s with heap:=h' }:=I.kept (t':=s.toks) kp
  have I2:Inv X pins σ (upd H h'.objs.size (.tup ys)) { s with heap:=h'.push { cls:=.type "tuple",data:=.seq its.toArray } } :=
   I1.laid (t':=s.toks) (fun b o e=>Heap.get?_push_of_some _ e) (Nat.le_refl _) (show ObjOk X.prog X.w _ _ _ (.tup ys) from ⟨hz,its,r',IsTup.new _ _⟩)
  exact⟨.ref h'.objs.size,_,I2,rfl,q _ (I1.hok.fresh (Nat.le_refl _))⟩
 ·obtain⟨its,r',pl,hz⟩:=I.tuple hq
  exact call_tuple_same pl ⟨.ref p,H,I,rfl,q⟩
noncomputable def tyV (K:PySem.W.Frag) (T:String) (x:V) (H:Hp):Prop:=match x with
 | .str _=>T= "str"
 | .int _=>T= "int"
 | .ref p=>(T= "list" /\∃ xs,SqL K H p xs)∨(T= "tuple" /\∃ o,K.lookup p=some o/\o.cls=.type "tuple" /\o.dict=none) ∨
   (T= "dict" /\((∃ kvs,H p=some (.dK kvs))∨∃ kvs,H p=some (.dT kvs)))∨(T= "set" /\∃ S n,H p=some (.set S n))
 | _=>False
theorem zd9 {pins:List (Addr×Obj)}{σ:St}{H:Hp}{s:Shared}{T:String}{x:V}{v:Value}(I:Inv X pins σ H s) (r:RelV x v) (ty:tyV X.K T x H) :
  s.TypeIs v T/\∀ a,v=.ref a->∃ ob,s.heap.get? a=some ob/\ob.dict=none:=by
 cases x with
 | str z=>
  obtain⟨t,rfl⟩:=r
  cases (show T= "str" from ty)
  exact⟨typeIs_str s z t,fun _ e=>nomatch e⟩
 | int i=>
  obtain⟨t,rfl⟩:=r
  cases (show T= "int" from ty)
  exact⟨typeIs_int s i t,fun _ e=>nomatch e⟩
 | ref p=>
  cases r
  rcases ty with ⟨rfl,xs,hq⟩ | ⟨rfl,o,hk,hc,hd⟩ | ⟨rfl,hk⟩ | ⟨rfl,S,n,hk⟩
  ·obtain⟨its,_,pl,_⟩:=I.list hq
   refine⟨pl.isList.typeIs,fun a e=>?_⟩
   cases e
   obtain⟨o,n,e,c,hd,_⟩:=pl
   exact⟨o,e,hd⟩
  ·refine⟨⟨o,I.kIn p o hk,hc⟩,fun a e=>?_⟩
   cases e
   exact⟨o,I.kIn _ o hk,hd⟩
  ·have z:∃ o,s.heap.get? p=some o/\o.ExactDict:=by
    rcases hk with ⟨kvs,hk⟩ | ⟨kvs,hk⟩
    ·obtain⟨_,_,_,_,o,_,_,e,ex,_⟩:=I.hok p _ hk
     exact⟨o,e,ex⟩
    ·obtain⟨_,_,_,_,o,_,_,e,ex,_⟩:=I.hok p _ hk
     exact⟨o,e,ex⟩
   obtain⟨o,e,ex⟩:=z
   refine⟨⟨o,e,ex.1⟩,fun a e2=>?_⟩
   cases e2
   exact⟨o,e,ex.2.1⟩
  ·obtain⟨o,_,_,_,e,ex,_⟩:=I.hok p _ hk
   refine⟨⟨o,e,ex.1⟩,fun a e2=>?_⟩
   cases e2
   exact⟨o,e,ex.2.1⟩
 | _=>exact False.elim ty
noncomputable def tBM (K:PySem.W.Frag) (T:String) (r:V->List V->Hp->VK->Prop) (to:TE) (t:TA):TE:=fun σ H Q=>to σ H fun x H1=>tyV K T x H1/\t σ H1 fun xs H2=>r x xs H2 Q
variable {o e:Expr} {es:List Expr} {to:TE} {t:TA} {name:Str} {apos cpos:Pos} {T id:String} {r:V->List V->Hp->VK->Prop}
theorem kW (pa:PlainAttrs T) (slot:Slot T name id) (hty:typeOf (.builtin id)=pure (.type "method_descriptor")) (hm:MtR X id r) (ho:PE X o to) (ha:PA X (e::es) t)
  (hbase:attributeBase o name X.env (eval o X.env)=eval o X.env:=by rfl)
  (hfew:((backTo cpos (starEach (e::es) X.env)).all (fun x=> !x.1)&&(backToKw cpos (keywordEach [] X.env)).all (fun x=>x.1.isSome)
   && decide ((e::es).length+([]:List Keyword).length+(if ([]:List Keyword).isEmpty then 0 else 1)<30))=true:=by rfl)
  (hline:(apos.endLine==cpos.line)=true:=by rfl) (hs:starEach (e::es) X.env=(false,eval e X.env)::starEach es X.env:=by rfl) (hplain:(backTo cpos (starEach es X.env)).any (·.1)=false:=by rfl) :
  PE X (.Call (.Attribute o name apos) (e::es) [] cpos) (tBM X.K T r to t):=by
 intro pins s σ H Q I h
 refine wpAny_Call_method_late hbase hfew hline rfl (thn (ho pins s σ H _ I h) fun v s1 ⟨x,H1,I1,r1,ty,q1⟩=>?_)
 obtain⟨h1,h2⟩:=zd9 I1 r1 ty
 refine⟨T,id,pa,slot,hty,h1,h2,?_⟩
 have hA:=ha cpos pins s1 σ H1 _ I1 q1
 rw[hs] at hA |-
 refine Calls.callWith_builtin (by show (false||(backTo cpos (starEach es X.env)).any (·.1))=false; rw[hplain] <;> rfl) (Calls.evalArgs_plain ?_)
 exact thn hA fun us s2 ⟨vs,H2,I2,r2,q2⟩=>hm pins s2 σ H2 x vs v us Q I2 r1 r2 q2
end
end L2
namespace L2
open PySem PySem.Spec PyProof.Rows
noncomputable def MtM (X:Cx) (id:String) (r:V->List V->Hp->VK->Prop):Prop :=
 ∀ (pins:List (Addr×Obj)) (s:Shared) (σ:St) (H:Hp) (x:V) (xs:List V) (v:Value) (us:List Value) (Q:VK),Inv X pins σ H s->RelV x v->Vals xs us->r x xs H Q ->
  wpAny (model X.prog X.w) X.A (call (.builtin id) (v::us)) (EP X pins σ Q) X.xe s
theorem Vals.one:∀ {x:V}{us:List Value},Vals [x] us->∃ u,us= [u]/\RelV x u
 | _,_,.cons r .nil=>⟨_,rfl,r⟩
theorem Vals.zero:∀ {us:List Value},Vals [] us->us= []
 | _,.nil=>rfl
theorem Vals.reverse {xs:List V}{us:List Value}(h:Vals xs us):Vals xs.reverse us.reverse:=by
 induction h with
 | nil=>exact .nil
 | cons r t ih=>rw[List.reverse_cons,List.reverse_cons]; exact Vals.append ih (.cons r .nil)
theorem Vals.rep {xs:List V}{us:List Value}(h:Vals xs us):∀ k:Nat,Vals (List.replicate k xs).flatten (List.replicate k us).flatten
 | 0=>.nil
 | k+1=>by
  rw[List.replicate_succ,List.replicate_succ,List.flatten_cons,List.flatten_cons]
  exact Vals.append h (Vals.rep h k)
theorem wG (its:List Value):∀ (k:Nat) (acc:List Value),
  List.foldl (fun x1 x2=>x1++x2) acc.toArray (List.replicate k its.toArray)=(acc++(List.replicate k its).flatten).toArray
 | 0,acc=>by simp
 | k+1,acc=>by
  have e:acc.toArray++its.toArray=(acc++its).toArray:=by simp
  have e2:(acc++its)++(List.replicate k its).flatten=acc++(List.replicate (k+1) its).flatten:=by
   rw[List.replicate_succ,List.flatten_cons,List.append_assoc]
  rw[<- e2,<- wG its k (acc++its),<- e,List.replicate_succ,List.foldl_cons]
section
variable {X:Cx} {pins:List (Addr×Obj)} {σ:St} {H:Hp} {s:Shared} {l b:Addr} {xs ys zs:List V}
theorem Inv.lset {its its':List Value}{n:Nat}{f:Array Value->Array Value}{t':Nat}(I:Inv X pins σ H s) (hH:H l=some (.lst xs))
  (e:s.heap.get? l=some { cls:=.type "list",data:=.seq its.toArray n }) (hf:f its.toArray=its'.toArray) (hv:Vals ys its') (hz:ys.length<=sizeLine) :
  Inv X pins σ (upd H l (.lst ys)) { s with heap:=s.heap.update l (Obj.mapSeq f),toks:=t' }:=by
 have q:=PySem.IsL.update e f
 rw[hf] at q
 refine I.write (x:=l) (e:=l) (by rw[hH]; exact trivial) (.inl rfl) (fun b' u hb hu=>(Heap.get?_update_other s.heap (Obj.mapSeq f) (Ne.symm hb)).trans hu) ⟨_,q⟩ ?_
 exact⟨hz,its',_,hv,q⟩
theorem Inv.lnew {its:List Value}{t':Nat}(I:Inv X pins σ H s) (hv:Vals ys its) (hz:ys.length<=sizeLine) :
  Inv X pins σ (upd H s.heap.objs.size (.lst ys)) { s with heap:=s.heap.push { cls:=.type "list",data:=.seq its.toArray },toks:=t' } :=
 I.laid (fun _ _ q=>Heap.get?_push_of_some _ q) (Nat.le_refl _) ⟨hz,its,0,hv,Heap.get?_push_size _ rfl⟩
theorem Inv.fresh (I:Inv X pins σ H s):H s.heap.objs.size=none:=I.hok.fresh (Nat.le_refl _)
theorem Inv.lstM (I:Inv X pins σ H s) (hH:H l=some (.lst xs)):xs.length<=sizeLine/\∃ (its:List Value) (n:Nat),Vals xs its/\xs.length=its.length/\s.heap.get? l=some { cls:=.type "list",data:=.seq its.toArray n }:=by
 obtain⟨z,its,n,r,e⟩:=I.hok l _ hH
 exact⟨z,its,n,r,r.length,e⟩
end
section
variable {X:Cx}
noncomputable def zbf:V->List V->Hp->VK->Prop:=fun x vs H Q=>∃ l xs y,x=.ref l/\vs= [y]/\H l=some (.lst xs)/\xs.length<sizeLine/\Q .non (upd H l (.lst (xs++ [y])))
theorem Qv:MtM X "list.append" zbf:=by
 intro pins s σ H x vs v us Q I rx rv h
 obtain⟨l,xs,y,rfl,rfl,hH,hz,q⟩:=h
 cases rx
 obtain⟨u,rfl,ru⟩:=rv.one
 obtain⟨z,its,n,r,hl,e⟩:=I.lstM hH
 refine call_meets F.slot_list_append ⟨_,e,rfl⟩ F.entry_list_append (F.args_list_append_2 _ _) (PySem.list_append l its.toArray n u (by rw[List.size_toArray]; omega)) ⟨e,?_⟩
 refine⟨.non,_,I.lset (its':=its++ [u]) hH e (by simp) (r.append (.cons ru .nil)) ?_,rfl,q⟩
 rw[List.length_append,List.length_singleton]
 omega
noncomputable def rCat:R2:=fun x y H Q=>∃ l b xs zs,x=.ref l/\y=.ref b/\H l=some (.lst xs)/\H b=some (.lst zs)/\xs.length+zs.length<=sizeLine/\∀ p,H p=none->Q (.ref p) (upd H p (.lst (xs++zs)))
theorem zdd:OpR X (binaryOp .Add) rCat:=by
 intro pins s σ H x y v u Q I rx ry h
 obtain⟨l,b,xs,zs,rfl,rfl,hH,hB,hz,q⟩:=h
 cases rx
 cases ry
 obtain⟨z,its,n,r,hl,e⟩:=I.lstM hH
 obtain⟨z2,its2,n2,r2,hl2,e2⟩:=I.lstM hB
 refine PySem.P.add_list e e2 ?_ (by rw[List.size_toArray,List.size_toArray]; omega)
 have ea:its.toArray++its2.toArray=(its++its2).toArray:=by simp
 rw[ea]
 exact⟨.ref _,_,I.lnew (t':=s.toks) (r.append r2) (by rw[List.length_append]; omega),rfl,q _ I.fresh⟩
theorem ya {α:Type}(xs:List α) (k:Nat):(List.replicate k xs).flatten.length=k*xs.length:=by
 induction k with
 | zero=>simp
 | succ k ih=>rw[List.replicate_succ,List.flatten_cons,List.length_append,ih,Nat.succ_mul,Nat.add_comm]
end
section
variable {prog:Program} {w:World} {A:Around} {E:Value->Shared->Prop} {s:Shared}
end
section
variable {X:Cx}
end
end L2
namespace Att
open PySem PySem.W PySem.Calls PyProof.Rows
theorem Q9 {P:Params}{h:Heap}:∀ (ns:List Int) (vs:List Value),WellAll P h vs (ns.map WData.int)->IntsAre vs ns:=by
 intro ns
 induction ns with
 | nil=>
  intro vs w
  rw[List.map_nil] at w
  cases w
  exact .nil
 | cons n ns ih=>
  intro vs w
  rw[List.map_cons] at w
  cases w with
  | cons a b=>
   cases a
   exact .cons _ _ (ih _ b)
theorem Yn {l:OpenLaw}{n:Nat}(hn:l.most=some n){P:Params}{h:Heap}{args:List WData}{vals:List Value}
  (hpre:l.row.toRowW.claim.pre args=true) (hwl:WellAll P h vals args) :
  ∃ a vs ns,vals= [Value.ref a]/\args= [WData.list (ns.map WData.int)]/\h.get? a=some { cls:=.type "list",data:=.seq vs.toArray }/\IntsAre vs ns/\ns.length<=n:=by
 have hsh:WShape.hasAll [] args [.list .int]=true:=(pre_splitW hpre).1
 have hc:l.pre.holds [] { args:=args }=true:=(pre_splitW hpre).2
 obtain⟨d,r,rfl,h1,h2⟩:=hasAllW_cons hsh
 obtain rfl:=hasAllW_nil h2
 obtain⟨xs,rfl,h3⟩:=hasW_list h1
 obtain⟨ns,rfl⟩:=items_int h3
 have hlen:ns.length<=n:=by
  unfold OpenLaw.pre at hc
  have h4:(WTm.not (.lt (.lit (.int (n:Int))) (.len (.arg 0)))).holds [] { args:= [.list (ns.map .int)] }=true:=by
   have h4:=(holds_andW hc).1
   rw[hn] at h4
   exact h4
  have h5:=condW_of h4 (w_not (w_lt w_lit (w_len_list (w_arg rfl))))
  rw[List.length_map] at h5
  refine Nat.le_of_not_lt fun q=>?_
  have q':(n:Int)<((ns.length:Nat):Int):=by omega
  first
   | (rw[decide_eq_true q'] at h5; exact absurd h5 (by decide))
   | (simp at h5; omega)
 cases hwl with
 | cons w1 w2=>
  cases w2
  cases w1 with
  | list ho hall=>exact⟨_,_,ns,rfl,rfl,ho,Q9 ns _ hall,hlen⟩
theorem Yj (l:OpenLaw) (args:List WData):l.row.toRowW.claim.post args (.bool true) args=true :=
 postW_of (r:=l.row.toRowW) (X:=(true==true))
  (show WShape.has [] (.bool true) .bool=true by first | rfl | decide | simp[WShape.has,WShape.arms,WShape.armsAll])
  (show (WTm.eq .res (.lit (.bool true))).value [] { args:=args,res:=some (.bool true),after:=args }=some (.bool (true==true)) from w_eq_bool (w_res rfl) w_lit) rfl
theorem attach_call {l:OpenLaw}{n:Nat}{q:Program}{loose:List Str}{XP:(Str->Option Value)->Heap->Prop}{YP:World->Heap->Prop}{d:DefRec}
  (hn:l.most=some n) (hdf:d.params.defaults= [])
  (call:∀ (w:World) (s₀ s₁:Shared) (mg mb:Str->Option Value) (fa:Addr) (o:Obj) (pm cd doc:Value) (a:Addr) (vs:List Value) (ns:List Int),
   Ground q loose [] XP w s₀ mg mb s₁.heap->YP w s₁.heap ->
   s₁.heap.get? fa=some o->o.data=.func (docDef d.name d.params d.body d.scope pm cd doc)->s₁.heap.CodeRec cd d.name->mg d.name=some (.ref fa) ->
   s₁.heap.get? a=some { cls:=.type "list",data:=.seq vs.toArray }->IntsAre vs ns->ns.length<=n->s₁.gens=#[] ->
   codeAny (model l.prog w) callerA (.call (.ref fa) ⟨[.ref a],[]⟩) (fun r s'=>r=.ok (.ret (.bool true))/\OldK s₁.heap s'.heap/\s'.os=s₁.os/\AllBare s'.gens) s₁) :
  WalkO q loose XP YP l.row.toRowW d [] (fun f vs=>PySem.call f vs):=by
 intro w s₀ s₁ mg mb G Y fa o pm cd doc dV kV ho hd hcd hD hmg hg args vals as hpre hlay hrd hwl hlo
 obtain rfl:dV=.none:=Dflts.none hD hdf
 obtain rfl:kV=.none:=Dflts.noKw hD
 obtain⟨a,vs,ns,rfl,rfl,hobj,hints,hlen⟩:=Yn hn hpre hwl
 refine enter_call (codeAny_mono (call w s₀ s₁ mg mb fa o pm cd doc a vs ns G Y ho (fd_plain hd) hcd hmg hobj hints hlen hg) fun r s' hq=>?_)
 obtain⟨rfl,h2,h3,h4⟩:=hq
 exact⟨.inl ⟨.bool true,.bool true,[],rfl,fun _=>rfl,.bool true,Yj l _,fun _=>⟨List.Pairwise.nil,fun _ hm=>(nomatch hm)⟩⟩,h2,h3,h4⟩
section
variable {prog:Program} {w:World} {A:Around} {E:Value->Shared->Prop} {s:Shared} {K:Frag}
end
end Att
namespace L2
open PySem PySem.Spec PyProof.Rows
theorem jh:∀ {vs:List Value}{ns:List Int},IntsAre vs ns->Vals (ns.map V.int) vs
 | _,_,.nil=>.nil
 | _,_,.cons n t h=>.cons ⟨t,rfl⟩ (jh h)
noncomputable def zcw (H:Hp):Prop:=∀ b,H b=none∨∃ o xs,H b=some (.frz o (.lst xs))
theorem kE {P:Program}{w:World}{K:PySem.W.Frag}{mg mb:Str->Option Value}{CX:CXT}{k:Nat}{fa a:Addr}{fd:FuncData}{x:Str}{sp:Sp} {s₁:Shared}{vs:List Value}{ns:List Int}
  (KX:K.In s₁.heap) (hns:s₁.heap.Ns mainGlobals mg) (hb:s₁.heap.Ns builtinsNs mb) (hbb:∀ x:Str,x≠ "__name__" ->mb x=bootBuiltins x) (hlim:s₁.heap.NoLimit) (hg:s₁.gens=#[])
  (ha:s₁.heap.get? a=some { cls:=.type "list",data:=.seq vs.toArray }) (hi:IntsAre vs ns) (hl:ns.length<=sizeLine) (hr:Room k callerA)
  (F:∀ base:Heap,K.In base->base.Ns mainGlobals mg->FnOk P w K mg base CX k fa fd [x] sp) (hbind:∀ (s:Shared) (u:Value),BindsTo s fd ⟨[u],[]⟩ [(x,u)])
  (hsp:∀ H:Hp,zcw H->SqL K H a (ns.map V.int)->sp [.ref a] H (fun v _=>v=.bl true) fun _ _ _=>False)
  (hCX:∀ H e s',CX [] H s₁ (fun _ _ _=>False) e s'->False) :
  codeAny (model P w) callerA (.call (.ref fa) ⟨[.ref a],[]⟩) (fun r s'=>r=.ok (.ret (.bool true))/\OldK s₁.heap s'.heap/\s'.os=s₁.os/\AllBare s'.gens) s₁:=by
 have rv:=jh hi
 have lenV:=hi.length
 -- from an abstract heap in which nothing but the script may be tracked
 have core:∀ H:Hp,zcw H->SqL K H a (ns.map V.int)->HOk P w H s₁.heap->(∀ b,H b≠none->b=a)->(H a≠none->K.lookup a=none) ->
   codeAny (model P w) callerA (.call (.ref fa) ⟨[.ref a],[]⟩) (fun r s'=>r=.ok (.ret (.bool true))/\OldK s₁.heap s'.heap/\s'.os=s₁.os/\AllBare s'.gens) s₁:=by
  intro H hO hS hok hA hK
  have Wc:∀ {b:Addr} {o:Obj},s₁.heap.get? b=some o->H b=none->(Wp s₁.heap H).get? b=some o:=fun e n=>kw e n
  have noA:∀ {b:Addr} {o:Obj} {es:Array DictEntry} {ep:Nat},s₁.heap.get? b=some o->o.data=.dict es ep->H b=none:=fun {b o es ep} e d=>by
   cases q:H b with
   | none=>rfl
   | some u=>
    have e':b=a:=hA b (by rw[q]; simp)
    subst e'
    rw[ha] at e; cases e
    have d':Data.seq vs.toArray _=Data.dict es ep:=d
    cases d'
  have nsK:∀ {b:Addr} {m:Str->Option Value},s₁.heap.Ns b m->(Wp s₁.heap H).Ns b m:=fun {b m} ⟨o,es,ep,e,d,r⟩=>⟨o,es,ep,Wc e (noA e d),d,r⟩
  have hKb:K.In (Wp s₁.heap H):=fun b o e=>Wc (KX b o e) (by
   cases q:H b with
   | none=>rfl
   | some u=>
    have e':b=a:=hA b (by rw[q]; simp)
    subst e'
    rw[hK (by rw[q]; simp)] at e; cases e)
  have hM:Mod K mg (Wp s₁.heap H):=⟨hKb,nsK hns,⟨mb,nsK hb,hbb⟩,let ⟨mc,h1,h2⟩:=hlim; ⟨mc,nsK h1,h2⟩⟩
  have e0:zak P w K mg (Wp s₁.heap H) callerA [] s₁ H:=⟨rfl,hM,fun b o e=>zaY e,Nat.le_of_eq (yW _ _),trivial,fun b hb=>absurd (show b∈([]:List Addr) from hb) (by simp),hok,.of_eq hg⟩
  refine codeAny_mono ((F _ hKb (nsK hns)).run callerA [] s₁ H ⟨[.ref a],[]⟩ [.ref a] [.ref a] _ _ hr e0 (hbind s₁ (.ref a)) (.cons rfl .nil) (hsp H hO hS)) fun r s' h=>?_
  cases r with
  | error e=>exact (hCX H e s' h).elim
  | ok fl=>
   cases fl with
   | next=>exact False.elim h
   | brk=>exact False.elim h
   | cont=>exact False.elim h
   | ret u=>
    obtain⟨v,H',os,bare,un,hok',r',q⟩:=h
    have q':v=.bl true:=q
    subst q'
    obtain rfl:u=Value.bool true:=r'
    refine⟨rfl,OldK.of_keep fun b o e=>?_,os,bare⟩
    cases q:H b with
    | none=>exact un.keep b o e q (by intro z; exact absurd (show b∈([]:List Addr) from z) (by simp)) (by simp)
    | some u=>
     rcases hO b with z | ⟨ob,xs,z⟩
     ·rw[q] at z; cases z
     ·have z2:=un.frzs b ob _ z
      obtain⟨e1,_⟩:=hok b _ z
      obtain⟨e2,_⟩:=hok' b _ z2
      rw[e] at e1; cases e1
      exact e2
 cases hk:K.lookup a with
 | some o=>
  -- the script is one of the module's own objects
  have e:=KX a o hk
  rw[ha] at e
  cases e
  refine core (fun _=>none) (fun _=>.inl rfl) (.inr ⟨_,vs.toArray,_,hk,rfl,rfl,rfl,by rw[List.size_toArray,lenV]; exact hl,by simpa using rv⟩) (fun b u z=>by have z':(none:Option HO)=some u:=z; cases z') (fun b z=>absurd rfl z) fun z=>absurd rfl z
 | none=>
  refine core (fun b=>if b=a then some (.frz { cls:=.type "list",data:=.seq vs.toArray } (.lst (ns.map V.int))) else none) (fun b=>?_) (.inl (.inr ⟨{ cls:=.type "list",data:=.seq vs.toArray },if_pos rfl⟩)) (fun b u z=>?_) (fun b z=>?_) fun _=>hk
  ·by_cases hb:b=a
   ·exact .inr ⟨_,_,if_pos hb⟩
   ·exact .inl (if_neg hb)
  ·by_cases hb:b=a
   ·have z':=(if_pos hb).symm.trans z
    cases z'
    subst hb
    exact⟨ha,by rw[List.length_map]; exact hl,vs,_,rv,ha⟩
   ·have z':=(if_neg hb).symm.trans z
    cases z'
  ·by_cases hb:b=a
   ·exact hb
   ·exact absurd (if_neg hb) z
end L2
namespace L2
open PySem PySem.Spec PyProof.Rows
noncomputable abbrev KOf {K:PySem.W.Frag} {h:Heap} (_:K.In h):PySem.W.Frag:=K
theorem walk_of {l:PySem.W.OpenLaw}{n k:Nat}{q:Program}{loose:List Str}{XP:(Str->Option Value)->Heap->Prop}{YP:World->Heap->Prop}{d:DefRec}{K:Params->PySem.W.Frag}{CX:World->CXT}{sp:World->Sp}{x:Str}
  (hn:l.most=some n) (hn2:n<=sizeLine) (hdf:d.params.defaults= []) (hr:Room k callerA)
  (hY:∀ (w:World) (h:Heap),YP w h->(K w.params).In h)
  (F:∀ (w:World) (mg:Str->Option Value) (fa:Addr) (h:Heap),(K w.params).In h->h.Ns mainGlobals mg->mg d.name=some (.ref fa) ->
   ∃ fd:FuncData,(∀ (s:Shared) (u:Value),BindsTo s fd ⟨[u],[]⟩ [(x,u)]) /\
    ∀ base:Heap,(K w.params).In base->base.Ns mainGlobals mg->FnOk l.prog w (K w.params) mg base (CX w) k fa fd [x] (sp w))
  (hsp:∀ (w:World) (H:Hp) (a:Addr) (ns:List Int),ns.length<=n->zcw H->SqL (K w.params) H a (ns.map V.int)->sp w [.ref a] H (fun v _=>v=.bl true) fun _ _ _=>False)
  (hCX:∀ (w:World) (H:Hp) (s:Shared) (e:Value) (s':Shared),CX w [] H s (fun _ _ _=>False) e s'->False) :
  PySem.W.WalkO q loose XP YP l.row.toRowW d [] (fun f vs=>PySem.call f vs):=by
 refine Att.attach_call hn hdf fun w s₀ s₁ mg mb fa o pm cd doc a vs ns G Y ho hd hcd hmg hobj hints hlen hg=>?_
 have KX:=hY w _ Y
 obtain⟨fd,hb,hF⟩:=F w mg fa _ KX G.T.g hmg
 exact kE KX G.T.g G.T.b G.T.builtins G.T.nolimit hg hobj hints (Nat.le_trans hlen hn2) hr hF hb (fun H hO hS=>hsp w H a ns hlen hO hS) fun H e s'=>hCX w H s₁ e s'
end L2
namespace L2
open PySem PySem.Spec PyProof.Rows
noncomputable def qc (s:Stmt):Arguments:=match s with
 | .FunctionDef _ a _ _ _ _ _ _ _ _=>a
 | _=>{ posonlyargs:= [],args:= [],vararg:=none,kwonlyargs:= [],kw_defaults:= [],kwarg:=none,defaults:= [] }
noncomputable def defBody (s:Stmt):List Stmt:=match s with
 | .FunctionDef _ _ b _ _ _ _ _ _ _=>b
 | _=> []
noncomputable def defScope (s:Stmt):Scope:=match s with
 | .FunctionDef _ _ _ _ _ _ sc _ _ _=>sc
 | _=>{ kind:=.function,names:= [],isGenerator:=false,isCoroutine:=false }
noncomputable abbrev CX0:CXT:=fun _ _ _ _ _ _=>False
noncomputable abbrev E0:XK:=fun _ _ _=>False
theorem zeO {X:Cx}:w4 CX0 X E0:=fun _ _ _ _ _ _ _ h=>h.elim
structure Fun (K:PySem.W.Frag) (x qual:Str) (st:Stmt) (f:Addr) (fd:FuncData):Prop where
 ex:∃ (oc:Value) (od:Option Addr) (kV doc pm:Value) (an:Option Addr) (cdv ct:Value) (osl:Array (Option Value)),
  fd=PySem.W.fnOf x qual (qc st) (defBody st) (defScope st) .none kV doc pm an cdv ct/\K.lookup f=some ⟨oc,od,.func fd,osl⟩/\PySem.W.codeIn K cdv qual=true
 kp:PySem.W.keepIn K (.ref f)=true
section
variable {P:Program} {w:World} {K:PySem.W.Frag} {mg:Str->Option Value} {base:Heap}
theorem Fun.ok {x qual:Str}{st:Stmt}{f:Addr}{fd:FuncData}{N ps:List Str}{k:Nat}{sp:Sp}(F:Fun K x qual st f fd) (S:qO N ps (defScope st)) (len:∀ vs H Q E,sp vs H Q E->vs.length=ps.length)
  (hbody:∀ (cdv:Value) (A:Around) (outer:List Env) (s:Shared) (H:Hp) (vs:List V) (Q:VK) (E:XK),Room k (A.deeper (envOfC qual (defScope st) s.heap.objs.size f cdv))->sp vs H Q E ->
   ∃ t,PSs (Zh CX0 P w K mg base N qual (defScope st) f cdv A outer s H E).nox (defBody st) t/\t { nx:=fun _ H'=>Q .non H',rt:=Q } (start N vs) H):FnOk P w K mg base CX0 (k+1) f fd ps sp:=by
 obtain⟨oc,od,kV,doc,pm,an,cdv,ct,osl,rfl,lk,hcd⟩:=F.ex
 refine zcg lk hcd S len fun A outer s H vs Q E hr hsp=>?_
 obtain⟨t,h,q⟩:=hbody cdv A outer s H vs Q E hr hsp
 exact⟨t,h.nox,q⟩
theorem Fun.binds {x qual:Str}{st:Stmt}{f:Addr}{fd:FuncData}{ps:List Str}(F:Fun K x qual st f fd)
  (h:∀ (kV doc pm:Value) (an:Option Addr) (cdv ct:Value) (us:List Value),us.length=ps.length->bindArgs (PySem.W.fnOf x qual (qc st) (defBody st) (defScope st) .none kV doc pm an cdv ct) ⟨us,[]⟩=pure (ps.zip us)):Binds K fd ps []:=by
 obtain⟨oc,od,kV,doc,pm,an,cdv,ct,osl,rfl,lk,hcd⟩:=F.ex
 exact .all (h kV doc pm an cdv ct)
theorem Zj {x qual:Str}{st:Stmt}{f:Addr}{oc:Value}{od an:Option Addr}{osl:Array (Option Value)}{kV doc pm cdv ct:Value}(l:K.lookup f=some ⟨oc,od,.func (PySem.W.fnOf x qual (qc st) (defBody st) (defScope st) .none kV doc pm an cdv ct),osl⟩)
  (c:PySem.W.codeIn K cdv qual=true) (k:PySem.W.keepIn K (.ref f)=true):Fun K x qual st f (PySem.W.fnOf x qual (qc st) (defBody st) (defScope st) .none kV doc pm an cdv ct):=⟨⟨oc,od,kV,doc,pm,an,cdv,ct,osl,rfl,l,c⟩,k⟩
end
section
variable {X:Cx}
theorem pv (i:Nat){x:Str}{pos:Pos}(hN:X.N[i]?=some x:=by rfl) (hv:Vis X.env.scope x:=by first | exact Or.inl rfl | exact Or.inr (Or.inl rfl) | exact Or.inr (Or.inr rfl)) (hd:(x==("__debug__" :Str))=false:=by decide)
    (hcd:(x==("__classdict__" :Str))=false:=by decide):PE X (.Name x pos) (zd7 i):=z4 hN hv hd hcd
end
theorem Wr {A B:Prop}(h:B):if false=true then A else B:=by
 rw[if_neg Bool.false_ne_true]
 exact h
theorem Ws {A B:Prop}(h:A):if true=true then A else B:=by
 rw[if_pos rfl]
 exact h
noncomputable def Same (H H':Hp):Prop:=∀ b o,H b=some o->H' b=some o
theorem Same.refl (H:Hp):Same H H:=fun _ _ h=>h
theorem Same.trans {H H1 H2:Hp}(a:Same H H1) (b:Same H1 H2):Same H H2:=fun c o h=>b c o (a c o h)
theorem Same.free {H H':Hp}(e:Same H H'){l:Addr}(h:H' l=Option.none):H l=Option.none:=by
 cases q:H l with
 | none=>rfl
 | some o=>
  rw[e l o q] at h
  cases h
theorem Same.seq {K:PySem.W.Frag}{H H':Hp}{a:Addr}{xs:List V}(e:Same H H') (h:SqL K H a xs):SqL K H' a xs:=by
 rcases h with (h | ⟨o,h⟩) | h
 ·exact .inl (.inl (e _ _ h))
 ·exact .inl (.inr ⟨o,e _ _ h⟩)
 ·exact .inr h
end L2
namespace L2
open PySem PySem.Spec PyProof.Rows
section
variable {κ:Type} [DecidableEq κ]
noncomputable def vU (kvs:List (κ×V)) (k:κ):Option V:=(kvs.find? fun kv=>decide (kv.1=k)).map (·.2)
noncomputable def Vy (kvs:List (κ×V)) (k:κ) (v:V):List (κ×V) :=
 if (kvs.any fun kv=>decide (kv.1=k))=true then kvs.map (fun kv=>if kv.1=k then (kv.1,v) else kv) else kvs++ [(k,v)]
noncomputable def zca (kvs:List (κ×V)) (k:κ):List (κ×V):=kvs.filter fun kv=>decide (kv.1≠k)
theorem JW {p:κ×V}{r:List (κ×V)}{k:κ}(e:p.1=k):vU (p::r) k=some p.2:=by simp[vU,List.find?_cons,e]
theorem JV {p:κ×V}{r:List (κ×V)}{k:κ}(e:¬ p.1=k):vU (p::r) k=vU r k:=by simp[vU,List.find?_cons,e]
theorem vV (k:κ):∀ kvs:List (κ×V),(kvs.any fun kv=>decide (kv.1=k))=(vU kvs k).isSome
 | []=>rfl
 | p::r=>by
  rw[List.any_cons]
  by_cases e:p.1=k
  ·simp only[JW e,decide_eq_true e,Bool.true_or,Option.isSome_some]
  ·rw[JV e,decide_eq_false e,Bool.false_or]; exact vV k r
theorem RelO.isSome_eq {o:Option V}{u:Option Value}(r:RelO o u):o.isSome=u.isSome:=by
 cases o with
 | none=>cases u with
  | none=>rfl
  | some _=>exact (show False from r).elim
 | some _=>cases u with
  | none=>exact (show False from r).elim
  | some _=>rfl
theorem KV.val {kvs:List (κ×V)}{vs:List (κ×Value)}(r:KV kvs vs) (k:κ):RelO (vU kvs k) (valueAt vs k):=by
 unfold KV at r
 induction r with
 | nil=>exact True.intro
 | @cons p q ps qs h t ih=>
  obtain⟨h1,h2⟩:=h
  by_cases e:p.1=k
  ·have e':q.1=k:=h1.symm.trans e
   have b:valueAt (q::qs) k=some q.2:=by simp[valueAt,List.find?_cons,e']
   rw[JW e,b]; exact h2
  ·have e':¬ q.1=k:=fun z=>e (h1.trans z)
   have b:valueAt (q::qs) k=valueAt qs k:=by simp[valueAt,List.find?_cons,e']
   rw[JV e,b]; exact ih
theorem KV.any {kvs:List (κ×V)}{vs:List (κ×Value)}(r:KV kvs vs) (k:κ):(kvs.any fun kv=>decide (kv.1=k))=vs.any fun kv=>decide (kv.1=k):=by
 unfold KV at r
 induction r with
 | nil=>rfl
 | cons h t ih=>rw[List.any_cons,List.any_cons,ih,h.1]
theorem KV.repl {kvs:List (κ×V)}{vs:List (κ×Value)}(r:KV kvs vs) (k:κ){y:V}{u:Value}(ry:RelV y u) :
  KV (kvs.map fun kv=>if kv.1=k then (kv.1,y) else kv) (vs.map fun kv=>if kv.1=k then (kv.1,u) else kv):=by
 unfold KV at r |-
 induction r with
 | nil=>exact .nil
 | @cons p q ps qs h t ih=>
  rw[List.map_cons,List.map_cons]
  refine .cons ?_ ih
  obtain⟨h1,h2⟩:=h
  by_cases e:p.1=k
  ·rw[if_pos e,if_pos (h1.symm.trans e)]; exact⟨h1,ry⟩
  ·rw[if_neg e,if_neg (fun z=>e (h1.trans z))]; exact⟨h1,h2⟩
theorem KV.put {kvs:List (κ×V)}{vs:List (κ×Value)}(r:KV kvs vs) (k:κ){y:V}{u:Value}(ry:RelV y u):KV (Vy kvs k y) (stored vs k u):=by
 unfold Vy stored
 rw[r.any k]
 by_cases e:(vs.any fun kv=>decide (kv.1=k))=true
 ·rw[if_pos e,if_pos e]; exact r.repl k ry
 ·rw[if_neg e,if_neg e]; exact Paired.snoc r ⟨rfl,ry⟩
theorem KV.drop {kvs:List (κ×V)}{vs:List (κ×Value)}(r:KV kvs vs) (k:κ):KV (zca kvs k) (without vs k):=by
 unfold KV at r |-
 unfold zca without
 induction r with
 | nil=>exact .nil
 | @cons p q ps qs h t ih=>
  obtain⟨h1,h2⟩:=h
  rw[List.filter_cons,List.filter_cons]
  by_cases e:p.1=k
  ·have a:¬ decide (p.1≠k)=true:=by simp[e]
   have b:¬ decide (q.1≠k)=true:=by simp[h1.symm.trans e]
   rw[if_neg a,if_neg b]; exact ih
  ·have e':¬ q.1=k:=fun z=>e (h1.trans z)
   have a:decide (p.1≠k)=true:=by simp[e]
   have b:decide (q.1≠k)=true:=by simp[e']
   rw[if_pos a,if_pos b]; exact .cons ⟨h1,h2⟩ ih
theorem KV.keys {kvs:List (κ×V)}{vs:List (κ×Value)}(r:KV kvs vs):kvs.map (·.1)=vs.map (·.1):=by
 unfold KV at r
 induction r with
 | nil=>rfl
 | cons h t ih=>rw[List.map_cons,List.map_cons,ih,h.1]
theorem KV.length {kvs:List (κ×V)}{vs:List (κ×Value)}(r:KV kvs vs):kvs.length=vs.length:=Paired.length r
end
theorem zci {P:Program}{w:World}{k:Key}{u:Value}(r:RelV (kV k) u):(qq P w).is k u=true:=by
 cases k with
 | inl i=>obtain⟨t,e⟩:=(show ∃ t,u=Value.int i t from r); subst e; exact vw P w i t
 | inr x=>obtain⟨t,e⟩:=(show ∃ t,u=Value.str x t from r); subst e; exact vy P w x t
noncomputable abbrev KT (H:Hp):List (List Key×V)->List (List Key×Addr×Value)->Prop:=Paired fun p q=>p.1=q.1/\H q.2.1=some (.tup (p.1.map kV))/\RelV p.2 q.2.2
theorem KT.val {H:Hp}{kvs:List (List Key×V)}{xs:List (List Key×Addr×Value)}(r:KT H kvs xs) (k:List Key):RelO (vU kvs k) ((atKey xs k).map (·.2)):=by
 induction r with
 | nil=>exact True.intro
 | @cons p q ps qs h t ih=>
  obtain⟨h1,_,h2⟩:=h
  by_cases e:p.1=k
  ·have e':q.1=k:=h1.symm.trans e
   have b:atKey (q::qs) k=some q.2:=by simp[atKey,List.find?_cons,e']
   rw[JW e,b]; exact h2
  ·have e':¬ q.1=k:=fun z=>e (h1.trans z)
   have b:atKey (q::qs) k=atKey qs k:=by simp[atKey,List.find?_cons,e']
   rw[JV e,b]; exact ih
theorem KT.repl {H:Hp}{kvs:List (List Key×V)}{xs:List (List Key×Addr×Value)}(r:KT H kvs xs) (k:List Key){y:V}{u:Value}(ry:RelV y u) :
  KT H (kvs.map fun kv=>if kv.1=k then (kv.1,y) else kv) (xs.map (putAt k u)):=by
 induction r with
 | nil=>exact .nil
 | @cons p q ps qs h t ih=>
  rw[List.map_cons,List.map_cons]
  refine .cons ?_ ih
  obtain⟨h1,h2,h3⟩:=h
  unfold putAt
  by_cases e:p.1=k
  ·rw[if_pos e,if_pos (h1.symm.trans e)]; exact⟨h1,h2,ry⟩
  ·rw[if_neg e,if_neg (fun z=>e (h1.trans z))]; exact⟨h1,h2,h3⟩
theorem KT.put {H:Hp}{kvs:List (List Key×V)}{xs:List (List Key×Addr×Value)}(r:KT H kvs xs) (k:List Key){b:Addr}{y:V}{u:Value}(hb:H b=some (.tup (k.map kV))) (ry:RelV y u) :
  KT H (Vy kvs k y) (storedH xs k b u):=by
 have e:(kvs.any fun kv=>decide (kv.1=k))=(atKey xs k).isSome:=by
  rw[vV,(r.val k).isSome_eq,Option.isSome_map]
 unfold Vy storedH
 rw[e]
 by_cases q:(atKey xs k).isSome=true
 ·rw[if_pos q,if_pos q]; exact r.repl k ry
 ·rw[if_neg q,if_neg q]; exact Paired.snoc r ⟨rfl,hb,ry⟩
theorem KT.keeps {H H':Hp}{kvs:List (List Key×V)}{xs:List (List Key×Addr×Value)}(r:KT H kvs xs) (ht:∀ b ys,H b=some (.tup ys)->H' b=some (.tup ys)):KT H' kvs xs :=
 Paired.mapP r fun _ _ z=>⟨z.1,ht _ _ z.2.1,z.2.2⟩
section
variable {P:Program} {w:World} {H:Hp} {h:Heap} {a:Addr}
end
section
variable {X:Cx} {pins:List (Addr×Obj)} {σ:St} {H:Hp} {s:Shared} {a:Addr} {y v:V} {u r:Value} {o:Option V} {A:Around} {E:Value->Shared->Prop}
theorem Inv.big (I:Inv X pins σ H s):sysModules<s.heap.objs.size:=by
 have h:mainGlobals<s.heap.objs.size:=(I.mod.glob.keeps I.bk).lt
 exact Nat.lt_trans (by decide) h
theorem zcT {P:Program}{w:World}{H':Hp}{h':Heap}{kvs:List (Key×V)}{vs:List (Key×Value)}(z:kvs.length<=sizeLine) (hd:(a==sysModules)=false) (rel:KV kvs vs) (dd:h'.DictOf (qq P w) a vs) :
  ObjOk P w H' h' a (.dK kvs):=⟨z,hd,vs,rel,dd⟩
end
section
variable {X:Cx} {pins:List (Addr×Obj)} {σ:St} {H:Hp} {s:Shared} {a:Addr} {kvs:List (Key×V)} {k:Key} {u:Value} {A:Around} {E:Value->Shared->Prop}
end
section
variable {X:Cx} {o i e value:Expr} {pos pos' tpos:Pos} {td ty tv:TE}
end
theorem Y1 {P:Program}{w:World}{H:Hp}(h:Heap) (hb:sysModules<h.objs.size):ObjOk P w H (h.push { cls:=.type "dict",data:=.dict #[] }) h.objs.size (.dK []) :=
 ⟨Nat.zero_le _,beq_eq_false_iff_ne.mpr (Ne.symm (Nat.ne_of_lt hb)),[],.nil,Heap.DictOf.new h⟩
noncomputable def zd4:TE:=fun _ H Q=>∀ p,H p=none->Q (.ref p) (upd H p (.dK []))
section
variable {X:Cx} {pos:Pos}
theorem pe_dnewK:PE X (.Dict [] [] pos) zd4:=fun pins s σ H Q I h=>
 wpAny_Dict_empty ⟨.ref s.heap.objs.size,_,I.laid (a:=s.heap.objs.size) (o:=.dK []) (t':=s.toks) (fun _ _ q=>Heap.get?_push_of_some _ q) (Nat.le_refl _) (Y1 s.heap I.big),rfl,h _ (I.hok.fresh (Nat.le_refl _))⟩
end
section
variable {X:Cx} {pins:List (Addr×Obj)} {σ:St} {H:Hp} {s:Shared} {a:Addr} {y d:V} {u r:Value} {o:Option V} {A:Around} {E:Value->Shared->Prop}
end
section
variable {X:Cx} {o e f:Expr} {apos cpos:Pos} {td ty tx:TE}
end
section
variable {X:Cx} {pins:List (Addr×Obj)} {σ:St} {H:Hp} {s:Shared} {a:Addr} {kvs:List (Key×V)} {A:Around} {E:Value->Shared->Prop}
end
section
variable {X:Cx} {pins:List (Addr×Obj)} {σ:St} {H:Hp} {s:Shared} {a:Addr} {y:V} {u:Value} {A:Around} {E:Value->Shared->Prop}
end
end L2
namespace L2
open PySem PySem.Spec PyProof.Rows
section
variable {X:Cx}
end
end L2
namespace L2
open PySem PySem.Spec PyProof.Rows
theorem zX {α β:Type} [BEq α] [LawfulBEq α]:∀ {l:List (α×β)}{x:α}{v:β},l.lookup x=some v->(x,v)∈l
 | [],_,_,h=>by simp at h
 | (a,b)::r,x,v,h=>by
  rw[List.lookup_cons] at h
  cases e:x==a with
  | true=>rw[e] at h; have e':=eq_of_beq e; subst e'; cases h; exact List.mem_cons_self
  | false=>rw[e] at h; exact List.mem_cons_of_mem _ (zX h)
theorem Zf {env:Env}:∀ (names:List (Str×NameKind)) (cs:List (Str×Addr)),
    (∀ y∈names,y.2=.free->∃ c,env.cells.lookup y.1=some c)->(∀ x c,cs.lookup x=some c->env.cells.lookup x=some c) ->
    ∃ cl,(forIn names cs fun x r=>if (x.snd==NameKind.free)=true then do
                let z<-cellOf env x.fst
                pure (ForInStep.yield ((x.fst,z)::r))
              else pure (ForInStep.yield r):Sem (List (Str×Addr)))=pure cl/\(∀ x c,cl.lookup x=some c->env.cells.lookup x=some c) /\
      (∀ x,(∃ c,cs.lookup x=some c)∨(x,NameKind.free)∈names->∃ c,cl.lookup x=some c)
  | [],cs,_,h2=>⟨cs,by simp,h2,fun x hx=>by
      rcases hx with h | h
      · exact h
      · cases h⟩
  | (n,k)::r,cs,h1,h2=>by
    rw[List.forIn_cons]
    by_cases hk:k=.free
    · subst hk
      obtain⟨c,hc⟩:=h1 (n,.free) List.mem_cons_self rfl
      have e:cellOf env n=pure c:=by unfold cellOf; rw[hc]
      obtain⟨cl,e1,h3,h4⟩:=Zf r ((n,c)::cs) (fun y hy=>h1 y (List.mem_cons_of_mem _ hy)) (fun x c' hx=>by
        rw[List.lookup_cons] at hx
        cases q:x==n with
        | true=>rw[q] at hx; cases hx; rw[eq_of_beq q]; exact hc
        | false=>rw[q] at hx; exact h2 x c' hx)
      refine⟨cl,?_,h3,fun x hx=>h4 x ?_⟩
      · simp only [beq_self_eq_true, if_true, e, pure_bind]
        exact e1
      · by_cases q : x = n
        · subst q; exact .inl ⟨c,by simp⟩
        · rcases hx with ⟨c', hx⟩ | hx
          · exact .inl ⟨c',by rw[List.lookup_cons,beq_eq_false_iff_ne.mpr q]; exact hx⟩
          · rcases List.mem_cons.mp hx with z | z
            · exact absurd (congrArg Prod.fst z) q
            · exact .inr z
    · have hb : (k == NameKind.free) = false := by simpa using hk
      obtain⟨cl,e1,h3,h4⟩:=Zf r cs (fun y hy=>h1 y (List.mem_cons_of_mem _ hy)) h2
      refine⟨cl,?_,h3,fun x hx=>h4 x ?_⟩
      · simp only [hb, Bool.false_eq_true, if_false, pure_bind]
        exact e1
      · rcases hx with hx | hx
        · exact .inl hx
        · rcases List.mem_cons.mp hx with z | z
          · exact absurd (congrArg Prod.snd z).symm hk
          · exact .inr z
theorem Va {sc:Scope}{env:Env}(h:∀ y∈sc.names,y.2=.free->∃ c,env.cells.lookup y.1=some c) :
  ∃ cl,closureFor sc env=pure cl/\(∀ x c,cl.lookup x=some c->env.cells.lookup x=some c)/\(∀ x,(x,NameKind.free)∈sc.names->∃ c,cl.lookup x=some c):=by
 obtain⟨cl,e,h1,h2⟩:=Zf (env:=env) sc.names [] h (fun x c z=>by simp at z)
 refine⟨cl,?_,h1,fun x hx=>h2 x (.inr hx)⟩
 simp only[closureFor]
 rw[bind_pure]
 exact e
noncomputable def zal (X:Cx) (C:Addr) (x:Value) (s':Shared):Prop:=∃ m,s'.heap.Ns C m/\∀ h',Heap.SameBut C s'.heap h'->∀ cenv:Env,cenv.locals=C->wpAny (model X.prog X.w) X.A (passOn "comprehension.variables-let-go" x cenv:Sem Value) (fun _ _=>False) X.xe { s' with heap:=h' }
noncomputable abbrev Cx.comp (X:Cx) (N':List Str) (scope:Scope) (cl:List (Str×Addr)) (C:Addr) (s2:Shared) (H2:Hp) (fp:List Addr):Cx :=
 { X with N:=N',env:=compEnvC scope cl C X.env,s₀:=s2,H₀:=H2,outer:=X.stack,stack:=X.stack,ex:=fp,fn:=fun x=>decide (scope.names.lookup x=some .cell),pn:= [],xe:=notedBy (model X.prog X.w) X.A (compEnvC scope cl C X.env) (zal X C) }
structure CSc (psc:Scope) (N:List Str) (sc:Scope) (N':List Str) (k:Nat) (ix:List Nat):Prop where
 kind:sc.kind=.function
 cel:∀ y∈sc.names,y.2=.cell->sc.names.lookup y.1=some .cell
 loc:∀ y∈sc.names,y.2=.local->sc.names.lookup y.1=some .local
 fre:∀ y∈sc.names,y.2=.free->psc.names.lookup y.1=some .cell∨psc.names.lookup y.1=some .free
 len:N'.length=k+ix.length
 nd:N'.Nodup
 cap:∀ (j i:Nat),ix[j]?=some i->∃ y,N'[k+j]?=some y/\N[i]?=some y/\sc.names.lookup y=some .free
noncomputable def V4 (psc:Scope) (N:List Str) (sc:Scope) (N':List Str) (k:Nat) (ix:List Nat):Bool :=
 decide (sc.kind=.function)&&sc.names.all (fun y=>(decide (y.2≠ .cell)||decide (sc.names.lookup y.1=some .cell))&&(decide (y.2≠ .local)||decide (sc.names.lookup y.1=some .local))&&(decide (y.2≠ .free)||decide (psc.names.lookup y.1=some .cell)||decide (psc.names.lookup y.1=some .free))) &&
 decide (N'.length=k+ix.length)&&decide N'.Nodup&&(List.range ix.length).all (fun j=>match N'[k+j]?,N[ix.getD j 0]? with
  | some y,some z=>decide (y=z)&&decide (sc.names.lookup y=some .free)
  | _,_=>false)
theorem CSc.of {psc:Scope}{N:List Str}{sc:Scope}{N':List Str}{k:Nat}{ix:List Nat}(h:V4 psc N sc N' k ix=true):CSc psc N sc N' k ix:=by
 unfold V4 at h
 simp only[Bool.and_eq_true,decide_eq_true_eq,List.all_eq_true,Bool.or_eq_true] at h
 obtain⟨⟨⟨⟨h1,h2⟩,h3⟩,h4⟩,h5⟩:=h
 refine⟨h1,fun y hy e=>?_,fun y hy e=>?_,fun y hy e=>?_,h3,h4,fun j i e=>?_⟩
 ·rcases (h2 y hy).1.1 with z | z
  ·exact absurd e z
  ·exact z
 ·rcases (h2 y hy).1.2 with z | z
  ·exact absurd e z
  ·exact z
 ·rcases (h2 y hy).2 with (z | z) | z
  ·exact absurd e z
  ·exact .inl z
  ·exact .inr z
 ·obtain⟨hj,ei⟩:=List.getElem?_eq_some_iff.mp e
  have:=h5 j (List.mem_range.mpr hj)
  have e2:ix.getD j 0=i:=by rw[List.getD_eq_getElem?_getD,e]; rfl
  rw[e2] at this
  split at this
  ·rename_i y z ey ez
   simp only[Bool.and_eq_true,decide_eq_true_eq] at this
   obtain⟨rfl,hl⟩:=this
   exact⟨y,ey,ez,hl⟩
  ·cases this
noncomputable def cS (k:Nat) (ix:List Nat) (σ:St):St:=List.replicate k none++ix.map fun i=>(σ[i]?).join
theorem ZG {env:Env}:∀ {names:List (Str×NameKind)}{x:Str},
    ((names.map fun (n,k)=>if (k==NameKind.free&&env.scope.kind==.function&&env.kindOf n==some .cell) then (n,NameKind.cell) else (n,k)).lookup x=some .cell ∨
     (names.map fun (n,k)=>if (k==NameKind.free&&env.scope.kind==.function&&env.kindOf n==some .cell) then (n,NameKind.cell) else (n,k)).lookup x=some .free)->names.lookup x=some .free∨names.lookup x=some .cell
  | [],_,h=>by simp at h
  | (n,k)::r,x,h=>by
    have ih:=@ZG env r x
    rw[List.map_cons] at h
    dsimp only at h
    by_cases hcd:(k==NameKind.free&&env.scope.kind==.function&&env.kindOf n==some .cell)=true
    · have hkf : k = .free := by
        simp only[Bool.and_eq_true] at hcd
        exact eq_of_beq hcd.1.1
      rw[if_pos hcd] at h
      cases hx:x==n with
      | true=>rw[List.lookup_cons,hx,hkf]; exact .inl rfl
      | false=>simp only[List.lookup_cons,hx] at h; simp only[List.lookup_cons,hx]; exact ih h
    · rw [if_neg hcd] at h
      cases hx:x==n with
      | true=>
        simp only[List.lookup_cons,hx] at h
        rw[List.lookup_cons,hx]
        rcases h with h | h
        · exact .inr h
        · exact .inl h
      | false=>simp only[List.lookup_cons,hx] at h; simp only[List.lookup_cons,hx]; exact ih h
theorem Q0 {env:Env}:∀ {names:List (Str×NameKind)}{x:Str},names.lookup x=some .free ->
    ((names.map fun (n,k)=>if (k==NameKind.free&&env.scope.kind==.function&&env.kindOf n==some .cell) then (n,NameKind.cell) else (n,k)).lookup x=some .cell ∨
     (names.map fun (n,k)=>if (k==NameKind.free&&env.scope.kind==.function&&env.kindOf n==some .cell) then (n,NameKind.cell) else (n,k)).lookup x=some .free)
  | [],_,h=>by simp at h
  | (n,k)::r,x,h=>by
    have ih:=@Q0 env r x
    rw[List.map_cons]
    dsimp only
    cases hx:x==n with
    | true=>
      rw[List.lookup_cons,hx] at h
      cases h
      by_cases hcd:(NameKind.free==NameKind.free&&env.scope.kind==.function&&env.kindOf n==some .cell)=true
      · rw[if_pos hcd]; simp[List.lookup_cons,hx]
      · rw[if_neg hcd]; simp[List.lookup_cons,hx]
    | false=>
      rw[List.lookup_cons,hx] at h
      by_cases hcd:(k==NameKind.free&&env.scope.kind==.function&&env.kindOf n==some .cell)=true
      · rw[if_pos hcd]; simp only[List.lookup_cons,hx]; exact ih h
      · rw[if_neg hcd]; simp only[List.lookup_cons,hx]; exact ih h
structure ClOk (X:Cx) (sc:Scope) (cl:List (Str×Addr)) (C:Addr) (h4:Heap):Prop where
 src:∀ x c,cl.lookup x=some c->X.env.cells.lookup x=some c∨(C<c/\h4.IsCell c none)
 inj:∀ x y c,cl.lookup x=some c->cl.lookup y=some c->x=y
 has:∀ x,(sc.names.lookup x=some .free∨sc.names.lookup x=some .cell)->∃ c,cl.lookup x=some c
 own:∀ x c,sc.names.lookup x=some .cell->cl.lookup x=some c->C<c
 old:∀ x c,sc.names.lookup x=some .free->cl.lookup x=some c->X.env.cells.lookup x=some c
theorem z8:∀ (names:List (Str×NameKind)) (n:Nat) (acc:List (Str×Addr)),cellsFrom n names acc=cellsFrom n names []++acc
 | [],n,acc=>rfl
 | (x,k)::r,n,acc=>by
  unfold cellsFrom
  split
  ·rw[z8 r (n+1) ((x,n)::acc),z8 r (n+1) [(x,n)],List.append_assoc]; rfl
  ·exact z8 r n acc
theorem jl:∀ (names:List (Str×NameKind)) (n:Nat) (y:Str×Addr),y∈cellsFrom n names []->(y.1,NameKind.cell)∈names
 | [],n,y,h=>by cases h
 | (x,k)::r,n,y,h=>by
  unfold cellsFrom at h
  split at h
  ·rename_i hk
   rw[z8] at h
   rcases List.mem_append.mp h with h | h
   ·exact List.mem_cons_of_mem _ (jl r _ y h)
   ·have e:y=(x,n):=by simpa using h
    subst e
    have hk':k=.cell:=eq_of_beq hk
    subst hk'
    exact List.mem_cons_self
  ·exact List.mem_cons_of_mem _ (jl r _ y h)
theorem Zm {β:Type}:∀ (l1 l2:List (Str×β)) (x:Str),(l1++l2).lookup x=(match l1.lookup x with | some v=>some v | none=>l2.lookup x)
 | [],l2,x=>rfl
 | (a,b)::l1,l2,x=>by
  rw[List.cons_append,List.lookup_cons,List.lookup_cons]
  cases x==a with
  | true=>rfl
  | false=>exact Zm l1 l2 x
theorem J7 {M:Model}{A:Around}{E:Value->Shared->Prop}{s:Shared}{scope:Scope}{globals:Addr}{cl:List (Str×Addr)}{qual:Str}{env:Env}{builtins:Addr}{Q:Env->Shared->Prop}
  (hQ:Q (newEnv scope s.heap.objs.size globals (cellsFrom (s.heap.objs.size+1) scope.names cl) qual none .none (some env) builtins) { s with heap:=pushCells (s.heap.push { cls:=.type "dict",data:=.dict #[] }) scope.names }) :
  wpAny M A (newFunctionEnv scope globals cl [] qual none .none (some env) builtins) Q E s:=by
 simp only[newFunctionEnv,Option.isSome_some,if_true]
 refine wpAny_bind (wpAny_alloc ?_)
 refine wpAny_bind (wpAny_layCells _ (fun name kind cells=>by cases hkc:kind==NameKind.cell <;> simp[hkc]) _ _ _ _ ?_)
 rw[show ({ s with heap:=s.heap.push { cls:=.type "dict",data:=.dict #[] } }:Shared).heap.objs.size=s.heap.objs.size+1 from Heap.size_push ..]
 simp only[List.forIn_nil]
 exact wpAny_bind (wpAny_pure (wpAny_pure hQ))
section
variable {X:Cx} {pins:List (Addr×Obj)} {σ:St} {H:Hp} {s2:Shared}
theorem ClOk.of {sc:Scope}{N':List Str}{ix:List Nat}{k:Nat}(I:Inv X pins σ H s2) (S:CSc X.env.scope X.N sc N' k ix){cl:List (Str×Addr)}(hcl1:∀ x c,cl.lookup x=some c->X.env.cells.lookup x=some c) (hcl2:∀ x,(x,NameKind.free)∈sc.names->∃ c,cl.lookup x=some c)
  {g:Heap} {o:Obj} (hg:s2.heap.objs.size<=g.objs.size):ClOk X sc (cellsFrom (g.objs.size+1) sc.names cl) g.objs.size (pushCells (g.push o) sc.names):=by
 have ok:=cellsFrom_ok sc.names (g.push o) (g.objs.size+1) [] ⟨(fun _ _ hm=>nomatch hm),List.Pairwise.nil⟩ (by rw[Heap.size_push]; exact Nat.le_refl _)
 rw[Heap.size_push] at ok
 rw[z8]
 have hnew:∀ x c,(cellsFrom (g.objs.size+1) sc.names []).lookup x=some c->g.objs.size<c/\(pushCells (g.push o) sc.names).IsCell c none/\(x,NameKind.cell)∈sc.names:=fun x c e=>by
  have hm:=zX e
  have:=ok.empty x c hm
  exact⟨Nat.lt_of_succ_le this.2,this.1,jl _ _ _ hm⟩
 have hold:∀ x c,cl.lookup x=some c->c<g.objs.size:=fun x c e=>by
  obtain⟨v,ob,hob,_⟩:=I.cell x c (hcl1 x c e)
  exact Nat.lt_of_lt_of_le (Heap.lt_size hob) hg
 have hget:∀ x c,(cellsFrom (g.objs.size+1) sc.names []++cl).lookup x=some c->((cellsFrom (g.objs.size+1) sc.names []).lookup x=some c)∨((cellsFrom (g.objs.size+1) sc.names []).lookup x=none/\cl.lookup x=some c):=fun x c e=>by
  rw[Zm] at e
  cases q:(cellsFrom (g.objs.size+1) sc.names []).lookup x with
  | some v=>rw[q] at e; exact .inl e
  | none=>rw[q] at e; exact .inr ⟨rfl,e⟩
 have hnone:∀ x,sc.names.lookup x=some .free->(cellsFrom (g.objs.size+1) sc.names []).lookup x=none:=fun x hx=>by
  cases q:(cellsFrom (g.objs.size+1) sc.names []).lookup x with
  | none=>rfl
  | some c=>
   have:=S.cel (x,.cell) (hnew x c q).2.2 rfl
   rw[hx] at this; cases this
 refine⟨fun x c e=>?_,fun x y c e1 e2=>?_,fun x hx=>?_,fun x c hx e=>?_,fun x c hx e=>?_⟩
 ·rcases hget x c e with q | ⟨_,q⟩
  ·exact .inr ⟨(hnew x c q).1,(hnew x c q).2.1⟩
  ·exact .inl (hcl1 x c q)
 ·rcases hget x c e1 with q1 | ⟨_,q1⟩
  ·rcases hget y c e2 with q2 | ⟨_,q2⟩
   ·have m1:=zX q1
    have m2:=zX q2
    by_cases hxy:x=y
    ·exact hxy
    ·exfalso
     have:=ok.apart
     obtain⟨i,hi,ei⟩:=List.getElem_of_mem m1
     obtain⟨j,hj,ej⟩:=List.getElem_of_mem m2
     have pw:=List.pairwise_iff_getElem.mp this
     rcases Nat.lt_trichotomy i j with h | h | h
     ·have:=pw i j hi hj h
      rw[ei,ej] at this; exact this rfl
     ·subst h
      rw[ei] at ej
      exact hxy (congrArg Prod.fst ej)
     ·have:=pw j i hj hi h
      rw[ei,ej] at this; exact this rfl
   ·exact absurd (hold y c q2) (Nat.not_lt.mpr (Nat.le_of_lt (hnew x c q1).1))
  ·rcases hget y c e2 with q2 | ⟨_,q2⟩
   ·exact absurd (hold x c q1) (Nat.not_lt.mpr (Nat.le_of_lt (hnew y c q2).1))
   ·exact I.ok.inj x y c (hcl1 x c q1) (hcl1 y c q2)
 ·rw[Zm]
  rcases hx with hx | hx
  ·rw[hnone x hx]
   exact hcl2 x (zX hx)
  ·obtain⟨c,hc⟩:=Zy (n:=g.objs.size+1) hx
   rw[hc]; exact⟨c,rfl⟩
 ·rcases hget x c e with q | ⟨q,_⟩
  ·exact (hnew x c q).1
  ·obtain⟨c',hc⟩:=Zy (n:=g.objs.size+1) hx
   rw[hc] at q; cases q
 ·rcases hget x c e with q | ⟨_,q⟩
  ·rw[hnone x hx] at q; cases q
  ·exact hcl1 x c q
theorem Inv.child {fp:List Addr}{sc:Scope}{N':List Str}{ix:List Nat}{k:Nat}(I:Inv X pins σ H s2) (S:CSc X.env.scope X.N sc N' k ix) (hf:∀ b∈fp,ZL X pins H b)
  (hfo:∀ b∈fp,∃ o,s2.heap.get? b=some o) {cl:List (Str×Addr)}
  {C:Addr} {s4:Shared} (L:ClOk X sc cl C s4.heap) (hC:s2.heap.objs.size<=C) (keep:∀ b o,s2.heap.get? b=some o->s4.heap.get? b=some o) {m0:Str->Option Value} (hns:s4.heap.Ns C m0) (ho:s4.os=s2.os) (hg:AllBare s4.gens) :
  Inv (X.comp N' sc cl C s2 H fp) [] (cS k ix σ) H s4 where
 ok:={
  mod:=I.ok.mod
  kind:=S.kind
  glob:=I.ok.glob
  blt:=I.ok.blt
  above:=hC
  inj:=L.inj
  has:=fun x hx=>L.has x (ZG (env:=X.env) hx)
  cab:=fun x c h e=>Nat.le_trans hC (Nat.le_of_lt (L.own x c (of_decide_eq_true h) e))
  hd:=I.ok.hd
  frames:=I.ok.frames
  stk:=.inl rfl
  exf:=fun b hb=>by
   obtain⟨f0,f1,f2,f3,f4,f5⟩:=hf b hb
   obtain⟨o,e⟩:=hfo b hb
   refine⟨Nat.ne_of_lt (Nat.lt_of_lt_of_le (Heap.lt_size e) hC),fun x c z=>?_⟩
   rcases L.src x c z with z | z
   ·exact f4 x c z
   ·exact Ne.symm (Nat.ne_of_lt (Nat.lt_trans (Nat.lt_of_lt_of_le (Heap.lt_size e) hC) z.1))
  bs:=fun b o e=>I.bs b o e
  bsz:=Nat.le_trans I.ok.bsz I.sz
  noex:=fun b o e hb=>by
   obtain⟨f0,f1,f2,f3,f4,f5⟩:=hf b hb
   rcases f3 with z | z
   ·exact I.ok.noex b o e z
   ·exact absurd (Nat.lt_of_lt_of_le (Heap.lt_size (I.ok.bs b o e).1) z) (Nat.lt_irrefl _)
  exfs:=fun b hb hz=>by
   obtain⟨f0,f1,f2,f3,f4,f5⟩:=hf b hb
   rcases List.mem_cons.mp (I.stkSub b hz) with z | z
   ·exact f1 z
   ·exact f2 z
  funs:=I.stack
  frf:=I.stkFree }
 os:=ho
 bare:=hg
 base:=Un.kept keep
 loc:=⟨m0,hns,fun i x v e1 e2 e3=>by
  unfold cS at e2
  by_cases hi:i<k
  ·rw[List.getElem?_append_left (by simpa using hi),List.getElem?_replicate,if_pos hi] at e2
   cases e2
  ·obtain⟨j,rfl⟩:∃ j,i=k+j:=⟨i-k,by omega⟩
   rw[List.getElem?_append_right (by simp),List.length_replicate,Nat.add_sub_cancel_left,List.getElem?_map] at e2
   cases q:ix[j]? with
   | none=>rw[q] at e2; cases e2
   | some i0=>
    rw[q] at e2
    obtain⟨y,hy1,hy2,hy3⟩:=S.cap j i0 q
    have ey:y=x:=by
     have:(X.comp N' sc cl C s2 H fp).N[k+j]?=some y:=hy1
     rw[this] at e1; exact Option.some.inj e1
    subst ey
    have ev:σ[i0]?=some (some v):=by
     simp only[Option.map_some,Option.some.injEq] at e2
     cases r:σ[i0]? with
     | none=>rw[r] at e2; cases e2
     | some z=>rw[r] at e2; exact congrArg some e2
    obtain⟨m,hn,hl⟩:=I.loc
    have hfr:=S.fre (y,.free) (zX hy3) rfl
    have hv:Vis X.env.scope y:=.inr hfr
    obtain⟨u,r1,l1⟩:=hl i0 y v hy2 ev hv
    refine⟨u,r1,.inr ⟨Q0 (env:=X.env) hy3,?_⟩⟩
    obtain⟨c,hc⟩:=L.has y (.inl hy3)
    refine⟨c,hc,?_⟩
    have hc':=L.old y c hy3 hc
    rcases l1 with ⟨hk,_⟩ | ⟨_,c',hc2,z⟩
    ·have hk':X.env.scope.names.lookup y=some .local:=hk
     rcases hfr with w | w
     ·rw[hk'] at w; cases w
     ·rw[hk'] at w; cases w
    ·rw[hc'] at hc2; cases hc2
     obtain⟨ob,hob,hd⟩:=z
     exact⟨ob,keep _ _ hob,hd⟩⟩
 cell:=fun x c e=>by
  rcases L.src x c e with e | e
  ·obtain⟨v,ob,hob,hd⟩:=I.cell x c e
   exact⟨v,ob,keep _ _ hob,hd⟩
  ·exact⟨none,e.2⟩
 free:=I.hok.fresh hC
 freeC:=fun x c e=>by
  rcases L.src x c e with e | e
  ·exact I.freeC x c e
  ·exact I.hok.fresh (Nat.le_trans hC (Nat.le_of_lt e.1))
 pin:=fun p hp=>by cases hp
 hok:=I.hok.kept keep
 len:=by
  show (cS k ix σ).length=N'.length
  rw[S.len]; unfold cS; simp
theorem Inv.back {fp:List Addr}{sc:Scope}{N':List Str}{cl:List (Str×Addr)}{C:Addr}{pl:List (Addr×Obj)}{σc:St}{H5:Hp}{s5:Shared}(I:Inv X pins σ H s2) (hf:∀ b∈fp,ZL X pins H b) (J:Inv (X.comp N' sc cl C s2 H fp) pl σc H5 s5):Inv X pins σ H5 s5 :=
 I.call' (ch:=fp) J.os J.base J.hok J.bare fun b hb=>by
  obtain⟨f0,f1,f2,f3,f4,f5⟩:=hf b hb
  exact⟨f3,f1,f4,f5⟩
end
section
variable {X:Cx} {pins:List (Addr×Obj)} {σ:St} {H:Hp} {s:Shared}
theorem Inv.track {a:Addr}{o:HO}(I:Inv X pins σ H s) (ha:X.s₀.heap.objs.size<=a) (hn:H a=none) (hL:a≠X.env.locals) (hc:∀ x c,X.env.cells.lookup x=some c->c≠a) (hp:∀ p∈X.pn++pins,p.1≠a)
  (new:ObjOk X.prog X.w (upd H a o) s.heap a o):Inv X pins σ (upd H a o) s where
 ok:=I.ok
 os:=I.os
 bare:=I.bare
 base:={
  keep:=I.base.keep
  slot:=I.base.slot
  free:=fun b ob e n hx=>by
   rw[ze (Nat.ne_of_lt (Nat.lt_of_lt_of_le (Heap.lt_size e) ha))]
   exact I.base.free b ob e n hx
  there:=I.base.there
  tups:=fun b xs e=>by
   have:=I.base.tups b xs e
   rw[ze (zH this hn)]; exact this
  frzs:=fun b ob u e=>by
   have:=I.base.frzs b ob u e
   rw[ze (zH this hn)]; exact this
  tbls:=fun b ps e=>by
   obtain⟨mo,this⟩:=I.base.tbls b ps e
   exact⟨mo,by rw[ze (zH this hn)]; exact this⟩ }
 loc:=I.loc
 cell:=I.cell
 free:=by rw[ze (Ne.symm hL)]; exact I.free
 freeC:=fun x c e=>by rw[ze (hc x c e)]; exact I.freeC x c e
 pin:=fun p h=>by
  obtain⟨e,n,r⟩:=I.pin p h
  exact⟨e,by rw[ze (hp p h)]; exact n,r⟩
 hok:=fun b u q=>by
  by_cases hb:b=a
  ·subst hb; rw[zj] at q; cases q; exact new
  ·rw[ze hb] at q
   exact (I.hok b u q).stay (fun c v _ r=>r) (fun c r=>by rw[ze (zH r hn)]; exact r) fun c xs r=>by rw[ze (zH r hn)]; exact r
 len:=I.len
end
noncomputable def PF (X:Cx) (ifs:List Expr) (t:TT):Prop :=
 ∀ (pins:List (Addr×Obj)) (s:Shared) (σ:St) (H:Hp) (Q:Bool->Hp->Prop),Inv X pins σ H s->t σ H Q ->
  wpAny (model X.prog X.w) X.A (forIn ifs true fun c r=>if r=true then do let ok<-isTrue c X.env (eval c X.env); pure (ForInStep.yield ok) else pure (ForInStep.yield r)) (TP X pins σ Q) X.xe s
noncomputable def zfe:TT:=fun _ H Q=>Q true H
theorem pf_nil {X:Cx}:PF X [] zfe:=fun _ _ _ H _ I h=>wpAny_tests_nil ⟨H,I,h⟩
theorem zdm {X:Cx}{c:Expr}{t:TT}(h:PT X c t):PF X [c] t:=fun pins s σ H Q I hw=>wpAny_tests_one (h pins s σ H Q I hw)
theorem WY {prog:Program}{w:World}{A:Around}{R:Result->Shared->Prop}{s:Shared}{e target iter:Expr}{ifs:List Expr}{it acc:Value}{env:Env}{act:Sem Unit}(hlp:∀ (R:Result->Shared->Prop) (s:Shared) (I:Nat->Shared->Prop) (n:Nat),(∀ n s,I n s->wpAny (model prog w) A ((compTurn e 0 it acc env).onRaise (fun x=>do noteFrame x env; theTreesLotGoes x)) (fun fin s'=>match fin with
   | .done f=>R (.ok f) s'
   | .again c'=>c'=Code.compLoop e 0 it acc env/\∃ m,m<n/\I m s') (fun e s'=>R (.error e) s') s)->I n s->codeAny (model prog w) A (.compLoop e 0 it acc env) R s)
  (heq:compTurn e 0 it acc env=(do
   standAt iter.pos
   match<-pyNext it with
   | none=>pure (.done .next)
   | some v=>
    letOwnedTupleGo target it v
    assign target env v
    let mut ok:=true
    for c in ifs do
     if ok then ok<-isTrue c env (eval c env)
    if ok then act
    again (.compLoop e 0 it acc env))) (I:Nat->Shared->Prop)
  (turn:∀ n s,I n s->wpAny (model prog w) A (pyNext it) (fun r s₁=>match r with
   | none=>R (.ok .next) s₁
   | some v=>wpAny (model prog w) A (letOwnedTupleGo target it v) (fun _ s₁=>wpAny (model prog w) A (assign target env v) (fun _ s₂=>
     wpAny (model prog w) A (forIn ifs true fun c r=>if r=true then do let ok<-isTrue c env (eval c env); pure (ForInStep.yield ok) else pure (ForInStep.yield r)) (fun ok s₃=>
      if ok=true then wpAny (model prog w) A act (fun _ s₅=>∃ m,m<n/\I m s₅) (notedBy (model prog w) A env fun e s'=>R (.error e) s') s₃
      else ∃ m,m<n/\I m s₃) (notedBy (model prog w) A env fun e s'=>R (.error e) s') s₂) (notedBy (model prog w) A env fun e s'=>R (.error e) s') s₁) (notedBy (model prog w) A env fun e s'=>R (.error e) s') s₁) (notedBy (model prog w) A env fun e s'=>R (.error e) s') s)
  (n:Nat) (h:I n s):codeAny (model prog w) A (.compLoop e 0 it acc env) R s:=by
 refine hlp R s I n (fun n s hI=>?_) h
 refine wpAny_noted ?_
 rw[heq]
 refine wpAny_bind (wpAny_standAt (wpAny_bind (wpAny_mono (turn n s hI) (fun r s₁ h₁=>?_) fun _ _ f=>f)))
 cases r with
 | none=>exact wpAny_pure h₁
 | some v=>
  refine wpAny_bind (wpAny_mono h₁ (fun _ s₂ h₂=>?_) fun _ _ f=>f)
  refine wpAny_bind (wpAny_mono h₂ (fun _ s₂ h₂=>wpAny_bind (wpAny_mono h₂ (fun ok s₃ h₃=>?_) fun _ _ f=>f)) fun _ _ f=>f)
  cases ok with
  | false=>exact wpAny_pure ⟨rfl,h₃⟩
  | true=>exact wpAny_bind (wpAny_mono h₃ (fun _ s₅ h₅=>wpAny_pure ⟨rfl,h₅⟩) fun _ _ f=>f)
structure Acc (α β:Type) where
 a0:α
 add:α->β->α
 len:α->Nat
 ho:α->HO
noncomputable def JZ {α β:Type}(ac:Acc α β) (k:Nat) (ix:List Nat) (g:TG) (tt:TT) (te:St->Hp->(β->Hp->Prop)->Prop) (σ:St) (J:It) (H1:Hp) (Q:α->Hp->Prop):Prop :=
 ∃ W:Nat->Nat->α->Hp->Prop,(∃ m,W 0 m ac.a0 H1)/\∀ i m ys H,W i m ys H->ac.len ys<sizeLine /\
  ((J.stop i H/\Q ys H)∨(J.go i H/\∃ N:α->Hp->Prop,(∀ ys' H',N ys' H'->∃ m',m'<m/\W (i+1) m' ys' H')/\∀ x H',J.yld i H x H'->g x (cS k ix σ) H' fun σ2 H2=>σ2.drop k=(cS k ix σ).drop k/\tt σ2 H2 fun b H3=>
   if b=true then te σ2 H3 fun y H4=>N (ac.add ys y) H4 else N ys H3))
noncomputable abbrev zap:Acc (List V) V:=⟨[],fun ys y=>ys++ [y],List.length,.lst⟩
noncomputable abbrev zao:Acc (List (Key×V)) (Key×V):=⟨[],fun ys y=>Vy ys y.1 y.2,List.length,.dK⟩
noncomputable def wM (k:Nat) (ix:List Nat) (wi:TI) (g:TG) (tt:TT) (te:TE):TE:=fun σ H Q=>
 wi σ H fun J H1=>JZ zap k ix g tt te σ J H1 fun ys H2=>∀ p,H2 p=none->Q (.ref p) (upd H2 p (.lst ys))
noncomputable def vL (tk tv:TE):St->Hp->(Key×V->Hp->Prop)->Prop:=fun σ H Q=>tk σ H fun x H1=>tv σ H1 fun y H2=>∃ k,x=kV k/\Q (k,y) H2
noncomputable def QK (k:Nat) (ix:List Nat) (wi:TI) (g:TG) (tt:TT) (te:St->Hp->(Key×V->Hp->Prop)->Prop):TE:=fun σ H Q=>
 wi σ H fun J H1=>JZ zao k ix g tt te σ J H1 fun ys H2=>∀ p,H2 p=none->Q (.ref p) (upd H2 p (.dK ys))
structure zct (P:Program) (w:World){α β γ:Type}(ac:Acc α β) (OK:α->Obj->Prop) (RB:β->γ->Prop) (o0:Obj) (na:Sem Value) (st:Addr->γ->Sem Unit):Prop where
 new:∀ (A:Around) (E:Value->Shared->Prop) (s:Shared) (Q:Value->Shared->Prop),Q (.ref s.heap.objs.size) { s with heap:=s.heap.push o0 }->wpAny (model P w) A na Q E s
 z0:OK ac.a0 o0
 live:o0.isFreed=false
 cell:∀ a o,OK a o->∀ v,o.data≠ .cell v
 st:∀ (A:Around) (E:Value->Shared->Prop) (s:Shared) (Q:Unit->Shared->Prop) (D:Addr) (a:α) (o:Obj) (y:β) (b:γ),OK a o->ac.len a<sizeLine->RB y b->s.heap.get? D=some o ->
  (∀ h' o' t',Heap.SameBut D s.heap h'->h'.get? D=some o'->OK (ac.add a y) o'->Q () { s with heap:=h',toks:=t' })->wpAny (model P w) A (st D b) Q E s
 ok:∀ (H:Hp) (h:Heap) (D:Addr) (a:α) (o:Obj),OK a o->ac.len a<=sizeLine->sysModules<D->h.get? D=some o->ObjOk P w H h D (ac.ho a)
noncomputable def PEv (X:Cx){β γ:Type}(RB:β->γ->Prop) (st:Addr->γ->Sem Unit) (act:Addr->Env->Sem Unit) (te:St->Hp->(β->Hp->Prop)->Prop):Prop:=∀ (D:Addr) (pins:List (Addr×Obj)) (s:Shared) (σ:St) (H:Hp) (Q:β->Hp->Prop) (R:Unit->Shared->Prop),Inv X pins σ H s->te σ H Q ->
 (∀ y b s' H',Inv X pins σ H' s'->RB y b->Q y H'->wpAny (model X.prog X.w) X.A (st D b) R X.xe s')->wpAny (model X.prog X.w) X.A (act D X.env) R X.xe s
section
variable {X:Cx} {pins:List (Addr×Obj)} {σ:St} {H:Hp} {s2:Shared}
theorem wB {α β γ:Type}{ac:Acc α β}{OK:α->Obj->Prop}{RB:β->γ->Prop}{o0:Obj}{na:Sem Value}{sto:Addr->γ->Sem Unit}{act:Addr->Env->Sem Unit}{e tg iter:Expr}{ifs:List Expr}{scope:Scope}{N':List Str}{k:Nat}{ix:List Nat}{g:TG}{tt:TT}{te:St->Hp->(β->Hp->Prop)->Prop}{cl:List (Str×Addr)}{it:Addr}{fp:List Addr}{tn:Nat->Heap->Prop}{J:It}
  {Q:α->Hp->Prop} {RR:Value->Addr->Result->Shared->Prop} {E:Value->Shared->Prop} (AK:zct X.prog X.w ac OK RB o0 na sto)
  (hlp:∀ (it acc:Value) (env:Env) (R:Result->Shared->Prop) (s:Shared) (I:Nat->Shared->Prop) (n:Nat),(∀ n s,I n s->wpAny (model X.prog X.w) X.A ((compTurn e 0 it acc env).onRaise (fun x=>do noteFrame x env; theTreesLotGoes x)) (fun fin s'=>match fin with
   | .done f=>R (.ok f) s'
   | .again c'=>c'=Code.compLoop e 0 it acc env/\∃ m,m<n/\I m s') (fun e s'=>R (.error e) s') s)->I n s->codeAny (model X.prog X.w) X.A (.compLoop e 0 it acc env) R s)
  (heq:∀ it D env,compTurn e 0 it (.ref D) env=(do
   standAt iter.pos
   match<-pyNext it with
   | none=>pure (.done .next)
   | some v=>
    letOwnedTupleGo tg it v
    assign tg env v
    let mut ok:=true
    for c in ifs do
     if ok then ok<-isTrue c env (eval c env)
    if ok then act D env
    again (.compLoop e 0 it (.ref D) env)))
  (hstart:∀ (R:Result->Shared->Prop) (s:Shared) (it acc:Value) (env:Env),codeAny (model X.prog X.w) X.A (.compLoop e 0 it acc env) R s->wpAny (model X.prog X.w) X.A (pyIter it) (fun it' s'=>codeAny (model X.prog X.w) X.A (.compLoop e 0 it' acc env) R s') (notedBy (model X.prog X.w) X.A env fun x s'=>R (.error x) s') s ->
   codeAny (model X.prog X.w) X.A (.compStart e 0 it acc env) R s) (hcalm:X.calm=true)
  (S:CSc X.env.scope X.N scope N' k ix)
  (hg:∀ cl C s2 H2 fp,PG (X.comp N' scope cl C s2 H2 fp) tg g) (ht:∀ cl C s2 H2 fp,PF (X.comp N' scope cl C s2 H2 fp) ifs tt) (he:∀ cl C s2 H2 fp,PEv (X.comp N' scope cl C s2 H2 fp) RB sto act te)
  (I2:Inv X pins σ H s2) (T:WT X.prog X.w X.K tg J fp it tn) (st2:tn 0 s2.heap) (f2:∀ b∈fp,ZL X pins H b) (hR:JZ ac k ix g tt te σ J H Q)
  (hcl1:∀ x c,cl.lookup x=some c->X.env.cells.lookup x=some c) (hcl2:∀ x,(x,NameKind.free)∈scope.names->∃ c,cl.lookup x=some c)
  (herr:∀ (D C:Addr) (x:Value) (s':Shared),zal X C x s'->RR (.ref D) C (.error x) s')
  (fin:∀ (D C:Addr) (ys:α) (H5:Hp) (s5:Shared) (m:Str->Option Value),Inv X pins σ (upd H5 D (ac.ho ys)) s5->Q ys H5->H5 D=none->s5.heap.Ns C m->C≠D->s2.heap.objs.size<=C->upd H5 D (ac.ho ys) C=none ->
   RR (.ref D) C (.ok .next) s5) :
  wpAny (model X.prog X.w) X.A na (fun acc s₃=>wpAny (model X.prog X.w) X.A (newFunctionEnv scope X.env.globals cl [] X.env.qual none .none (some X.env)) (fun cenv s₄=>
   codeAny (model X.prog X.w) X.A (.compStart e 0 (.ref it) acc { cenv with scope:=relabel scope X.env }) (RR acc cenv.locals) s₄) E s₃) E s2:=by
 refine AK.new _ _ _ _ (J7 ?_)
 dsimp only
 generalize hH2:s2.heap.push o0=G2
 have hC:G2.objs.size=s2.heap.objs.size+1:=by rw[<- hH2,Heap.size_push]
 have hDC:s2.heap.objs.size≠G2.objs.size:=by rw[hC]; exact Nat.ne_of_lt (Nat.lt_succ_self _)
 have hCle:s2.heap.objs.size<=G2.objs.size:=by rw[hC]; exact Nat.le_succ _
 have L:=ClOk.of I2 S hcl1 hcl2 (g:=G2) (o:={ cls:=.type "dict",data:=.dict #[] }) hCle
 have below:∀ b,b<s2.heap.objs.size->b≠G2.objs.size/\b≠s2.heap.objs.size:=fun b hb=>⟨by rw[hC]; exact Nat.ne_of_lt (Nat.lt_succ_of_lt hb),Nat.ne_of_lt hb⟩
 have old:∀ b o,s2.heap.get? b=some o->(pushCells (G2.push { cls:=.type "dict",data:=.dict #[] }) scope.names).get? b=some o:=fun b o e=>pushCells_keeps _ _ b o (Heap.get?_push_of_some _ (hH2 ▸ Heap.get?_push_of_some _ e))
 have hacc:(pushCells (G2.push { cls:=.type "dict",data:=.dict #[] }) scope.names).get? s2.heap.objs.size=some o0:=pushCells_keeps _ _ _ _ (Heap.get?_push_of_some _ (hH2 ▸ Heap.get?_push_size _ AK.live))
 have hns₁:(pushCells (G2.push { cls:=.type "dict",data:=.dict #[] }) scope.names).Ns G2.objs.size _:=(Heap.Ns.new G2 (.type "dict")).keeps (pushCells_keeps _ _)
 generalize pushCells (G2.push { cls:=.type "dict",data:=.dict #[] }) scope.names=h₁ at L old hacc hns₁ |-
 generalize cellsFrom (G2.objs.size+1) scope.names cl=cl2 at L |-
 have st1:tn 0 h₁:=T.keep _ _ _ st2 fun b _ o e=>old b o e
 have hfo:∀ b∈fp,∃ o,s2.heap.get? b=some o:=fun b hb=>let ⟨o,e,_⟩:=T.obj _ _ st2 b hb; ⟨o,e⟩
 have Ic:Inv (X.comp N' scope cl2 G2.objs.size s2 H fp) [] (cS k ix σ) H { s2 with heap:=h₁ } :=
  I2.child S f2 hfo L hCle old hns₁ rfl I2.bare
 -- the accumulator D,as a pin
 have dfs:s2.heap.objs.size∉(X.comp N' scope cl2 G2.objs.size s2 H fp).fs:=fun hz=>by
  rcases List.mem_cons.mp (I2.stkSub _ hz) with z | z
  ·exact absurd I2.lt (by rw[<- z]; exact Nat.lt_irrefl _)
  ·exact I2.nofs (Nat.le_refl _) z
 have dcell:∀ x c,cl2.lookup x=some c->c≠s2.heap.objs.size:=fun x c e=>by
  rcases L.src x c e with e | e
  ·obtain⟨v,ob,hob,_⟩:=I2.cell x c e
   exact Nat.ne_of_lt (Heap.lt_size hob)
  ·exact Ne.symm (Nat.ne_of_lt (Nat.lt_of_le_of_lt hCle e.1))
 have dpin:∀ (ys:α) (ob:Obj) (σ':St) (H':Hp) (s':Shared),Inv (X.comp N' scope cl2 G2.objs.size s2 H fp) [] σ' H' s'->OK ys ob->s'.heap.get? s2.heap.objs.size=some ob->H' s2.heap.objs.size=none ->
   Inv (X.comp N' scope cl2 G2.objs.size s2 H fp) [(s2.heap.objs.size,ob)] σ' H' s':=fun ys ob σ' H' s' I' ok e hn=>I'.pins_of fun p hp=>by
  have e':p=(s2.heap.objs.size,ob):=by simpa using hp
  subst e'
  exact⟨e,hn,hDC,dfs,fun v z=>AK.cell _ _ ok v z⟩
 have fpc:∀ (ob:Obj) (H':Hp),(∀ b∈fp,H' b=none)->∀ b∈fp,ZL (X.comp N' scope cl2 G2.objs.size s2 H fp) [(s2.heap.objs.size,ob)] H' b:=fun ob H' hn b hb=>by
  obtain⟨f0,f1,f2',f3,f4,f5⟩:=f2 b hb
  obtain⟨o,e⟩:=hfo b hb
  have hb2:=below b (Heap.lt_size e)
  refine⟨hn b hb,hb2.1,fun hz=>?_,.inl hb,fun x c z=>?_,fun p hp=>?_⟩
  ·rcases List.mem_cons.mp (I2.stkSub b hz) with z | z
   ·exact f1 z
   ·exact f2' z
  ·rcases L.src x c z with z | z
   ·exact f4 x c z
   ·exact Ne.symm (Nat.ne_of_lt (Nat.lt_trans (Nat.lt_of_lt_of_le (Heap.lt_size e) hCle) z.1))
  ·have e':p=(s2.heap.objs.size,ob):=by simpa using hp
   subst e'
   exact Ne.symm hb2.2
 obtain⟨W,⟨m0,w0⟩,turn⟩:=hR
 have loop:codeAny (model X.prog X.w) X.A (.compLoop e 0 (.ref it) (.ref s2.heap.objs.size) (compEnvC scope cl2 G2.objs.size X.env)) (RR (.ref s2.heap.objs.size) G2.objs.size)
   { s2 with heap:=h₁ }:=by
  have hxe:∀ x s',(X.comp N' scope cl2 G2.objs.size s2 H fp).xe x s'->notedBy (model X.prog X.w) X.A (compEnvC scope cl2 G2.objs.size X.env) (fun e s'=>RR (.ref s2.heap.objs.size) G2.objs.size (.error e) s') x s':=fun x s' h=>
   wpAny_mono h (fun _ s'' q=>herr _ _ _ _ q) fun _ s'' q=>herr _ _ _ _ q
  have thnX:∀ {τ:Type} {m:Sem τ} {Q1:τ->Shared->Prop} {Q2:τ->Shared->Prop} {s':Shared},wpAny (model X.prog X.w) X.A m Q1 (X.comp N' scope cl2 G2.objs.size s2 H fp).xe s'->(∀ v s'',Q1 v s''->Q2 v s'')->wpAny (model X.prog X.w) X.A m Q2 (notedBy (model X.prog X.w) X.A (compEnvC scope cl2 G2.objs.size X.env) (fun e s'=>RR (.ref s2.heap.objs.size) G2.objs.size (.error e) s')) s':=fun h k=>wpAny_mono h k hxe
  refine WY (hlp _ _ _) (heq _ _ _) (fun n s'=>∃ i ys ob H',Inv (X.comp N' scope cl2 G2.objs.size s2 H fp) [(s2.heap.objs.size,ob)] (cS k ix σ) H' s'/\OK ys ob/\tn i s'.heap/\(∀ b∈fp,H' b=none)/\W i n ys H') ?_ m0
   ⟨0,_,o0,H,dpin _ _ _ _ _ Ic AK.z0 hacc (I2.hok.fresh (Nat.le_refl _)),AK.z0,st1,fun b hb=>(f2 b hb).1,w0⟩
  rintro n s3 ⟨i,ys,ob,H3,I3,rv,st3,fr3,w3⟩
  obtain⟨hlen,hw⟩:=turn i n ys H3 w3
  have hDn:H3 s2.heap.objs.size=none:=(I3.pin (s2.heap.objs.size,ob) (by simp)).2.1
  have hDe:s3.heap.get? s2.heap.objs.size=some ob:=(I3.pin (s2.heap.objs.size,ob) (by simp)).1
  rcases hw with ⟨stop,q⟩ | ⟨go,N,hN,step⟩
  ·refine thn (T.done (X.comp N' scope cl2 G2.objs.size s2 H fp) rfl rfl rfl hcalm i _ s3 _ H3 _ I3 (fpc _ _ fr3) st3 stop) fun r s4 ⟨hr,I4⟩=>?_
   subst hr
   have hDe4:s4.heap.get? s2.heap.objs.size=some ob:=(I4.pin (s2.heap.objs.size,ob) (by simp)).1
   have Ib:Inv X pins σ H3 s4:=I2.back f2 I4
   have hz:ac.len ys<=sizeLine:=Nat.le_of_lt hlen
   obtain⟨m',hn',_⟩:=I4.loc
   have It:Inv X pins σ (upd H3 s2.heap.objs.size (ac.ho ys)) s4:=Ib.track I2.sz hDn (Ne.symm (Nat.ne_of_lt I2.lt)) (fun x c e=>by
    obtain⟨v,ob,hob,_⟩:=I2.cell x c e
    exact Nat.ne_of_lt (Heap.lt_size hob)) (fun p hp=>Nat.ne_of_lt (Heap.lt_size (I2.pin p hp).1)) (AK.ok _ _ _ _ _ rv hz I2.big hDe4)
   exact fin _ _ ys H3 s4 m' It q hDn hn' (Ne.symm hDC) hCle (by rw[ze (Ne.symm hDC)]; exact I4.free)
  ·refine thn (T.item (X.comp N' scope cl2 G2.objs.size s2 H fp) rfl rfl rfl hcalm i _ s3 _ H3 _ I3 (fpc _ _ fr3) st3 go) fun r s4 ⟨u,hr,h4⟩=>?_
   subst hr
   refine thn h4 fun _ s5 ⟨x,H5,I5,r5,y5,st5,fr5⟩=>?_
   have I5':=I5.pinned (fpc ob H5 fr5) (T.obj _ _ st5)
   refine thnX (hg _ _ _ _ _ _ s5 _ H5 x u _ I5' r5 (step x H5 y5)) fun _ s6 ⟨σ6,H6,I6,hσ,q6⟩=>?_
   refine thnX (ht _ _ _ _ _ _ s6 σ6 H6 _ I6 q6) fun ok s7 ⟨H7,I7,q7⟩=>?_
   have wk:∀ {pl:List (Addr×Obj)} {H':Hp} {s':Shared},Inv (X.comp N' scope cl2 G2.objs.size s2 H fp) pl σ6 H' s'->Inv (X.comp N' scope cl2 G2.objs.size s2 H fp) pl (cS k ix σ) H' s':=fun {pl H' s'} I'=>
    I'.weak (by rw[Ic.len,I'.len]) fun j v ev=>by
     by_cases hj:j<k
     ·unfold cS at ev
      rw[List.getElem?_append_left (by simpa using hj),List.getElem?_replicate,if_pos hj] at ev
      cases ev
     ·obtain⟨j',rfl⟩:∃ j',j=k+j':=⟨j-k,by omega⟩
      rw[<- List.getElem?_drop,hσ,List.getElem?_drop]
      exact ev
   have itk:∀ {σ':St} {H':Hp} {s':Shared},Inv (X.comp N' scope cl2 G2.objs.size s2 H fp) ([(s2.heap.objs.size,ob)]++JJ fp s5.heap) σ' H' s'->tn (i+1) s'.heap/\∀ b∈fp,H' b=none:=fun {σ' H' s'} I'=>
    ⟨T.keep _ _ _ st5 fun b hb o e=>(I'.pin (b,o) (List.mem_append_right _ (List.mem_append_right _ (qF hb e)))).1,fun b hb=>by
     obtain⟨o,e,_⟩:=T.obj _ _ st5 b hb
     exact (I'.pin (b,o) (List.mem_append_right _ (List.mem_append_right _ (qF hb e)))).2.1⟩
   cases ok with
   | false=>
    rw[if_neg (by decide)] at q7 |-
    obtain⟨m',hm,w7⟩:=hN _ _ q7
    obtain⟨t7,f7⟩:=itk I7
    exact⟨m',hm,i+1,ys,ob,H7,wk I7.unpinned,rv,t7,f7,w7⟩
   | true=>
    rw[if_pos rfl] at q7 |-
    refine thnX (he _ _ _ _ _ s2.heap.objs.size _ s7 σ6 H7 _ _ I7 q7 fun y b s8 H8 I8 r8 n8q=>?_) fun _ _ q=>q
    obtain⟨m',hm,w8⟩:=hN _ _ n8q
    obtain⟨t8,f8⟩:=itk I8
    have I8':Inv (X.comp N' scope cl2 G2.objs.size s2 H fp) [(s2.heap.objs.size,ob)] σ6 H8 s8:=I8.unpinned
    have e8:s8.heap.get? s2.heap.objs.size=some ob:=(I8'.pin (s2.heap.objs.size,ob) (by simp)).1
    have n8:H8 s2.heap.objs.size=none:=(I8'.pin (s2.heap.objs.size,ob) (by simp)).2.1
    refine AK.st _ _ s8 _ _ ys ob y b rv hlen r8 e8 fun h' o' t' sb e9 ok9=>?_
    have I8n:Inv (X.comp N' scope cl2 G2.objs.size s2 H fp) [] σ6 H8 s8:=I8'.pins_of fun p hp=>by cases hp
    have I9:Inv (X.comp N' scope cl2 G2.objs.size s2 H fp) [] σ6 H8 { s8 with heap:=h',toks:=t' } :=
     I8n.turned (t':=t') (fun b o hb e=>(sb.2 b hb).trans e) n8 hDC (.inr (Nat.le_refl _)) (fun x c e=>dcell x c e) (fun p hp=>by cases hp)
    refine⟨m',hm,i+1,_,o',H8,wk (dpin _ _ _ _ _ I9 ok9 e9 n8),ok9,?_,f8,w8⟩
    exact T.keep _ _ _ t8 fun b hb o e=>(sb.2 b (by
     obtain⟨o',e'⟩:=hfo b hb
     exact (below b (Heap.lt_size e')).2)).trans e
 exact hstart _ _ _ _ _ loop (T.self X.A 0 _ _ _ st1 loop)
noncomputable abbrev zeD (ys:List Value) (n:Nat):Obj:={ cls:=.type "list",data:=.seq ys.toArray n }
theorem yC {P:Program}{w:World}:zct P w zap (fun ys o=>∃ its n,Vals ys its/\o=zeD its n) RelV (zeD [] 0) (newList []) (fun D b=>do let _<-call (.builtin "list.append") [.ref D,b]) where
 new A E s Q h:=wpAny_newObj_type h
 z0:=⟨[],0,.nil,rfl⟩
 live:=rfl
 cell a o h v z:=by
  obtain⟨its,n,_,rfl⟩:=h
  cases z
 st A E s Q D a o y b h hl r e k:=by
  obtain⟨its,n,rv,rfl⟩:=h
  refine wpAny_bind (call_meets F.slot_list_append ⟨_,e,rfl⟩ F.entry_list_append (F.args_list_append_2 _ _) (PySem.list_append D its.toArray n b (by
   have:=rv.length
   have hl':a.length<sizeLine:=hl
   rw[List.size_toArray]; omega)) ⟨e,wpAny_pure ?_⟩)
  have q9:=PySem.IsL.update e (·.push b)
  rw[show its.toArray.push b=(its++ [b]).toArray by simp] at q9
  exact k _ _ _ ⟨by simp[Heap.update],fun c hc=>Heap.get?_update_other s.heap _ (Ne.symm hc)⟩ q9 ⟨its++ [b],_,rv.append (.cons r .nil),rfl⟩
 ok H h D a o hk hz _ e:=by
  obtain⟨its,n,rv,rfl⟩:=hk
  exact⟨hz,its,n,rv,e⟩
theorem yB {P:Program}{w:World}:zct P w zao (fun ys o=>∃ vs,KV ys vs/\o.IsDictOf (qq P w) vs) (fun (y:Key×V) (b:Value×Value)=>RelV (kV y.1) b.1/\RelV y.2 b.2) { cls:=.type "dict",data:=.dict #[] } newDict (fun D b=>holding [b.1,b.2] (dictSet D b.1 b.2)) where
 new A E s Q h:=wpAny_newObj_type h
 z0:=by
  refine⟨[],.nil,?_⟩
  exact⟨#[],0,⟨rfl,rfl,rfl⟩,rfl,fun _ he=>by simp at he,Pairs.nil,List.nodup_nil⟩
 live:=rfl
 cell a o h v z:=by
  obtain⟨vs,_,es,ep,_,hd,_⟩:=h
  rw[hd] at z; cases z
 st A E s Q D a o y b h hl r e k:=by
  obtain⟨vs,rv,hd⟩:=h
  refine wpAny_holding (wpAny_dictSet_pairs (knd:=qq P w) (zci r.1) (Heap.dictOf_iff.mpr ⟨o,e,hd⟩) (fun h' dd sb=>?_) (by rw[<- rv.length]; exact Nat.le_of_lt hl))
  obtain⟨o',e',r'⟩:=Heap.dictOf_iff.mp dd
  exact k h' o' _ sb e' ⟨_,rv.put y.1 r.2,r'⟩
 ok H h D a o hk hz hb e:=by
  obtain⟨vs,rv,hd⟩:=hk
  exact⟨hz,beq_eq_false_iff_ne.mpr (Nat.ne_of_gt hb),vs,rv,Heap.dictOf_iff.mpr ⟨o,e,hd⟩⟩
theorem jm {X:Cx}{pins:List (Addr×Obj)}{σ:St}{H:Hp}{s:Shared}{scope:Scope}{N':List Str}{k:Nat}{ix:List Nat}(I:Inv X pins σ H s) (S:CSc X.env.scope X.N scope N' k ix) :
  ∃ cl,closureFor scope X.env=pure cl/\(∀ x c,cl.lookup x=some c->X.env.cells.lookup x=some c)/\(∀ x,(x,NameKind.free)∈scope.names->∃ c,cl.lookup x=some c) :=
 Va fun y hy e=>by
  rcases S.fre y hy e with z | z
  ·exact I.ok.has _ (.inl z)
  ·exact I.ok.has _ (.inr z)
theorem Inv.letgo {H5:Hp}{s5:Shared}{σ5:St}{C:Addr}{h':Heap}(I2:Inv X pins σ H s2) (I5:Inv X pins σ5 H5 s5) (hCs:s2.heap.objs.size<=C) (hCn:H5 C=none) (hs:Heap.SameBut C s5.heap h'):Inv X pins σ5 H5 { s5 with heap:=h' } :=
 I5.turned (t':=s5.toks) (it:=C) (fun b o hb e=>(hs.2 b hb).trans e) hCn (Ne.symm (Nat.ne_of_lt (Nat.lt_of_lt_of_le I2.lt hCs))) (.inr (Nat.le_trans I2.sz hCs))
  (fun x c e=>by
   obtain⟨v,ob,hob,_⟩:=I2.cell x c e
   exact Nat.ne_of_lt (Nat.lt_of_lt_of_le (Heap.lt_size hob) hCs))
  (fun p hp=>Nat.ne_of_lt (Nat.lt_of_lt_of_le (Heap.lt_size (I2.pin p hp).1) hCs))
end
section
variable {X:Cx} {elt tg iter:Expr} {ifs:List Expr} {scope:Scope} {pos:Pos} {N':List Str} {k:Nat} {ix:List Nat} {g:TG} {tt:TT} {te:TE} {wi:TI}
theorem VD {it:Value}{D:Addr}{env:Env}:compTurn (.ListComp elt [⟨tg,iter,ifs,0⟩] scope pos) 0 it (.ref D) env=(do
   standAt iter.pos
   match<-pyNext it with
   | none=>pure (.done .next)
   | some v=>
    letOwnedTupleGo tg it v
    assign tg env v
    let mut ok:=true
    for c in ifs do
     if ok then ok<-isTrue c env (eval c env)
    if ok then (do let _<-call (.builtin "list.append") [.ref D,<- eval elt env])
    again (.compLoop (.ListComp elt [⟨tg,iter,ifs,0⟩] scope pos) 0 it (.ref D) env)):=compTurn_list elt tg iter ifs scope pos it (.ref D) env
theorem k9 {X:Cx}(he:PE X elt te):PEv X RelV (fun D b=>do let _<-call (.builtin "list.append") [.ref D,b]) (fun D env=>do let _<-call (.builtin "list.append") [.ref D,<- eval elt env]) te:=fun D pins s σ H Q R I h k=>
 wpAny_bind (wpAny_mono (he pins s σ H Q I h) (fun b s' ⟨y,H',I',r,q⟩=>k y b s' H' I' r q) fun _ _ z=>z)
theorem wD (hcalm:X.calm=true) (S:CSc X.env.scope X.N scope N' k ix)
  (hg:∀ cl C s2 H2 fp,PG (X.comp N' scope cl C s2 H2 fp) tg g) (ht:∀ cl C s2 H2 fp,PF (X.comp N' scope cl C s2 H2 fp) ifs tt) (he:∀ cl C s2 H2 fp,PE (X.comp N' scope cl C s2 H2 fp) elt te)
  {pins:List (Addr×Obj)} {σ:St} {H:Hp} {s2:Shared} {cl:List (Str×Addr)} {it:Addr} {fp:List Addr} {tn:Nat->Heap->Prop} {J:It} {Q:List V->Hp->Prop} {RR:Value->Addr->Result->Shared->Prop} {E:Value->Shared->Prop}
  (I2:Inv X pins σ H s2) (T:WT X.prog X.w X.K tg J fp it tn) (st2:tn 0 s2.heap) (f2:∀ b∈fp,ZL X pins H b) (hR:JZ zap k ix g tt te σ J H Q)
  (hcl1:∀ x c,cl.lookup x=some c->X.env.cells.lookup x=some c) (hcl2:∀ x,(x,NameKind.free)∈scope.names->∃ c,cl.lookup x=some c)
  (herr:∀ (D C:Addr) (x:Value) (s':Shared),zal X C x s'->RR (.ref D) C (.error x) s')
  (fin:∀ (D C:Addr) (ys:List V) (H5:Hp) (s5:Shared) (m:Str->Option Value),Inv X pins σ (upd H5 D (.lst ys)) s5->Q ys H5->H5 D=none->s5.heap.Ns C m->C≠D->s2.heap.objs.size<=C->upd H5 D (.lst ys) C=none->RR (.ref D) C (.ok .next) s5) :
  wpAny (model X.prog X.w) X.A (newList []) (fun acc s₃=>wpAny (model X.prog X.w) X.A (newFunctionEnv scope X.env.globals cl [] X.env.qual none .none (some X.env)) (fun cenv s₄=>
   codeAny (model X.prog X.w) X.A (.compStart (.ListComp elt [⟨tg,iter,ifs,0⟩] scope pos) 0 (.ref it) acc { cenv with scope:=relabel scope X.env }) (RR acc cenv.locals) s₄) E s₃) E s2 :=
 wB yC (act:=fun D env=>do let _<-call (.builtin "list.append") [.ref D,<- eval elt env]) (fun it acc env R s I n h h0=>codeAny_loop rfl I h n h0) (fun _ _ _=>VD) (fun R s it acc env h0 h=>codeAny_compStart_list h0 h) hcalm S hg ht (fun cl C s2 H2 fp=>k9 (he cl C s2 H2 fp)) I2 T st2 f2 hR hcl1 hcl2 herr fin
theorem za6 (hcalm:X.calm=true) (S:CSc X.env.scope X.N scope N' k ix) (hi:PI X tg iter wi)
  (hg:∀ cl C s2 H2 fp,PG (X.comp N' scope cl C s2 H2 fp) tg g) (ht:∀ cl C s2 H2 fp,PF (X.comp N' scope cl C s2 H2 fp) ifs tt) (he:∀ cl C s2 H2 fp,PE (X.comp N' scope cl C s2 H2 fp) elt te)
  (hs:∀ x,foldedSetIterable iter X.env x=pure x:=by intro _; rfl):PE X (.ListComp elt [⟨tg,iter,ifs,0⟩] scope pos) (wM k ix wi g tt te):=by
 intro pins s σ H Q I h
 obtain⟨cl,ecl,hcl1,hcl2⟩:=jm I S
 rw[eval_ListComp]
 refine wpAny_comprehension_free (use:=none) rfl hs ecl S.kind S.loc (thn (hi pins s σ H _ I h) fun v s1 h1=>thn h1 fun itv s2 h2=>?_)
 obtain⟨it,fp,tn,J,H2,e,I2,T,st2,f2,hR⟩:=h2
 subst e
 refine wD (RR:=fun acc C=>compPost (model X.prog X.w) X.A X.xe none (EP X pins σ Q) acc C) hcalm S hg ht he I2 T st2 f2 hR hcl1 hcl2 (fun D C x s' h=>h) ?_
 intro D C ys H5 s5 m I5 q hD hn hCD hCs hCn
 exact⟨m,hn,fun h' hs'=>⟨.ref D,upd H5 D (.lst ys),I2.letgo I5 hCs hCn hs',rfl,q D hD⟩⟩
theorem zba {i:Nat}{x:Str}{pos' spos:Pos}(hN:X.N.Nodup) (hi':X.N[i]?=some x) (hx:Loc X.env.scope x) (hcalm:X.calm=true) (S:CSc X.env.scope X.N scope N' k ix) (hi:PI X tg iter wi)
  (hg:∀ cl C s2 H2 fp,PG (X.comp N' scope cl C s2 H2 fp) tg g) (ht:∀ cl C s2 H2 fp,PF (X.comp N' scope cl C s2 H2 fp) ifs tt) (he:∀ cl C s2 H2 fp,PE (X.comp N' scope cl C s2 H2 fp) elt te)
  (hsw:swapsWith (.ListComp elt [⟨tg,iter,ifs,0⟩] scope pos) (some (.Name x pos')) spos.line X.env=pure true)
  (hs:∀ x,foldedSetIterable iter X.env x=pure x:=by intro _; rfl) (hf:X.fn x=true∨X.env.scope.names.lookup x=some .local:=by first | exact .inl rfl | exact .inr rfl | assumption) :
  PS X (.Assign [.Name x pos'] (.ListComp elt [⟨tg,iter,ifs,0⟩] scope pos) spos) (WG (wM k ix wi g tt te) (Js i)):=by
 intro pins s σ H D' I h
 obtain⟨cl,ecl,hcl1,hcl2⟩:=jm I S
 rw[exec_Assign_Name_used _ _ _ _ hsw]
 refine wpAny_bind (wpAny_standAt (wpAny_bind ?_))
 show wpAny _ X.A (do let _<-comprehension (.ListComp elt [⟨tg,iter,ifs,0⟩] scope pos) scope X.env _ (newList []) false (eval iter X.env) (some (assign (.Name x pos') X.env))) _ _ s
 refine wpAny_bind (wpAny_mono (wpAny_comprehension_free (use:=some (assign (.Name x pos') X.env)) (Q:=fun _ s'=>SP X pins D' .next s') rfl hs ecl S.kind S.loc
  (thn (hi pins s σ H _ I h) fun v s1 h1=>thn h1 fun itv s2 h2=>?_)) (fun _ s' hq=>wpAny_pure (wpAny_pure hq)) fun _ _ e=>e)
 obtain⟨it,fp,tn,J,H2,e,I2,T,st2,f2,hR⟩:=h2
 subst e
 refine wD (RR:=fun acc C=>compPost (model X.prog X.w) X.A X.xe (some (assign (.Name x pos') X.env)) (fun _ s'=>SP X pins D' .next s') acc C) hcalm S hg ht he I2 T st2 f2 hR hcl1 hcl2 (fun D C x s' h=>h) ?_
 intro D C ys H5 s5 m I5 q hD hn hCD hCs hCn
 show wpAny _ X.A (assign (.Name x pos') X.env (.ref D)) _ _ s5
 refine wpAny_assign_Name (QH (v:=.ref D) I5 hN hi' hx rfl (fun s' I' ⟨a,sb,ha⟩=>?_) hf)
 have hCa:C≠a:=by
  rcases ha with rfl | ha
  ·exact Ne.symm (Nat.ne_of_lt (Nat.lt_of_lt_of_le I2.lt hCs))
  ·obtain⟨v,ob,hob,_⟩:=I2.cell x a ha
   exact Ne.symm (Nat.ne_of_lt (Nat.lt_of_lt_of_le (Heap.lt_size hob) hCs))
 exact⟨m,hn.sameBut sb hCa,fun h' hs'=>⟨_,_,I2.letgo I' hCs hCn hs',q D hD⟩⟩
end
section
variable {X:Cx} {kx vx tg iter:Expr} {ifs:List Expr} {scope:Scope} {pos:Pos} {N':List Str} {k:Nat} {ix:List Nat} {g:TG} {tt:TT} {tk tv:TE} {wi:TI}
theorem k8 {X:Cx}(hk:PE X kx tk) (hv:PE X vx tv):PEv X (fun (y:Key×V) (b:Value×Value)=>RelV (kV y.1) b.1/\RelV y.2 b.2) (fun D b=>holding [b.1,b.2] (dictSet D b.1 b.2)) (fun D env=>do
   let kv<-eval kx env
   let vv<-holding [kv] (eval vx env)
   standAt { kx.pos with endLine:=vx.pos.endLine,endCol:=vx.pos.endCol }
   holding [kv,vv] (dictSet D kv vv)) (vL tk tv):=fun D pins s σ H Q R I h kk=>
 wpAny_bind (wpAny_mono (hk pins s σ H _ I h) (fun kv s1 ⟨x,H1,I1,rx,q1⟩=>wpAny_bind (wpAny_holding (wpAny_mono (hv pins s1 σ H1 _ I1 q1) (fun vv s2 ⟨y,H2,I2,ry,k,ek,q2⟩=>
  wpAny_bind (wpAny_standAt (kk (k,y) (kv,vv) s2 H2 I2 ⟨by rw[<- ek]; exact rx,ry⟩ q2))) fun _ _ z=>z))) fun _ _ z=>z)
theorem wC (hcalm:X.calm=true) (S:CSc X.env.scope X.N scope N' k ix)
  (hg:∀ cl C s2 H2 fp,PG (X.comp N' scope cl C s2 H2 fp) tg g) (ht:∀ cl C s2 H2 fp,PF (X.comp N' scope cl C s2 H2 fp) ifs tt) (hk:∀ cl C s2 H2 fp,PE (X.comp N' scope cl C s2 H2 fp) kx tk) (hv:∀ cl C s2 H2 fp,PE (X.comp N' scope cl C s2 H2 fp) vx tv)
  {pins:List (Addr×Obj)} {σ:St} {H:Hp} {s2:Shared} {cl:List (Str×Addr)} {it:Addr} {fp:List Addr} {tn:Nat->Heap->Prop} {J:It} {Q:List (Key×V)->Hp->Prop} {RR:Value->Addr->Result->Shared->Prop} {E:Value->Shared->Prop}
  (I2:Inv X pins σ H s2) (T:WT X.prog X.w X.K tg J fp it tn) (st2:tn 0 s2.heap) (f2:∀ b∈fp,ZL X pins H b) (hR:JZ zao k ix g tt (vL tk tv) σ J H Q)
  (hcl1:∀ x c,cl.lookup x=some c->X.env.cells.lookup x=some c) (hcl2:∀ x,(x,NameKind.free)∈scope.names->∃ c,cl.lookup x=some c)
  (herr:∀ (D C:Addr) (x:Value) (s':Shared),zal X C x s'->RR (.ref D) C (.error x) s')
  (fin:∀ (D C:Addr) (ys:List (Key×V)) (H5:Hp) (s5:Shared) (m:Str->Option Value),Inv X pins σ (upd H5 D (.dK ys)) s5->Q ys H5->H5 D=none->s5.heap.Ns C m->C≠D->s2.heap.objs.size<=C->upd H5 D (.dK ys) C=none->RR (.ref D) C (.ok .next) s5) :
  wpAny (model X.prog X.w) X.A newDict (fun acc s₃=>wpAny (model X.prog X.w) X.A (newFunctionEnv scope X.env.globals cl [] X.env.qual none .none (some X.env)) (fun cenv s₄=>
   codeAny (model X.prog X.w) X.A (.compStart (.DictComp kx vx [⟨tg,iter,ifs,0⟩] scope pos) 0 (.ref it) acc { cenv with scope:=relabel scope X.env }) (RR acc cenv.locals) s₄) E s₃) E s2 :=
 wB yB (act:=fun D env=>do
   let kv<-eval kx env
   let vv<-holding [kv] (eval vx env)
   standAt { kx.pos with endLine:=vx.pos.endLine,endCol:=vx.pos.endCol }
   holding [kv,vv] (dictSet D kv vv)) (fun it acc env R s I n h h0=>codeAny_loop rfl I h n h0) (fun it D env=>compTurn_dict kx vx tg iter ifs scope pos it D env) (fun R s it acc env h0 h=>codeAny_compStart_dict h0 h) hcalm S hg ht (fun cl C s2 H2 fp=>k8 (hk cl C s2 H2 fp) (hv cl C s2 H2 fp)) I2 T st2 f2 hR hcl1 hcl2 herr fin
theorem kY (hcalm:X.calm=true) (S:CSc X.env.scope X.N scope N' k ix) (hi:PI X tg iter wi)
  (hg:∀ cl C s2 H2 fp,PG (X.comp N' scope cl C s2 H2 fp) tg g) (ht:∀ cl C s2 H2 fp,PF (X.comp N' scope cl C s2 H2 fp) ifs tt) (hk:∀ cl C s2 H2 fp,PE (X.comp N' scope cl C s2 H2 fp) kx tk) (hv:∀ cl C s2 H2 fp,PE (X.comp N' scope cl C s2 H2 fp) vx tv)
  (hs:∀ x,foldedSetIterable iter X.env x=pure x:=by intro _; rfl):PE X (.DictComp kx vx [⟨tg,iter,ifs,0⟩] scope pos) (QK k ix wi g tt (vL tk tv)):=by
 intro pins s σ H Q I h
 obtain⟨cl,ecl,hcl1,hcl2⟩:=jm I S
 show wpAny _ X.A (comprehension (.DictComp kx vx [⟨tg,iter,ifs,0⟩] scope pos) scope X.env _ newDict false (eval iter X.env)) _ _ s
 refine wpAny_comprehension_free (use:=none) rfl hs ecl S.kind S.loc (thn (hi pins s σ H _ I h) fun v s1 h1=>thn h1 fun itv s2 h2=>?_)
 obtain⟨it,fp,tn,J,H2,e,I2,T,st2,f2,hR⟩:=h2
 subst e
 refine wC (RR:=fun acc C=>compPost (model X.prog X.w) X.A X.xe none (EP X pins σ Q) acc C) hcalm S hg ht hk hv I2 T st2 f2 hR hcl1 hcl2 (fun D C x s' h=>h) ?_
 intro D C ys H5 s5 m I5 q hD hn hCD hCs hCn
 exact⟨m,hn,fun h' hs'=>⟨.ref D,upd H5 D (.dK ys),I2.letgo I5 hCs hCn hs',rfl,q D hD⟩⟩
theorem Kh {i:Nat}{x:Str}{pos' spos:Pos}(hN:X.N.Nodup) (hi':X.N[i]?=some x) (hx:Loc X.env.scope x) (hcalm:X.calm=true) (S:CSc X.env.scope X.N scope N' k ix) (hi:PI X tg iter wi)
  (hg:∀ cl C s2 H2 fp,PG (X.comp N' scope cl C s2 H2 fp) tg g) (ht:∀ cl C s2 H2 fp,PF (X.comp N' scope cl C s2 H2 fp) ifs tt) (hk:∀ cl C s2 H2 fp,PE (X.comp N' scope cl C s2 H2 fp) kx tk) (hv:∀ cl C s2 H2 fp,PE (X.comp N' scope cl C s2 H2 fp) vx tv)
  (hsw:swapsWith (.DictComp kx vx [⟨tg,iter,ifs,0⟩] scope pos) (some (.Name x pos')) spos.line X.env=pure true)
  (hs:∀ x,foldedSetIterable iter X.env x=pure x:=by intro _; rfl) (hf:X.fn x=true∨X.env.scope.names.lookup x=some .local:=by first | exact .inl rfl | exact .inr rfl | assumption) :
  PS X (.Assign [.Name x pos'] (.DictComp kx vx [⟨tg,iter,ifs,0⟩] scope pos) spos) (WG (QK k ix wi g tt (vL tk tv)) (Js i)):=by
 intro pins s σ H D' I h
 obtain⟨cl,ecl,hcl1,hcl2⟩:=jm I S
 rw[exec_Assign_Name_used _ _ _ _ hsw]
 refine wpAny_bind (wpAny_standAt (wpAny_bind ?_))
 show wpAny _ X.A (do let _<-comprehension (.DictComp kx vx [⟨tg,iter,ifs,0⟩] scope pos) scope X.env _ newDict false (eval iter X.env) (some (assign (.Name x pos') X.env))) _ _ s
 refine wpAny_bind (wpAny_mono (wpAny_comprehension_free (use:=some (assign (.Name x pos') X.env)) (Q:=fun _ s'=>SP X pins D' .next s') rfl hs ecl S.kind S.loc
  (thn (hi pins s σ H _ I h) fun v s1 h1=>thn h1 fun itv s2 h2=>?_)) (fun _ s' hq=>wpAny_pure (wpAny_pure hq)) fun _ _ e=>e)
 obtain⟨it,fp,tn,J,H2,e,I2,T,st2,f2,hR⟩:=h2
 subst e
 refine wC (RR:=fun acc C=>compPost (model X.prog X.w) X.A X.xe (some (assign (.Name x pos') X.env)) (fun _ s'=>SP X pins D' .next s') acc C) hcalm S hg ht hk hv I2 T st2 f2 hR hcl1 hcl2 (fun D C x s' h=>h) ?_
 intro D C ys H5 s5 m I5 q hD hn hCD hCs hCn
 show wpAny _ X.A (assign (.Name x pos') X.env (.ref D)) _ _ s5
 refine wpAny_assign_Name (QH (v:=.ref D) I5 hN hi' hx rfl (fun s' I' ⟨a,sb,ha⟩=>?_) hf)
 have hCa:C≠a:=by
  rcases ha with rfl | ha
  ·exact Ne.symm (Nat.ne_of_lt (Nat.lt_of_lt_of_le I2.lt hCs))
  ·obtain⟨v,ob,hob,_⟩:=I2.cell x a ha
   exact Ne.symm (Nat.ne_of_lt (Nat.lt_of_lt_of_le (Heap.lt_size hob) hCs))
 exact⟨m,hn.sameBut sb hCa,fun h' hs'=>⟨_,_,I2.letgo I' hCs hCn hs',q D hD⟩⟩
end
end L2
namespace L2
open PySem PySem.Spec PyProof.Rows
class Cs where
 adr:Str->Addr
variable [Cs]
noncomputable def kK (p:Str×V):Key×V:=(.inr p.1,p.2)
noncomputable def dK (p:Str×PyData):PyData×PyData:=(.str p.1,p.2)
mutual
/-- the value v stands for the data d; no list of it lies in M -/
inductive Rep (M:Addr->Prop) (H:Hp):V->PyData->Prop
 | none:Rep M H .non .none
 | bool (b:Bool):Rep M H (.bl b) (.bool b)
 | int (i:Int):Rep M H (.int i) (.int i)
 | str (x:Str):Rep M H (.str x) (.str x)
 | list {a:Addr} {vs:List V} {ds:List PyData}:H a=some (.lst vs)->¬ M a->RepL M H vs ds->Rep M H (.ref a) (.list ds)
 | tuple {a:Addr} {vs:List V} {ds:List PyData}:H a=some (.tup vs)->RepL M H vs ds->Rep M H (.ref a) (.tuple ds)
 | dict {a:Addr} {kvs:List (Str×V)} {ds:List (Str×PyData)}:Rd H a (.dK (kvs.map kK))->¬ M a->kvs.map (·.1)=ds.map (·.1)->RepL M H (kvs.map (·.2)) (ds.map (·.2))->Rep M H (.ref a) (.dict (ds.map dK))
 | inst {a dx:Addr} {c:Str} {fs:List (Str×V)} {ds:List (Str×PyData)}:H a=some (.ins (Cs.adr c) dx fs)->¬ M a->fs.map (·.1)=ds.map (·.1)->RepL M H (fs.map (·.2)) (ds.map (·.2))->Rep M H (.ref a) (.dict ((.none,.str c)::ds.map dK))
inductive RepL (M:Addr->Prop) (H:Hp):List V->List PyData->Prop
 | nil:RepL M H [] []
 | cons {v:V} {vs:List V} {d:PyData} {ds:List PyData}:Rep M H v d->RepL M H vs ds->RepL M H (v::vs) (d::ds)
end
noncomputable def zeo (M:Addr->Prop) (H H':Hp):Prop:=∀ b o,¬ M b->H b=some o->H' b=some o
noncomputable def TupM (H H':Hp):Prop:=∀ b xs,H b=some (.tup xs)->H' b=some (.tup xs)
structure zcu (M:Addr->Prop) (H H':Hp):Prop where
 same:zeo M H H'
 tups:TupM H H'
 stay:∀ b,H b≠none->H' b≠none
theorem Same.grow {M:Addr->Prop}{H H':Hp}(s:Same H H'):zcu M H H' :=
 ⟨fun b o _ e=>s b o e,fun b xs e=>s b _ e,fun b h=>by
  cases q:H b with
  | none=>exact absurd q h
  | some o=>rw[s b o q]; exact fun z=>nomatch z⟩
mutual
theorem Rep.grow {M:Addr->Prop}{H H':Hp}(g:zcu M H H'):∀ {v:V}{d:PyData},Rep M H v d->Rep M H' v d
 | _,_,.none=>.none
 | _,_,.bool b=>.bool b
 | _,_,.int i=>.int i
 | _,_,.str x=>.str x
 | _,_,.list e n r=>.list (g.same _ _ n e) n (RepL.grow g r)
 | _,_,.tuple e r=>.tuple (g.tups _ _ e) (RepL.grow g r)
 | _,_,.dict e n k r=>.dict (e.imp (g.same _ _ n) fun ⟨o,z⟩=>⟨o,g.same _ _ n z⟩) n k (RepL.grow g r)
 | _,_,.inst e n k r=>.inst (g.same _ _ n e) n k (RepL.grow g r)
theorem RepL.grow {M:Addr->Prop}{H H':Hp}(g:zcu M H H'):∀ {vs:List V}{ds:List PyData},RepL M H vs ds->RepL M H' vs ds
 | _,_,.nil=>.nil
 | _,_,.cons r t=>.cons (Rep.grow g r) (RepL.grow g t)
end
mutual
/-- fewer addresses may change; or one more that is not there -/
theorem Rep.less {M M':Addr->Prop}{H:Hp}(g:∀ b,M' b->H b≠none->M b):∀ {v:V}{d:PyData},Rep M H v d->Rep M' H v d
 | _,_,.none=>.none
 | _,_,.bool b=>.bool b
 | _,_,.int i=>.int i
 | _,_,.str x=>.str x
 | _,_,.list e n r=>.list e (fun z=>n (g _ z (by rw[e]; exact fun z=>nomatch z))) (RepL.less g r)
 | _,_,.tuple e r=>.tuple e (RepL.less g r)
 | _,_,.dict e n k r=>.dict e (fun z=>n (g _ z (by rcases e with e | ⟨o,e⟩ <;> rw[e] <;> exact fun z=>nomatch z))) k (RepL.less g r)
 | _,_,.inst e n k r=>.inst e (fun z=>n (g _ z (by rw[e]; exact fun z=>nomatch z))) k (RepL.less g r)
theorem RepL.less {M M':Addr->Prop}{H:Hp}(g:∀ b,M' b->H b≠none->M b):∀ {vs:List V}{ds:List PyData},RepL M H vs ds->RepL M' H vs ds
 | _,_,.nil=>.nil
 | _,_,.cons r t=>.cons (Rep.less g r) (RepL.less g t)
end
theorem RepL.length {M:Addr->Prop}{H:Hp}:∀ {vs:List V}{ds:List PyData},RepL M H vs ds->vs.length=ds.length
 | _,_,.nil=>rfl
 | _,_,.cons _ t=>by rw[List.length_cons,List.length_cons,RepL.length t]
theorem RepL.append {M:Addr->Prop}{H:Hp}:∀ {vs ws:List V}{ds es:List PyData},RepL M H vs ds->RepL M H ws es->RepL M H (vs++ws) (ds++es)
 | _,_,_,_,.nil,s=>s
 | _,_,_,_,.cons r t,s=>.cons r (RepL.append t s)
theorem RepL.get {M:Addr->Prop}{H:Hp}:∀ {vs:List V}{ds:List PyData}{i:Nat}{v:V},RepL M H vs ds->vs[i]?=some v->∃ d,ds[i]?=some d/\Rep M H v d
 | _,_,_,_,.nil,e=>by simp at e
 | _,_,0,_,.cons r _,e=>by simp at e; subst e; exact⟨_,rfl,r⟩
 | _,_,i+1,v,.cons _ t,e=>by
  obtain⟨u,h1,h2⟩:=RepL.get (i:=i) (v:=v) t (by simpa using e)
  exact⟨u,by simpa using h1,h2⟩
theorem RepL.get' {M:Addr->Prop}{H:Hp}{vs:List V}{ds:List PyData}{i:Nat}{d:PyData}(r:RepL M H vs ds) (e:ds[i]?=some d):∃ v,vs[i]?=some v/\Rep M H v d:=by
 have hl:=r.length
 have hi:i<vs.length:=by rw[hl]; exact (List.getElem?_eq_some_iff.mp e).1
 obtain⟨d',e',r'⟩:=r.get (i:=i) (v:=vs[i]) (by simp[hi])
 rw[e] at e'; cases e'
 exact⟨vs[i],by simp[hi],r'⟩
theorem RepL.take {M:Addr->Prop}{H:Hp}:∀ {vs:List V}{ds:List PyData}(n:Nat),RepL M H vs ds->RepL M H (vs.take n) (ds.take n)
 | _,_,0,_=>.nil
 | _,_,_+1,.nil=>.nil
 | _,_,n+1,.cons r t=>.cons r (RepL.take n t)
theorem RepL.drop {M:Addr->Prop}{H:Hp}:∀ {vs:List V}{ds:List PyData}(n:Nat),RepL M H vs ds->RepL M H (vs.drop n) (ds.drop n)
 | _,_,0,r=>r
 | _,_,_+1,.nil=>.nil
 | _,_,n+1,.cons _ t=>RepL.drop n t
theorem RepL.ints {M:Addr->Prop}{H:Hp}:∀ (ns:List Int),RepL M H (ns.map V.int) (ns.map PyData.int)
 | []=>.nil
 | n::ns=>.cons (.int n) (RepL.ints ns)
mutual
theorem Rep.reads {P:Program}{w:World}{M:Addr->Prop}{H:Hp}{h:Heap}(ok:HOk P w H h):∀ {v:V}{d:PyData}{u:Value},Rep M H v d->d.canLay0=true->RelV v u->∃ as,Reads h u d as
 | _,_,_,.none,_,r=>by cases (show _=Value.none from r); exact⟨_,.none⟩
 | _,_,_,.bool b,_,r=>by cases (show _=Value.bool b from r); exact⟨_,.bool b⟩
 | _,_,_,.int i,_,r=>by obtain⟨t,e⟩:=(show ∃ t,_=Value.int i t from r); cases e; exact⟨_,.int i t⟩
 | _,_,_,.str x,_,r=>by obtain⟨t,e⟩:=(show ∃ t,_=Value.str x t from r); cases e; exact⟨_,.str x t⟩
 | _,_,_,.list (a:=a) (vs:=vs) e n q,l,r=>by
  cases (show _=Value.ref a from r)
  obtain⟨_,its,c,rv,ho⟩:=(show ObjOk P w H h a (.lst vs) from ok a _ e)
  obtain⟨as,z⟩:=RepL.reads ok q l rv
  exact⟨_,.list ho rfl rfl (by simpa using z)⟩
 | _,_,_,.tuple (a:=a) (vs:=vs) e q,l,r=>by
  cases (show _=Value.ref a from r)
  obtain⟨_,its,rv,o,ho,hc,c,hd⟩:=(show ObjOk P w H h a (.tup vs) from ok a _ e)
  obtain⟨as,z⟩:=RepL.reads ok q l rv
  exact⟨_,.tuple ho hc hd (by simpa using z)⟩
 | _,_,_,.dict e n k q,l,r=>by cases l
 | _,_,_,.inst e n k q,l,r=>by cases l
theorem RepL.reads {P:Program}{w:World}{M:Addr->Prop}{H:Hp}{h:Heap}(ok:HOk P w H h):∀ {vs:List V}{ds:List PyData}{us:List Value},RepL M H vs ds->PyData.canLayAll0 ds=true->Vals vs us->∃ as,ReadsAll h us ds as
 | _,_,_,.nil,_,r=>by cases r; exact⟨_,.nil⟩
 | _,_,_,.cons q t,l,r=>by
  have l':=Bool.and_eq_true_iff.mp l
  cases r with
  | cons r rs=>
   obtain⟨as,z⟩:=Rep.reads ok q l'.1 r
   obtain⟨bs,y⟩:=RepL.reads ok t l'.2 rs
   exact⟨_,.cons z y⟩
end
section
variable (X:Cx)
noncomputable def wpE (e:Expr):TE:=fun σ H Q=>∀ (pins:List (Addr×Obj)) (s:Shared),Inv X pins σ H s->wpAny (model X.prog X.w) X.A (eval e X.env) (EP X pins σ Q) X.xe s
noncomputable def wpT (e:Expr):TT:=fun σ H Q=>∀ (pins:List (Addr×Obj)) (s:Shared),Inv X pins σ H s->wpAny (model X.prog X.w) X.A (isTrue e X.env (eval e X.env)) (TP X pins σ Q) X.xe s
noncomputable def wpW (e:Expr):TT:=fun σ H Q=>∀ (whole:Sem Value) (pins:List (Addr×Obj)) (s:Shared),Inv X pins σ H s->wpAny (model X.prog X.w) X.A (isTrue e X.env whole) (TP X pins σ Q) X.xe s
noncomputable def wpA (es:List Expr):TA:=fun σ H Q=>∀ (pos:Pos) (pins:List (Addr×Obj)) (s:Shared),Inv X pins σ H s->wpAny (model X.prog X.w) X.A (spliced (backTo pos (starEach es X.env))) (AP X pins σ Q) X.xe s
noncomputable def wpS (st:Stmt):TS:=fun D σ H=>∀ (pins:List (Addr×Obj)) (s:Shared),Inv X pins σ H s->wpAny (model X.prog X.w) X.A (exec st X.env) (SP X pins D) X.xe s
noncomputable def wpB (st:List Stmt):TS:=fun D σ H=>∀ (pins:List (Addr×Obj)) (s:Shared),Inv X pins σ H s->wpAny (model X.prog X.w) X.A (execs st X.env) (SP X pins D) X.xe s
noncomputable def wpG (tg:Expr):TG:=fun v σ H Q=>∀ (pins:List (Addr×Obj)) (s:Shared) (u:Value),Inv X pins σ H s->RelV v u->wpAny (model X.prog X.w) X.A (assign tg X.env u) (fun _ s'=>∃ σ' H',Inv X pins σ' H' s'/\Q σ' H') X.xe s
noncomputable def wpF (ifs:List Expr):TT:=fun σ H Q=>∀ (pins:List (Addr×Obj)) (s:Shared),Inv X pins σ H s ->
 wpAny (model X.prog X.w) X.A (forIn ifs true fun c r=>if r=true then do let ok<-isTrue c X.env (eval c X.env); pure (ForInStep.yield ok) else pure (ForInStep.yield r)) (TP X pins σ Q) X.xe s
noncomputable def wpI (tg iter:Expr):TI:=fun σ H R=>∀ (pins:List (Addr×Obj)) (s:Shared),Inv X pins σ H s ->
  wpAny (model X.prog X.w) X.A (eval iter X.env) (fun v s1=>wpAny (model X.prog X.w) X.A (pyIter v) (PIE X pins σ tg R) X.xe s1) X.xe s
end
section
variable {X:Cx} {e:Expr} {es:List Expr} {st:Stmt} {sts:List Stmt} {tg iter:Expr} {σ:St} {H:Hp}
theorem zi:PE X e (wpE X e):=fun pins s σ H Q I h=>h pins s I
theorem qS:PT X e (wpT X e):=fun pins s σ H Q I h=>h pins s I
theorem yf:PW X e (wpW X e):=fun wh pins s σ H Q I h=>h wh pins s I
theorem qR:PA X es (wpA X es):=fun pos pins s σ H Q I h=>h pos pins s I
theorem ye:PS X st (wpS X st):=fun pins s σ H D I h=>h pins s I
theorem qh:PSs X sts (wpB X sts):=fun pins s σ H D I h=>h pins s I
theorem Wy:PG X tg (wpG X tg):=fun pins s σ H v u Q I r h=>h pins s u I r
theorem ZE:PI X tg iter (wpI X tg iter):=fun pins s σ H R I h=>h pins s I
theorem PE.wp {t:TE}{Q:VK}(h:PE X e t) (q:t σ H Q):wpE X e σ H Q:=fun pins s I=>h pins s σ H Q I q
theorem PT.wp {t:TT}{Q:Bool->Hp->Prop}(h:PT X e t) (q:t σ H Q):wpT X e σ H Q:=fun pins s I=>h pins s σ H Q I q
theorem PW.wp {t:TT}{Q:Bool->Hp->Prop}(h:PW X e t) (q:t σ H Q):wpW X e σ H Q:=fun wh pins s I=>h wh pins s σ H Q I q
theorem PA.wp {t:TA}{Q:List V->Hp->Prop}(h:PA X es t) (q:t σ H Q):wpA X es σ H Q:=fun pos pins s I=>h pos pins s σ H Q I q
theorem PS.wp {t:TS}{D:qv}(h:PS X st t) (q:t D σ H):wpS X st D σ H:=fun pins s I=>h pins s σ H D I q
theorem PSs.wp {t:TS}{D:qv}(h:PSs X sts t) (q:t D σ H):wpB X sts D σ H:=fun pins s I=>h pins s σ H D I q
theorem PG.wp {t:TG}{v:V}{Q:St->Hp->Prop}(h:PG X tg t) (q:t v σ H Q):wpG X tg v σ H Q:=fun pins s u I r=>h pins s σ H v u Q I r q
theorem PF.wp {ifs:List Expr}{t:TT}{Q:Bool->Hp->Prop}(h:PF X ifs t) (q:t σ H Q):wpF X ifs σ H Q:=fun pins s I=>h pins s σ H Q I q
theorem PI.wp {t:TI}{R:It->Hp->Prop}(h:PI X tg iter t) (q:t σ H R):wpI X tg iter σ H R:=fun pins s I=>h pins s σ H R I q
theorem wpE.mono {Q Q':VK}(h:wpE X e σ H Q) (k:∀ v H',Q v H'->Q' v H'):wpE X e σ H Q':=fun pins s I=>thn (h pins s I) fun u s' ⟨v,H',a,b,c⟩=>⟨v,H',a,b,k v H' c⟩
theorem wpA.mono {Q Q':List V->Hp->Prop}(h:wpA X es σ H Q) (k:∀ v H',Q v H'->Q' v H'):wpA X es σ H Q':=fun pos pins s I=>thn (h pos pins s I) fun u s' ⟨v,H',a,b,c⟩=>⟨v,H',a,b,k v H' c⟩
end
noncomputable def Al (M:Addr->Prop) (H:Hp):Prop:=∀ a,M a->H a≠none
inductive Ent where
 | d (x:PyData)
 | v (x:V)
noncomputable abbrev Ge:=List (Option Ent)
structure RS (M:Addr->Prop) (Γ:Ge) (σ:St) (H:Hp):Prop where
 al:Al M H
 at':∀ (i:Nat) (d:PyData),Γ[i]?=some (some (.d d))->∃ v,σ[i]?=some (some v)/\Rep M H v d
 av:∀ (i:Nat) (v:V),Γ[i]?=some (some (.v v))->σ[i]?=some (some v)
noncomputable def zel (M:Addr->Prop) (H:Hp) (v:V):Ent->Prop
 | .d d=>Rep M H v d
 | .v u=>v=u
theorem RS.setE {M:Addr->Prop}{Γ:Ge}{σ:St}{H:Hp}{v:V}{z:Ent}{i:Nat}(h:RS M Γ σ H) (r:zel M H v z) (hi:i<σ.length):RS M (Γ.set i (some z)) (σ.set i (some v)) H:=⟨h.al,fun j d' e=>by
 by_cases hj:j=i
 ·subst hj
  by_cases hl:j<Γ.length
  ·rw[List.getElem?_set_self hl] at e
   cases e
   exact⟨v,by rw[List.getElem?_set_self hi],r⟩
  ·rw[List.getElem?_eq_none (by simpa using hl)] at e; cases e
 ·rw[List.getElem?_set_ne (Ne.symm hj)] at e |-
  exact h.at' j d' e,fun j d' e=>by
 by_cases hj:j=i
 ·subst hj
  by_cases hl:j<Γ.length
  ·rw[List.getElem?_set_self hl] at e
   cases e
   rw[List.getElem?_set_self hi]; exact congrArg (fun x=>some (some x)) r
  ·rw[List.getElem?_eq_none (by simpa using hl)] at e; cases e
 ·rw[List.getElem?_set_ne (Ne.symm hj)] at e |-
  exact h.av j d' e⟩
theorem RS.setV {M:Addr->Prop}{Γ:Ge}{σ:St}{H:Hp}{v:V}{i:Nat}(h:RS M Γ σ H) (hi:i<σ.length):RS M (Γ.set i (some (.v v))) (σ.set i (some v)) H:=h.setE rfl hi
section
variable {X:Cx} {Γ:Ge} {pos p:Pos} {a b c:Expr} {es:List Expr} {d d1 d2:PyData} {ds:List PyData}
theorem zw {H:Hp}{p:Addr}{o:HO}(n:H p=none):Same H (upd H p o):=fun b u e=>by rw[ze (zH e n)]; exact e
theorem Yc (hu:∀ n,n<=60->X.A.units+n<cLine):OpR X (compareOp .Eq) (fun x y H Q=>∃ M M' d1 d2,Rep M H x d1/\Rep M' H y d2/\d1.canLay0=true/\d2.canLay0=true/\min d1.depth d2.depth<=60/\Q (.bl (PyData.eqv d1 d2)) H):=by
 intro pins s σ H x y v u Q I rx ry h
 obtain⟨M,M',d1,d2,r1,r2,c1,c2,hd,q⟩:=h
 obtain⟨as,z1⟩:=r1.reads I.hok c1 rx
 obtain⟨bs,z2⟩:=r2.reads I.hok c2 ry
 exact SeqAt.compareEq_reads z1 z2 c1 c2 (hu _ hd) ⟨.bl _,H,I,rfl,q⟩
theorem Yd (hu:∀ n,n<=60->X.A.units+n<cLine):OpR X (compareOp .NotEq) (fun x y H Q=>∃ M M' d1 d2,Rep M H x d1/\Rep M' H y d2/\d1.canLay0=true/\d2.canLay0=true/\min d1.depth d2.depth<=60/\Q (.bl (!PyData.eqv d1 d2)) H):=by
 intro pins s σ H x y v u Q I rx ry h
 obtain⟨M,M',d1,d2,r1,r2,c1,c2,hd,q⟩:=h
 obtain⟨as,z1⟩:=r1.reads I.hok c1 rx
 obtain⟨bs,z2⟩:=r2.reads I.hok c2 ry
 exact SeqAt.compareNe_reads z1 z2 c1 c2 (hu _ hd) ⟨.bl _,H,I,rfl,q⟩
theorem Room.u60 {k:Nat}{A:Around}(r:Room k A):∀ n,n<=60->A.units+n<cLine:=fun n h=>by have:=r.units; omega
end
end L2
namespace PySem
open PySem.AutoSeq1 (wpAny_loadPart')
theorem vP (l:Addr) (items:Array Value) (n:Nat) (dd:Option Addr) (sl:Array (Option Value)) (x:Int) (u:Tok) (hb1:¬ (decide (x< -(2 ^ 63))||decide (x≥2 ^ 63))=true) (hc0:¬ (items.isEmpty||x==1)=true) (hc1:¬ (decide (x<=0)||items.isEmpty)=true) (hc2:¬ (items.size:Int)*x>(2 ^ 63-1) / 8) (hc3:¬ Builtin.Tuple.tupleTooMany ((items.size:Int)*x)=true) (hsz:((List.replicate x.toNat items).foldl (·++·) #[]).size<=sizeLine) :
  Meets (Builtin.«tuple.__mul__» ⟨[.ref l,.int x u],[]⟩) (fun _ R s=>s.heap.get? l=some { cls:=.type "tuple",dict:=dd,data:=.seq items n,slots:=sl }/\R (.ok (.ret (Value.ref s.heap.objs.size))) { s with heap:=s.heap.push { cls:=Value.type "tuple",data:=Data.seq ((List.replicate x.toNat items).foldl (·++·) #[]) },toks:=s.toks }) :=
 .of_wp fun prog w A R s h=>by
  obtain⟨hp,g,d,tk,os⟩:=s; obtain⟨hl,h⟩:=h
  have f1:=AutoSeq1.idx_int
  wp_walk using wpAny_loadPart' hl
  refine wpAny_ite_false (decide_eq_false hb1) ?_
  wp_walk using wpAny_loadPart' hl
  first | (refine wpAny_ite_false (decide_eq_false hc2) ?_; wp_walk using wpAny_loadPart' hl) | skip
  first | (refine wpAny_ite_false (decide_eq_false (Nat.not_lt.mpr hsz)) ?_; wp_walk using wpAny_loadPart' hl) | skip
  exact⟨_,rfl,h⟩
theorem vN (l:Addr) (items:Array Value) (n:Nat) (dd:Option Addr) (sl:Array (Option Value)) (x:Int) (u:Tok) (hb1:¬ (decide (x< -(2 ^ 63))||decide (x≥2 ^ 63))=true) (hc0:(items.isEmpty||x==1)=true) :
  Meets (Builtin.«tuple.__mul__» ⟨[.ref l,.int x u],[]⟩) (fun _ R s=>s.heap.get? l=some { cls:=.type "tuple",dict:=dd,data:=.seq items n,slots:=sl }/\R (.ok (.ret (Value.ref l))) { s with heap:=s.heap,toks:=s.toks }) :=
 .of_wp fun prog w A R s h=>by
  obtain⟨hp,g,d,tk,os⟩:=s; obtain⟨hl,h⟩:=h
  have f1:=AutoSeq1.idx_int
  wp_walk using wpAny_loadPart' hl
  refine wpAny_ite_false (decide_eq_false hb1) ?_
  wp_walk using wpAny_loadPart' hl
  exact⟨_,rfl,h⟩
theorem vO (l:Addr) (items:Array Value) (n:Nat) (dd:Option Addr) (sl:Array (Option Value)) (x:Int) (u:Tok) (hb1:¬ (decide (x< -(2 ^ 63))||decide (x≥2 ^ 63))=true) (hc0:¬ (items.isEmpty||x==1)=true) (hc1:(decide (x<=0)||items.isEmpty)=true) :
  Meets (Builtin.«tuple.__mul__» ⟨[.ref l,.int x u],[]⟩) (fun _ R s=>s.heap.get? l=some { cls:=.type "tuple",dict:=dd,data:=.seq items n,slots:=sl }/\R (.ok (.ret (Value.ref s.heap.objs.size))) { s with heap:=s.heap.push { cls:=Value.type "tuple",data:=Data.seq #[] },toks:=s.toks }) :=
 .of_wp fun prog w A R s h=>by
  obtain⟨hp,g,d,tk,os⟩:=s; obtain⟨hl,h⟩:=h
  have f1:=AutoSeq1.idx_int
  wp_walk using wpAny_loadPart' hl
  refine wpAny_ite_false (decide_eq_false hb1) ?_
  wp_walk using wpAny_loadPart' hl
  exact⟨_,rfl,h⟩
theorem ZB:fillsNumberSlot (.type "tuple") "mul" =pure false :=
 fillsNumberSlot_seq (id:= "tuple.__mul__") (r:=some (.builtin "tuple.__rmul__")) F.slot_tuple_mul.lookup (by decide +kernel) F.slot_tuple_rmul.lookup (by decide +kernel)
theorem J4:seqRepeat? (.type "tuple")=pure (some (.builtin "tuple.__mul__")):=by
 unfold seqRepeat?
 rw[seqSlot_of (T:= "tuple") (name:= "__mul__") (id:= "tuple.__mul__") F.slot_tuple_mul.lookup (by decide +kernel),seqSlot_of (T:= "tuple") (name:= "__rmul__") (id:= "tuple.__rmul__") F.slot_tuple_rmul.lookup (by decide +kernel)]
 rfl
theorem Q8 (a:Int) (t:Tok) (l:Addr) (items:Array Value) (n:Nat) (dd:Option Addr) (sl:Array (Option Value)) :
  Meets (Builtin.«int.__rmul__» ⟨[.int a t,.ref l],[]⟩) (fun _ R s=>s.heap.get? l=some { cls:=.type "tuple",dict:=dd,data:=.seq items n,slots:=sl }/\R (.ok (.ret Value.notImplemented)) s) :=
 .of_wp fun prog w A R s h=>by obtain⟨hp,g,d,tk,os⟩:=s; obtain⟨hl,h⟩:=h; wp_walk using wpAny_loadPart' hl; exact⟨_,rfl,h⟩
end PySem
namespace L2
open PySem PySem.Spec PyProof.Rows
variable [Cs]
section
variable {X:Cx}
noncomputable def zeU (K:PySem.W.Frag):R2:=fun x y H Q=>∃ l k xs,x=.ref l/\y=.int k/\SqT K H l xs/\ -(2 ^ 63)<=k/\k<2 ^ 63/\xs.length*k.toNat<=sizeLine /\
 ((xs= []∨k=1)->Q (.ref l) H)/\∀ p,H p=none->Q (.ref p) (upd H p (.tup (List.replicate k.toNat xs).flatten))
theorem za2:OpR X (binaryOp .Mult) (zeU X.K):=by
 intro pins s σ H x y v u Q I rx ry h
 obtain⟨l,k,xs,rfl,rfl,hH,h1,h2,hz,qs,q⟩:=h
 cases rx
 obtain⟨t,rfl⟩:=ry
 obtain⟨its,r,hit,hzz⟩:=I.tuple hH
 have hl:=r.length
 obtain⟨⟨cls,dd,data,sl⟩,ho,hc,n,hd⟩:=id hit
 simp only at hc hd
 subst hc hd
 have hb1:¬ (decide (k< -(2 ^ 63))||decide (k≥2 ^ 63))=true:=by
  simp only[Bool.or_eq_true,decide_eq_true_eq]; omega
 have hnew:List.foldl (fun x1 x2=>x1++x2) #[] (List.replicate k.toNat its.toArray)=(List.replicate k.toNat its).flatten.toArray:=by
  have:=wG its k.toNat []
  rw[List.nil_append] at this
  exact this
 refine wpAny_binaryOp_repeat_ref (T:= "tuple") (U:= "int") (by decide) ⟨_,ho,rfl⟩ (fun s'=>typeIs_int s' k t) ZB F.fills_int_mul F.slot_int_rmul J4 F.slot_int_index.lookup
  (call_meets F.slot_int_rmul (typeIs_int s k t) F.entry_int_rmul (F.args_int_rmul_2 _ _) (Q8 k t l its.toArray n dd sl) ⟨ho,rfl,⟨_,ho,rfl⟩,?_⟩)
 by_cases hc0:(its.toArray.isEmpty||k==1)=true
 ·refine call_meets F.slot_tuple_mul ⟨_,ho,rfl⟩ F.entry_tuple_mul (F.args_tuple_mul_2 _ _) (vN l its.toArray n dd sl k t hb1 hc0) ⟨ho,?_⟩
  refine⟨.ref l,H,I,rfl,qs ?_⟩
  simp only[Bool.or_eq_true,beq_iff_eq] at hc0
  rcases hc0 with z | z
  ·left
   have:its= []:=by simpa using z
   subst this
   exact List.eq_nil_of_length_eq_zero hl
  ·exact .inr z
 ·by_cases hc1:(decide (k<=0)||its.toArray.isEmpty)=true
  ·refine call_meets F.slot_tuple_mul ⟨_,ho,rfl⟩ F.entry_tuple_mul (F.args_tuple_mul_2 _ _) (vO l its.toArray n dd sl k t hb1 hc0 hc1) ⟨ho,?_⟩
   have e0:(List.replicate k.toNat xs).flatten= []:=by
    simp only[Bool.or_eq_true,decide_eq_true_eq] at hc1
    rcases hc1 with z | z
    ·rw[show k.toNat=0 by omega]; rfl
    ·exact absurd (by simp[z]) hc0
   refine⟨.ref s.heap.objs.size,_,I.laid (t':=s.toks) (o:=.tup []) (fun b u e=>Heap.get?_push_of_some _ e) (Nat.le_refl _) ?_,rfl,by have:=q _ (I.hok.fresh (Nat.le_refl _)); rw[e0] at this; exact this⟩
   exact⟨Nat.zero_le _,[],.nil,⟨_,Heap.get?_push_size _ rfl,rfl,_,rfl⟩⟩
  ·have hlen:its.length*k.toNat<=sizeLine:=by rw[<- hl]; exact hz
   have hk0:0<k:=by
    simp only[Bool.or_eq_true,decide_eq_true_eq] at hc1; omega
   have hm:((its.toArray.size:Int)*k)=((its.length*k.toNat:Nat):Int):=by
    rw[List.size_toArray]
    have:k=(k.toNat:Int):=by omega
    rw[Int.natCast_mul,<- this]
   have hsl:(sizeLine:Nat)<=(2 ^ 63-1) / 8:=by decide
   have hc2:¬ (its.toArray.size:Int)*k>(2 ^ 63-1) / 8:=by
    rw[hm]
    have h63:((2 ^ 63-1) / 8:Int)=(((2 ^ 63-1) / 8:Nat):Int):=by decide
    rw[h63]
    intro z
    have:=Int.ofNat_lt.mp z
    omega
   have hc3:¬ Builtin.Tuple.tupleTooMany ((its.toArray.size:Int)*k)=true:=by
    unfold Builtin.Tuple.tupleTooMany
    rw[hm,decide_eq_true_eq]
    intro z
    have:=Int.ofNat_lt.mp z
    omega
   refine call_meets F.slot_tuple_mul ⟨_,ho,rfl⟩ F.entry_tuple_mul (F.args_tuple_mul_2 _ _) (vP l its.toArray n dd sl k t hb1 hc0 hc1 hc2 hc3 (by rw[hnew,List.size_toArray,ya,Nat.mul_comm]; exact hlen)) ⟨ho,?_⟩
   rw[hnew]
   refine⟨.ref s.heap.objs.size,_,I.laid (t':=s.toks) (o:=.tup (List.replicate k.toNat xs).flatten) (fun b u e=>Heap.get?_push_of_some _ e) (Nat.le_refl _) ?_,rfl,q _ (I.hok.fresh (Nat.le_refl _))⟩
   exact⟨by rw[ya,Nat.mul_comm]; exact hz,_,r.rep k.toNat,⟨_,Heap.get?_push_size _ rfl,rfl,_,rfl⟩⟩
theorem RepL.rep {M:Addr->Prop}{H:Hp}{vs:List V}{ds:List PyData}(h:RepL M H vs ds):∀ k:Nat,RepL M H (List.replicate k vs).flatten (List.replicate k ds).flatten
 | 0=>.nil
 | k+1=>by rw[List.replicate_succ,List.replicate_succ,List.flatten_cons,List.flatten_cons]; exact h.append (RepL.rep h k)
theorem Rep.tup_inv {M:Addr->Prop}{H:Hp}{v:V}{ds:List PyData}(r:Rep M H v (.tuple ds)):∃ a vs,v=.ref a/\H a=some (.tup vs)/\RepL M H vs ds:=by
 cases r with
 | tuple e q=>exact⟨_,_,rfl,e,q⟩
theorem Rep.lst_inv {M:Addr->Prop}{H:Hp}{v:V}{ds:List PyData}(r:Rep M H v (.list ds)):∃ a vs,v=.ref a/\H a=some (.lst vs)/\¬ M a/\RepL M H vs ds:=by
 cases r with
 | list e n q=>exact⟨_,_,rfl,e,n,q⟩
variable {Γ:Ge} {pos p p2:Pos} {a b c:Expr} {es:List Expr} {d d1 d2:PyData} {ds ds1 ds2:List PyData}
noncomputable def zdu (K:PySem.W.Frag):R2:=fun x y H Q=>∃ a b xs ys,x=.ref a/\y=.ref b/\SqT K H a xs/\SqT K H b ys/\xs.length+ys.length<=sizeLine/\(xs= []->Q (.ref b) H)/\(ys= []->Q (.ref a) H)/\∀ p,H p=none->Q (.ref p) (upd H p (.tup (xs++ys)))
theorem kR:OpR X (binaryOp .Add) (zdu X.K):=by
 intro pins s σ H x y v u Q I rx ry h
 obtain⟨a,b,xs,ys,rfl,rfl,ha,hb,hz,q0,q1,q⟩:=h
 cases rx
 cases ry
 obtain⟨its,r,hit,_⟩:=I.tuple ha
 obtain⟨its2,r2,hit2,_⟩:=I.tuple hb
 by_cases hv:its= []
 ·obtain⟨⟨cls,dd,data,sl⟩,ho,hc,n,hd⟩:=id hit
  obtain⟨⟨cls2,dd2,data2,sl2⟩,ho2,hc2,n2,hd2⟩:=id hit2
  simp only at hc hd hc2 hd2
  subst hc hd hc2 hd2
  refine concat_meets ⟨_,ho,rfl⟩ ⟨_,ho2,rfl⟩ noFill_tuple_add seq_tuple_add PySem.F.slot_tuple_add PySem.F.entry_tuple_add (PySem.F.args_tuple_add_2 _ _)
   (tuple_addW0 a b its.toArray its2.toArray n n2 dd dd2 sl sl2 (by simp[hv])) ⟨ho,ho2,⟨.ref b,H,I,rfl,q0 ?_⟩⟩
  exact r.nil_iff.mp hv
 ·refine HT.cat_tup hit hit2 hv (fun hw=>⟨.ref a,H,I,rfl,q1 (r2.nil_iff.mp hw)⟩) (fun _=>?_) (by rw[<- r.length,<- r2.length]; exact hz)
  refine⟨.ref s.heap.objs.size,_,I.laid (t':=s.toks) (o:=.tup (xs++ys)) (fun b u e=>Heap.get?_push_of_some _ e) (Nat.le_refl _) ?_,rfl,q _ (I.hok.fresh (Nat.le_refl _))⟩
  exact⟨by rw[List.length_append]; exact hz,_,r.append r2,⟨_,Heap.get?_push_size _ rfl,rfl,_,rfl⟩⟩
theorem Wb {M:Addr->Prop}{H:Hp}{vs:List V}{ds:List PyData}{i:Int}{d:PyData}(r:RepL M H vs ds) (h:atI ds i=some d):∃ v,atI vs i=some v/\Rep M H v d:=by
 unfold atI at h |-
 rw[r.length]
 cases e:ixN ds.length i with
 | none=>rw[e] at h; cases h
 | some j=>
  rw[e] at h
  exact r.get' h
end
end L2
namespace L2
open PySem PySem.Spec PyProof.Rows
variable [Cs]
noncomputable def tyD:PyData->String
 | .none=> "NoneType"
 | .bool _=> "bool"
 | .int _=> "int"
 | .str _=> "str"
 | .list _=> "list"
 | .tuple _=> "tuple"
 | .dict _=> "dict"
theorem Rep.ty {K:PySem.W.Frag}{M:Addr->Prop}{H:Hp}{v:V}{d:PyData}(r:Rep M H v d) (hd:tyD d≠ "dict"):Zr K H v (.type (tyD d)):=by
 cases r with
 | none=>exact .non
 | bool b=>exact .bl b
 | int i=>exact .int i
 | str x=>exact .str x
 | list e n q=>exact .lst e
 | tuple e q=>exact .tup e
 | dict _ _ _ _=>exact absurd rfl hd
 | inst _ _ _ _=>exact absurd rfl hd
section
variable {X:Cx}
theorem YV:qB X (.builtin "isinstance") (fun xs H Q=>∃ x T t k,xs= [x,.ty T]/\Zr X.K H x t/\PySem.W.kitOne X.K t (.type T)=some k/\Q (.bl k) H):=by
 intro pins s σ H xs us Q I r h
 obtain⟨x,T,t,k,rfl,ty,e,q⟩:=h
 obtain⟨u,w',rfl,rx,rc⟩:=zaa r
 cases (show w'=Value.type T from rc)
 exact yY I rx ty e fun tk=>⟨.bl k,H,I.tok tk,rfl,q⟩
variable {Γ:Ge} {pos p p2:Pos} {a b c:Expr} {es:List Expr} {d d1 d2:PyData} {ds ds1 ds2:List PyData}
theorem Yk (bs:List Bool):(List.range bs.length).all (fun i=>(bs[i]?).getD false)=bs.all id:=by
 have e:(List.range bs.length).map (fun i=>(bs[i]?).getD false)=bs:=by
  apply List.ext_getElem
  ·simp
  ·intro i h1 h2
   simp[h2]
 have h:=congrArg (fun l=>List.all l id) e
 rw[List.all_map] at h
 exact h
theorem Yl (bs:List Bool):(List.range bs.length).any (fun i=>(bs[i]?).getD false)=bs.any id:=by
 have e:(List.range bs.length).map (fun i=>(bs[i]?).getD false)=bs:=by
  apply List.ext_getElem
  ·simp
  ·intro i h1 h2
   simp[h2]
 have h:=congrArg (fun l=>List.any l id) e
 rw[List.any_map] at h
 exact h
theorem yx {bs:List Bool}{its:List Value}(rv:Vals (bs.map V.bl) its){i:Nat}{v:Value}(e:its[i]?=some v):∃ b,bs[i]?=some b/\v=.bool b:=by
 have hi:i<its.length:=(List.getElem?_eq_some_iff.mp e).1
 have hl:=rv.length
 rw[List.length_map] at hl
 have hb:i<bs.length:=by omega
 obtain⟨u,hu,ru⟩:=rv.get (i:=i) (x:=V.bl bs[i]) (by simp[hb])
 rw[e] at hu; cases hu
 exact⟨bs[i],by simp[hb],ru⟩
theorem yK (hc:X.calm=true):qB X (.builtin "all") (fun xs H Q=>∃ (p:Addr) (bs:List Bool),xs= [.ref p]/\SqL X.K H p (bs.map V.bl)/\Q (.bl (bs.all id)) H):=by
 intro pins s σ H xs us Q I r h
 obtain⟨p,bs,rfl,hq,q⟩:=h
 obtain⟨u,rfl,rx⟩:=jz r
 cases rx
 obtain⟨its,rv,pl,hz⟩:=I.list hq
 have hne:p≠s.heap.objs.size:=by
  obtain⟨o,n,e,_⟩:=pl
  exact Nat.ne_of_lt (Heap.lt_size e)
 have hl:=rv.length
 rw[List.length_map] at hl
 refine call_all_walk (wpAny_pyIter_list pl.isList ⟨s.heap.objs.size,_,_,_,_,_,fun i=>(bs[i]?).getD false,rfl,Walks.list (A:=X.A.in1) (show X.A.in1.handled=none from I.ok.hd hc) s.heap.objs.size p hne its.toArray,
  ⟨⟨_,Heap.get?_push_size _ rfl,rfl,rfl⟩,pl.isList.at fun o e=>Heap.get?_push_of_some _ e⟩,fun i v s' Q' E' hP hQ=>?_,fun h' tk hk=>?_⟩)
 ·obtain⟨b,hb,rfl⟩:=yx rv (by simpa using hP)
  dsimp only at hQ; rw[hb] at hQ
  exact wpAny_truthy_bool hQ
 ·rw[List.size_toArray,<- hl,Yk]
  refine⟨.bl _,H,I.kept (t':=tk) fun b o e=>hk b o ?_ (Heap.get?_push_of_some _ e),rfl,q⟩
  intro z
  rw[List.mem_singleton] at z
  exact absurd (Heap.lt_size e) (by rw[z]; exact Nat.lt_irrefl _)
theorem yL (hc:X.calm=true):qB X (.builtin "any") (fun xs H Q=>∃ (p:Addr) (bs:List Bool),xs= [.ref p]/\SqL X.K H p (bs.map V.bl)/\Q (.bl (bs.any id)) H):=by
 intro pins s σ H xs us Q I r h
 obtain⟨p,bs,rfl,hq,q⟩:=h
 obtain⟨u,rfl,rx⟩:=jz r
 cases rx
 obtain⟨its,rv,pl,hz⟩:=I.list hq
 have hne:p≠s.heap.objs.size:=by
  obtain⟨o,n,e,_⟩:=pl
  exact Nat.ne_of_lt (Heap.lt_size e)
 have hl:=rv.length
 rw[List.length_map] at hl
 refine call_any_walk (wpAny_pyIter_list pl.isList ⟨s.heap.objs.size,_,_,_,_,_,fun i=>(bs[i]?).getD false,rfl,Walks.list (A:=X.A.in1) (show X.A.in1.handled=none from I.ok.hd hc) s.heap.objs.size p hne its.toArray,
  ⟨⟨_,Heap.get?_push_size _ rfl,rfl,rfl⟩,pl.isList.at fun o e=>Heap.get?_push_of_some _ e⟩,fun i v s' Q' E' hP hQ=>?_,fun h' tk hk=>?_⟩)
 ·obtain⟨b,hb,rfl⟩:=yx rv (by simpa using hP)
  dsimp only at hQ; rw[hb] at hQ
  exact wpAny_truthy_bool hQ
 ·rw[List.size_toArray,<- hl,Yl]
  refine⟨.bl _,H,I.kept (t':=tk) fun b o e=>hk b o ?_ (Heap.get?_push_of_some _ e),rfl,q⟩
  intro z
  rw[List.mem_singleton] at z
  exact absurd (Heap.lt_size e) (by rw[z]; exact Nat.lt_irrefl _)
theorem RepL.bls {M:Addr->Prop}{H:Hp}:∀ {vs:List V}{bs:List Bool},RepL M H vs (bs.map PyData.bool)->vs=bs.map V.bl
 | _,[],.nil=>rfl
 | _,b::bs,.cons q t=>by cases q; rw[List.map_cons,<- RepL.bls t]
theorem yD:bootBuiltins "all" =some (.builtin "all"):=by decide +kernel
theorem yE:bootBuiltins "any" =some (.builtin "any"):=by decide +kernel
theorem jk:bootBuiltins "list" =some (.type "list"):=by decide +kernel
theorem QV:bootBuiltins "tuple" =some (.type "tuple"):=by decide +kernel
theorem wj:bootBuiltins "int" =some (.type "int"):=by decide +kernel
theorem v8:bootBuiltins "bool" =some (.type "bool"):=by decide +kernel
theorem wo:bootBuiltins "set" =some (.type "set"):=by decide +kernel
end
section
variable {X:Cx} {Γ:Ge} {tg iter a b:Expr} {ds:List PyData} {p pos:Pos}
noncomputable def zG (n:Nat):List PyData:=(List.range n).map fun (i:Nat)=>PyData.int (i:Int)
theorem zl (n:Nat):(zG n).length=n:=by simp[zG]
theorem qK {n i:Nat}{d:PyData}(h:(zG n)[i]?=some d):i<n/\d=.int (i:Int):=by
 unfold zG at h
 rw[List.getElem?_map] at h
 have hi:i<n:=by
  cases e:(List.range n)[i]? with
  | none=>rw[e] at h; cases h
  | some j=>simpa using (List.getElem?_eq_some_iff.mp e).1
 rw[List.getElem?_range hi] at h
 exact⟨hi,(Option.some.inj h).symm⟩
end
noncomputable def zeg (X:Cx) (ts:List Expr):TGs:=fun vs σ H Q=>∀ (pins:List (Addr×Obj)) (s:Shared) (us:List Value),Inv X pins σ H s->Vals vs us ->
  wpAny (model X.prog X.w) X.A (assignInOrder ((assignEach ts X.env).map (·.2)) us) (fun _ s'=>∃ σ' H',Inv X pins σ' H' s'/\Q σ' H') X.xe s
theorem JG {X:Cx}{ts:List Expr}:PGs X ts (zeg X ts):=fun pins s σ H vs us Q I r h=>h pins s us I r
theorem PGs.wp {X:Cx}{ts:List Expr}{t:TGs}{vs:List V}{σ:St}{H:Hp}{Q:St->Hp->Prop}(h:PGs X ts t) (q:t vs σ H Q):zeg X ts vs σ H Q:=fun pins s us I r=>h pins s σ H vs us Q I r q
section
variable {X:Cx} {k:Nat} {Γ Γ1 Γ2:Ge} {tg:Expr} {ts:List Expr} {d:PyData} {ds:List PyData} {pos:Pos}
end
theorem YS {k:Nat}{ix:List Nat}{σ:St}{j i0:Nat}{v:V}(q:ix[j]?=some i0) (h:σ[i0]?=some (some v)):(cS k ix σ)[k+j]?=some (some v):=by
 unfold cS
 rw[List.getElem?_append_right (by simp),List.length_replicate,Nat.add_sub_cancel_left,List.getElem?_map,q]
 simp[h]
section
variable {X:Cx} {elt tg iter:Expr} {ifs:List Expr} {scope:Scope} {pos:Pos} {N':List Str} {k:Nat} {ix:List Nat} {Γ:Ge} {ds:List PyData} {M:Addr->Prop} {σ:St} {H:Hp} {Q:VK}
noncomputable def gU (X:Cx) (N':List Str) (scope:Scope) (tg:Expr):TG:=fun v σ H Q=>∀ cl C s2 H2 fp,wpG (X.comp N' scope cl C s2 H2 fp) tg v σ H Q
noncomputable def fU (X:Cx) (N':List Str) (scope:Scope) (ifs:List Expr):TT:=fun σ H Q=>∀ cl C s2 H2 fp,wpF (X.comp N' scope cl C s2 H2 fp) ifs σ H Q
noncomputable def eU (X:Cx) (N':List Str) (scope:Scope) (elt:Expr):TE:=fun σ H Q=>∀ cl C s2 H2 fp,wpE (X.comp N' scope cl C s2 H2 fp) elt σ H Q
theorem kZ (hcalm:X.calm=true) (S:CSc X.env.scope X.N scope N' k ix) (hf:∀ x,foldedSetIterable iter X.env x=pure x:=by intro _; rfl) :
    PE X (.ListComp elt [⟨tg,iter,ifs,0⟩] scope pos) (wM k ix (wpI X tg iter) (gU X N' scope tg) (fU X N' scope ifs) (eU X N' scope elt)) :=
  za6 hcalm S ZE (fun cl C s2 H2 fp pins s σ H v u Q I r h=>h cl C s2 H2 fp pins s u I r) (fun cl C s2 H2 fp pins s σ H Q I h=>h cl C s2 H2 fp pins s I)
    (fun cl C s2 H2 fp pins s σ H Q I h=>h cl C s2 H2 fp pins s I) hf
theorem zbb {i:Nat}{x:Str}{pos' spos:Pos}(hN:X.N.Nodup) (hi':X.N[i]?=some x) (hx:Loc X.env.scope x) (hcalm:X.calm=true) (S:CSc X.env.scope X.N scope N' k ix)
  (hsw:swapsWith (.ListComp elt [⟨tg,iter,ifs,0⟩] scope pos) (some (.Name x pos')) spos.line X.env=pure true) (hs:∀ x,foldedSetIterable iter X.env x=pure x:=by intro _; rfl)
  (hf:X.fn x=true∨X.env.scope.names.lookup x=some .local:=by first | exact .inl rfl | exact .inr rfl | assumption) :
  PS X (.Assign [.Name x pos'] (.ListComp elt [⟨tg,iter,ifs,0⟩] scope pos) spos) (WG (wM k ix (wpI X tg iter) (gU X N' scope tg) (fU X N' scope ifs) (eU X N' scope elt)) (Js i)) :=
 zba hN hi' hx hcalm S ZE (fun cl C s2 H2 fp pins s σ H v u Q I r h=>h cl C s2 H2 fp pins s u I r) (fun cl C s2 H2 fp pins s σ H Q I h=>h cl C s2 H2 fp pins s I)
  (fun cl C s2 H2 fp pins s σ H Q I h=>h cl C s2 H2 fp pins s I) hsw hs hf
end
inductive Out where
 | next (Γ:Ge)
 | ret (d:PyData)
 | new (ds:List PyData)
section
variable {X:Cx} {Γ Γ1:Ge} {st:Stmt} {sts body els:List Stmt} {o:Out} {d:PyData} {e c tg:Expr} {pos:Pos}
end
structure Kn (P:Program) (w:World) (K:PySem.W.Frag) (mg:Str->Option Value) (base:Heap) (CX:CXT) (x:Str) (k:Nat) (sp:Sp):Prop where
 ex:∃ (f:Addr) (fd:FuncData) (ps:List Str),FnOk P w K mg base CX k f fd ps sp/\mg x=some (.ref f)/\PySem.W.keepIn K (.ref f)=true/\Binds K fd ps []
section
variable {X:Cx} {Γ:Ge} {x:Str} {k:Nat} {CX:CXT} {E:XK} {n:Nat} {pre:List PyData->Prop} {e:Expr} {es:List Expr} {ds:List PyData} {p pos:Pos}
theorem zb1 {sp:Sp}{σ:St}{H:Hp}{Q:VK}(kn:Kn X.prog X.w X.K X.mg X.base CX x k sp) (hr:Room k X.A) (hg:Gl X x) (hx:w4 CX X E) (h:wpA X (e::es) σ H fun vs H1=>sp vs H1 Q E) (hdb:(x==("__debug__" :Str))=false:=by decide)
    (he:starEach (e::es) X.env=(false,eval e X.env)::starEach es X.env:=by rfl) (hpl:(backTo pos (starEach es X.env)).any (·.1)=false:=by rfl):wpE X (.Call (.Name x p) (e::es) [] pos) σ H Q:=by
  obtain⟨f,fd,ps,F,hm,hk,hb⟩:=kn.ex
  refine (za4 F hr hg hm hk hb .nil hx qR hdb he hpl).wp (h.mono fun vs H1 q=>?_)
  show sp (vs++ []) H1 Q E
  rw[List.append_nil]; exact q
end
theorem WF {N:List Str}{vs:List V}(h:vs.length<=N.length):(start N vs).length=N.length:=by
 unfold start; simp; omega
structure Df (K:PySem.W.Frag) (mg:Str->Option Value) (x:Str) (st:Stmt) (ps:List Str):Prop where
 ex:∃ f fd,Fun K x x st f fd/\mg x=some (.ref f)/\Binds K fd ps []
section
variable {P:Program} {w:World} {K:PySem.W.Frag} {mg:Str->Option Value} {base:Heap} {x:Str} {st:Stmt} {N ps:List Str} {k:Nat}
theorem Df.kn {sp:Sp}(D:Df K mg x st ps) (S:qO N ps (defScope st)) (len:∀ vs H Q E,sp vs H Q E->vs.length=ps.length)
  (hbody:∀ (f:Addr) (cdv:Value) (A:Around) (outer:List Env) (s:Shared) (H:Hp) (vs:List V) (Q:VK) (E:XK),Room k (A.deeper (envOfC x (defScope st) s.heap.objs.size f cdv))->sp vs H Q E ->
   wpB (Zh CX0 P w K mg base N x (defScope st) f cdv A outer s H E).nox (defBody st) { nx:=fun _ H'=>Q .non H',rt:=Q } (start N vs) H):Kn P w K mg base CX0 x (k+1) sp:=by
 obtain⟨f,fd,F,hm,hb⟩:=D.ex
 exact⟨f,fd,ps,F.ok S len (fun cdv A outer s H vs Q E hr h=>⟨_,qh,hbody f cdv A outer s H vs Q E hr h⟩),hm,F.kp,hb⟩
end
section
variable {X:Cx} {M:Addr->Prop} {Γ Γ1:Ge} {σ:St} {H:Hp} {D:qv} {st:Stmt} {sts body els:List Stmt} {o:Out} {d:PyData} {e c tg:Expr} {pos pos':Pos} {x:Str}
theorem zff (i:Nat){Q:VK}(hN:X.N.Nodup) (h:wpE X e σ H Q) (k:∀ v H',Q v H'->wpB X sts D (σ.set i (some v)) H') (hi:X.N[i]?=some x:=by rfl) (hx:Loc X.env.scope x:=by first | exact Or.inl rfl | exact Or.inr rfl) (hs:swapsWith e (some (.Name x pos')) pos.line X.env=pure false:=by rfl)
    (hf:X.fn x=true∨X.env.scope.names.lookup x=some .local:=by first | exact .inl rfl | exact .inr rfl | assumption):wpB X (.Assign [.Name x pos'] e pos::sts) D σ H :=
  (qJ (Qy hN hi hx zi hs hf) qh).wp (h.mono k)
end
section
variable {X:Cx} {M:Addr->Prop} {Γ Γ1:Ge} {σ:St} {H:Hp} {D:qv} {sts:List Stmt} {e:Expr} {ds:List PyData} {d:PyData} {pos pos':Pos} {x:Str}
end
mutual
/-- no list within -/
noncomputable def noL:PyData->Bool
 | .list _=>false
 | .tuple ds=>zaX ds
 | .dict _=>false
 | _=>true
noncomputable def zaX:List PyData->Bool
 | []=>true
 | d::ds=>noL d&&zaX ds
end
mutual
theorem Rep.free {M M':Addr->Prop}{H:Hp}:∀ {v:V}{d:PyData},noL d=true->Rep M H v d->Rep M' H v d
 | _,_,_,.none=>.none
 | _,_,_,.bool b=>.bool b
 | _,_,_,.int i=>.int i
 | _,_,_,.str x=>.str x
 | _,_,h,.list e n r=>by simp[noL] at h
 | _,_,h,.tuple e r=>.tuple e (RepL.free (by simpa [noL] using h) r)
 | _,_,h,.dict e n k r=>by cases h
 | _,_,h,.inst e n k r=>by cases h
theorem RepL.free {M M':Addr->Prop}{H:Hp}:∀ {vs:List V}{ds:List PyData},zaX ds=true->RepL M H vs ds->RepL M' H vs ds
 | _,_,_,.nil=>.nil
 | _,_,h,.cons r t=>by
  rw[zaX,Bool.and_eq_true] at h
  exact .cons (Rep.free h.1 r) (RepL.free h.2 t)
end
section
variable {X:Cx} {M:Addr->Prop} {Γ Γ1:Ge} {σ:St} {H:Hp} {D:qv} {sts:List Stmt} {e:Expr} {ds:List PyData} {d:PyData} {pos pos' p2 p3:Pos} {x:Str} {l:Addr} {vs:List V}
end
theorem Df.of {K:PySem.W.Frag}{mg:Str->Option Value}{h:Heap}{x:Str}{st:Stmt}{ps:List Str}{f:Addr}{oc:Value}{od an:Option Addr}{sl:Array (Option Value)}{kV dc pm cd ct:Value}(X:K.In h) (G:h.Ns mainGlobals mg)
  (a:PySem.W.nsIn K mainGlobals x=some (some (.ref f))) (l:K.lookup f=some ⟨oc,od,.func (PySem.W.fnOf x x (qc st) (defBody st) (defScope st) .none kV dc pm an cd ct),sl⟩) (c:PySem.W.codeIn K cd x=true) (k:PySem.W.keepIn K (.ref f)=true)
  (hb:∀ (kV doc pm:Value) (an:Option Addr) (cdv ct:Value) (us:List Value),us.length=ps.length->bindArgs (PySem.W.fnOf x x (qc st) (defBody st) (defScope st) .none kV doc pm an cdv ct) ⟨us,[]⟩=pure (ps.zip us)):Df K mg x st ps :=
 ⟨f,_,Zj (st:=st) l c k,PySem.W.mg_of X G a,(Zj (st:=st) l c k).binds hb⟩
structure Dl (K:PySem.W.Frag) (x:Str) (st:Stmt) (fa:Addr) (p:Str):Prop where
 ex:∃ fd:FuncData,Fun K x x st fa fd/\∀ (s:Shared) (u:Value),BindsTo s fd ⟨[u],[]⟩ [(p,u)]
theorem Dl.of {K:PySem.W.Frag}{mg:Str->Option Value}{h:Heap}{x p:Str}{st:Stmt}{f fa:Addr}{oc:Value}{od an:Option Addr}{sl:Array (Option Value)}{kV dc pm cd ct:Value}(X:K.In h) (G:h.Ns mainGlobals mg) (hfa:mg x=some (.ref fa))
  (a:PySem.W.nsIn K mainGlobals x=some (some (.ref f))) (l:K.lookup f=some ⟨oc,od,.func (PySem.W.fnOf x x (qc st) (defBody st) (defScope st) .none kV dc pm an cd ct),sl⟩) (c:PySem.W.codeIn K cd x=true) (k:PySem.W.keepIn K (.ref f)=true)
  (hb:∀ (s:Shared) (u:Value),BindsTo s (PySem.W.fnOf x x (qc st) (defBody st) (defScope st) .none kV dc pm an cd ct) ⟨[u],[]⟩ [(p,u)]):Dl K x st fa p:=by
 have e:=hfa.symm.trans (PySem.W.mg_of X G a)
 cases e
 exact⟨_,Zj (st:=st) l c k,hb⟩
noncomputable def yj (K:PySem.W.Frag):Sp:=fun vs H Q _=>∃ (a:Addr) (ns:List Int),vs= [.ref a]/\SqL K H a (ns.map V.int)/\ns.length<=63/\∀ H',Q (.bl true) H'
theorem Fun.law {P:Program}{w:World}{K:PySem.W.Frag}{mg:Str->Option Value}{base:Heap}{x p:Str}{st:Stmt}{N:List Str}{k:Nat}{f:Addr}{fd:FuncData}(F:Fun K x x st f fd) (S:qO N [p] (defScope st))
  (hbody:∀ (cdv:Value) (A:Around) (outer:List Env) (s:Shared) (H:Hp) (Q:VK) (E:XK) (a:Addr) (ns:List Int),Room k (A.deeper (envOfC x (defScope st) s.heap.objs.size f cdv))->SqL K H a (ns.map V.int)->ns.length<=63->(∀ H',Q (.bl true) H') ->
   wpB (Zh CX0 P w K mg base N x (defScope st) f cdv A outer s H E).nox (defBody st) { nx:=fun _ H'=>Q .non H',rt:=Q } (start N [.ref a]) H):FnOk P w K mg base CX0 (k+1) f fd [p] (yj K) :=
 F.ok S (fun vs H Q E ⟨a,ns,e,_⟩=>by rw[e]; rfl) fun cdv A outer s H vs Q E hr ⟨a,ns,e,hS,hlen,kk⟩=>⟨_,qh,by subst e; exact hbody cdv A outer s H Q E a ns hr hS hlen kk⟩
theorem walkL {l:PySem.W.OpenLaw}{q:Program}{loose:List Str}{XP:(Str->Option Value)->Heap->Prop}{YP:World->Heap->Prop}{d:DefRec}{K:Params->PySem.W.Frag}{k:Nat}{st:Stmt}(hn:l.most=some 63) (hdf:d.params.defaults= []) (hk:Room k callerA)
  (hY:∀ (w:World) (h:Heap),YP w h->(K w.params).In h)
  (F:∀ (w:World) (mg:Str->Option Value) (fa:Addr) (h:Heap),(K w.params).In h->h.Ns mainGlobals mg->mg d.name=some (.ref fa) ->
   Dl (K w.params) "law" st fa "_law_script" /\∀ (fd:FuncData),Fun (K w.params) "law" "law" st fa fd->∀ base:Heap,FnOk l.prog w (K w.params) mg base CX0 k fa fd ["_law_script"] (yj (K w.params))) :
  PySem.W.WalkO q loose XP YP l.row.toRowW d [] (fun f vs=>PySem.call f vs) :=
 L2.walk_of (n:=63) (k:=k) (x:= "_law_script") (CX:=fun _=>CX0) (sp:=fun w=>yj (K w.params)) hn (by decide) hdf hk hY (fun w mg fa h KX G hm=>by
  obtain⟨⟨fd,Ff,hb⟩,hF⟩:=F w mg fa h KX G hm
  exact⟨fd,hb,fun base _ _=>hF fd Ff base⟩) (fun _ _ a ns hl _ hS=>⟨a,ns,rfl,hS,hl,fun _=>rfl⟩) fun _ _ _ _ _ z=>z
end L2
namespace L2
open PySem PySem.Spec PyProof.Rows
variable [Cs]
noncomputable def CX1 (P:Program) (w:World):CXT:=fun outer H s E e s'=>∃ (ea:Addr) (c a0:Value) (B h0:Heap) (H':Hp),e=.ref ea/\s'.os=s.os/\AllBare s'.gens/\Heap.FlyingW B outer ea c a0 s'.heap/\h0.UpToSlots s'.heap /\
 (∀ h6,B.StaysIn h6->h0.UpToSlots h6->Un (frs outer) [] H H' s.heap h6/\HOk P w H' h6)/\E c none H'
section
variable {X:Cx} {pins:List (Addr×Obj)} {σ:St} {H:Hp} {s:Shared}
theorem Inv.flies (I:Inv X pins σ H s) (hx:X.ex= []) (hst:X.stack=X.env::X.outer) (hf:X.env.frame=some X.env.locals){h6:Heap}
  (k1:(PySem.W.hideAll s.heap (frs X.stack)).StaysIn h6) (k2:s.heap.UpToSlots h6):Un (frs X.outer) [] X.H₀ H X.s₀.heap h6/\HOk X.prog X.w H h6:=by
 have nex:∀ b,b∉X.ex:=fun b z=>by rw[hx] at z; cases z
 have kk:∀ b o,s.heap.get? b=some o->b∉frs X.stack->h6.get? b=some o:=fun b o e n=>k1 b o (PySem.W.hideAll_get _ e n)
 have fr:∀ b,b∈frs X.stack->∀ o,s.heap.get? b=some o->∃ sl,h6.get? b=some { o with slots:=sl }:=fun b hb o e=>by
  obtain⟨_,o',e',hn⟩:=I.stack.mem hb
  rw[e] at e'
  cases e'
  exact k2 b o e hn
 have hsub:∀ b,b∈frs X.outer->b∈frs X.stack:=fun b hb=>by
  rw[hst]
  unfold frs at hb |-
  rw[List.filterMap_cons,hf]
  exact List.mem_cons_of_mem _ hb
 have hsup:∀ b,b∈frs X.stack->b=X.env.locals∨b∈frs X.outer:=fun b hb=>by
  rw[hst] at hb
  unfold frs at hb |-
  rw[List.filterMap_cons,hf] at hb
  exact List.mem_cons.mp hb
 have hL:∀ b o,X.s₀.heap.get? b=some o->b≠X.env.locals:=fun b o e z=>by
  have h1:=Heap.lt_size e
  have h2:=I.ok.above
  rw[z] at h1
  exact absurd (Nat.lt_of_lt_of_le h1 h2) (Nat.lt_irrefl _)
 refine⟨⟨fun b o e n hb _=>?_,fun b o e n hb _=>?_,fun b o e n _=>I.base.free b o e n (nex b),fun b o e _=>?_,I.base.tups,I.base.frzs,I.base.tbls⟩,fun a o e=>?_⟩
 ·refine kk b o (I.base.keep b o e n hb (nex b)) fun z=>?_
  rcases hsup b z with z | z
  ·exact hL b o e z
  ·exact hb z
 ·obtain⟨sl,e1⟩:=I.base.slot b o e n hb (nex b)
  obtain⟨sl2,e2⟩:=fr b (hsub b hb) _ e1
  exact⟨sl2,e2⟩
 ·obtain⟨o1,e1⟩:=I.base.there b o e (nex b)
  by_cases hb:b∈frs X.stack
  ·obtain⟨sl,e2⟩:=fr b hb _ e1
   exact⟨_,e2⟩
  ·exact⟨o1,kk b o1 e1 hb⟩
 ·refine (I.hok a o e).stay (fun b u hb q=>kk b u q fun z=>?_) (fun _ q=>q) fun _ _ q=>q
  have hn:=I.stkFree b z
  rcases hb with hb | hb
  ·subst hb; rw[e] at hn; cases hn
  ·rw[hb] at hn; cases hn
theorem vq (I:Inv X pins σ H s) (hx:X.ex= []) (hst:X.stack=X.env::X.outer) (hf:X.env.frame=some X.env.locals){h':Heap}{ea:Addr}{c:Value}{args:List Value}
  (hm:Heap.MadeExcOf s.heap h' ea c args) {E:XK} (q:E c none H) {E':Value->Shared->Prop} :
  wpAny (model X.prog X.w) X.A (leaving X.env (.ref ea)) (fun _ s''=>CX1 X.prog X.w X.outer X.H₀ X.s₀ E (.ref ea) s'') E' { s with heap:=h' }:=by
 have hfr:X.A.frames=some (X.env::X.outer):=by rw[<- hst]; exact I.ok.frames
 have hst':=I.stack
 rw[hst] at hst'
 refine wpAny_leaves_madeW (base:=PySem.W.hideAll s.heap (frs X.stack)) (h:=s.heap) hfr hf (fun b o e=>PySem.W.of_hideAll _ e) (PySem.W.funFrames_hide hst' fun env he a ha=>?_) hm fun h'' t f1 f2 f3 f4=>?_
 ·rw[hst]; exact List.mem_filterMap.mpr ⟨env,he,ha⟩
 ·exact⟨ea,c,.ref t,_,s.heap,H,rfl,I.os,I.bare,f1,(Heap.UpToSlots.of_keeps hm.keeps).trans f4,fun h6 k1 k2=>I.flies hx hst hf k1 k2,q⟩
end
noncomputable abbrev bmV:List Value:= [.type "ValueError",.type "Exception",.type "BaseException",.type "object"]
noncomputable def mroIn (K:PySem.W.Frag) (C:Addr):List Value:=match K.lookup C with
 | some ⟨_,_,.cls cd,_⟩=>cd.mro
 | _=> []
theorem Wi {K:PySem.W.Frag}{h:Heap}{C:Addr}(X:K.In h) (q:PySem.W.excIn K C bmV "ValueError.__new__" =true) :
  ∃ bm N nm qn bs hdct sn sub ab col dd k0 k1 k2 k3 k5 mN,h.get? C=some (excClassObj nm qn C N bs bm hdct sn sub ab col dd k0 k1 k2 k3 k5 "ValueError.__new__")/\h.Ns N mN/\mN "__init__" =none/\OwnTail h bmV bm/\mroIn K C=Value.ref C::bm:=by
 unfold PySem.W.excIn at q
 unfold mroIn
 split at q
 ·rename_i d0 c0 s0 e0
  rw[e0]
  dsimp only
  split at q
  ·rename_i C1 bm z0 z1 z2 z3 n1 z5 e1 e2
   rw[Bool.and_eq_true,Bool.and_eq_true,Bool.and_eq_true,Bool.and_eq_true,Bool.and_eq_true] at q
   obtain⟨⟨⟨⟨⟨q1,q2⟩,q3⟩,q4⟩,q5⟩,q6⟩:=q
   have r1:C1=C:=eq_of_beq q1
   have r2:n1= "ValueError.__new__" :=eq_of_beq q2
   have r3:c0.hasDel=false:=by simpa using q3
   have r6:PySem.W.nsIn K c0.ns "__init__" =some none:=eq_of_beq q6
   subst r1 r2
   have r5:s0=#[z0,z1,z2,z3,some (.builtin "ValueError.__new__"),z5]:=by
    cases s0 with
    | mk l=>exact congrArg Array.mk e2
   cases c0 with
   | mk a1 a2 a3 a4 a5 a6 a7 a8 a9 a10 a11=>
    dsimp only at e1 r3 q5 r6
    subst e1 r3 r5
    exact⟨_,_,_,_,_,_,_,_,_,_,_,_,_,_,_,_,_,X _ _ e0,.of_isNs (PySem.W.isNs_of_in X q5),PySem.W.nsMap_none_of_in X q5 r6,PySem.W.tail_of_in X q4,rfl⟩
  ·cases q
 ·cases q
structure yA (X:Cx) (x:Str) (C:Addr):Prop where
 gl:Gl X x
 mg:X.mg x=some (.ref C)
 ex:PySem.W.excIn X.K C bmV "ValueError.__new__" =true
 d:(x==("__debug__" :Str))=false
section
variable {X:Cx} {x:Str} {C:Addr} {np cpos pos cp:Pos} {z:Str} {cj:Nat} {σ:St} {H:Hp} {D:qv}
theorem vf {h:Heap}{bm:List Value}(T:OwnTail h bmV bm):bm.contains (.type "BaseException")=true:=(T.hasType (by decide +kernel))
theorem zah (k:yA X x C) (hcalm:X.calm=true)
  (h:∀ pins s,Inv X pins σ H s->∀ h' ea args,Heap.MadeExcOf s.heap h' ea (.ref C) args->X.xe (.ref ea) { s with heap:=h' }) :
  wpS X (.Raise (some (.Call (.Name x np) [.Constant (.str z) cj cp] [] cpos)) none pos) D σ H:=fun pins s I=>by
 obtain⟨bm,N,nm,qn,bs,hdct,sn,sub,ab,col,dd,k0,k1,k2,k3,k5,mN,hC,hN,hi,T,_⟩:=Wi I.mod.kin k.ex
 refine wpAny_Raise_call_subT (C:=C) (nm:=nm) (q:=qn) (N:=N) (bs:=bs) (bm:=bm) (hdct:=hdct) (sn:=sn) (sub:=sub) (ab:=ab) (col:=col) (dd:=dd) (k0:=k0) (k1:=k1) (k2:=k2) (k3:=k3) (k5:=k5) (mN:=mN) PySem.F.excBase_ValueError (vf T) (I.ok.hd hcalm) rfl hi (jo I k.gl k.mg ⟨rfl,?_⟩ k.d)
 refine Calls.evalArgs_plain ?_
 have hz:wpE X (.Constant (.str z) cj cp) σ H fun v H'=>v=.str z/\H'=H:=pe_str.wp ⟨rfl,rfl⟩
 have hA:wpA X [.Constant (.str z) cj cp] σ H fun vs H'=>vs= [.str z]/\H'=H:=(zo zi pa_nil rfl).wp (hz.mono fun v H' ⟨e1,e2⟩=>⟨by rw[e1],e2⟩)
 refine wpAny_mono (hA cpos pins s I) (fun vs s1 hq=>?_) fun _ _ y=>y
 obtain⟨ws,H1,I1,r,e,eH⟩:=hq
 subst eH
 have hlen:vs.length=1:=by rw[<- r.length,e]; rfl
 exact⟨rfl,by have:=sizeLine_eq; show vs.length<=sizeLine; omega,I1.bk _ _ hC,hN.keeps I1.bk,T.keeps I1.bk,fun h' ea hm=>h pins s1 I1 h' ea vs hm⟩
end
end L2
namespace L2
open PySem PySem.Spec PyProof.Rows
variable [Cs]
noncomputable abbrev Cx.marked (X:Cx) (e:Value):Cx:={ X with A:=X.A.mark (some e),calm:=false,xe:=fun _ _=>False }
noncomputable abbrev Cx.tried (X:Cx) (pins:List (Addr×Obj)) (E:Value->Shared->Prop):Cx:={ X with pn:=X.pn++pins,xe:=E }
section
variable {X:Cx} {pins:List (Addr×Obj)} {σ:St} {H:Hp} {s:Shared} {e:Value} {E:Value->Shared->Prop} {D:qv} {f:Flow}
theorem Cx.Ok.marked (ok:X.Ok) (e:Value):(X.marked e).Ok :=
 ⟨ok.mod,ok.kind,ok.glob,ok.blt,ok.above,ok.inj,ok.has,ok.cab,(fun z=>by cases z),ok.frames,ok.stk,ok.exf,ok.bs,ok.bsz,ok.noex,ok.exfs,ok.funs,ok.frf⟩
theorem Cx.Ok.tried (ok:X.Ok):(X.tried pins E).Ok :=
 ⟨ok.mod,ok.kind,ok.glob,ok.blt,ok.above,ok.inj,ok.has,ok.cab,ok.hd,ok.frames,ok.stk,ok.exf,ok.bs,ok.bsz,ok.noex,ok.exfs,ok.funs,ok.frf⟩
theorem Inv.marked (I:Inv X pins σ H s) (e:Value):Inv (X.marked e) pins σ H s:=⟨I.ok.marked e,I.os,I.bare,I.base,I.loc,I.cell,I.free,I.freeC,I.pin,I.hok,I.len⟩
theorem Inv.unmarked (ok:X.Ok) (I:Inv (X.marked e) pins σ H s):Inv X pins σ H s:=⟨ok,I.os,I.bare,I.base,I.loc,I.cell,I.free,I.freeC,I.pin,I.hok,I.len⟩
theorem Inv.tried (I:Inv X pins σ H s) (E:Value->Shared->Prop):Inv (X.tried pins E) [] σ H s:=⟨I.ok.tried,I.os,I.bare,I.base,I.loc,I.cell,I.free,I.freeC,fun p hp=>I.pin p (by simpa using hp),I.hok,I.len⟩
theorem Inv.untried {pins':List (Addr×Obj)}(ok:X.Ok) (I:Inv (X.tried pins E) pins' σ H s):Inv X pins σ H s:=⟨ok,I.os,I.bare,I.base,I.loc,I.cell,I.free,I.freeC,fun p hp=>I.pin p (List.mem_append_left _ hp),I.hok,I.len⟩
theorem SP.unmarked (ok:X.Ok) (h:SP (X.marked e) pins D f s):SP X pins D f s:=by
 cases f with
 | next=>obtain⟨σ',H',I,q⟩:=h; exact⟨σ',H',I.unmarked ok,q⟩
 | brk=>obtain⟨σ',H',I,q⟩:=h; exact⟨σ',H',I.unmarked ok,q⟩
 | cont=>obtain⟨σ',H',I,q⟩:=h; exact⟨σ',H',I.unmarked ok,q⟩
 | ret u=>obtain⟨v,σ',H',I,r,q⟩:=h; exact⟨v,σ',H',I.unmarked ok,r,q⟩
theorem SP.untried (ok:X.Ok) (h:SP (X.tried pins E) [] D f s):SP X pins D f s:=by
 cases f with
 | next=>obtain⟨σ',H',I,q⟩:=h; exact⟨σ',H',I.untried ok,q⟩
 | brk=>obtain⟨σ',H',I,q⟩:=h; exact⟨σ',H',I.untried ok,q⟩
 | cont=>obtain⟨σ',H',I,q⟩:=h; exact⟨σ',H',I.untried ok,q⟩
 | ret u=>obtain⟨v,σ',H',I,r,q⟩:=h; exact⟨v,σ',H',I.untried ok,r,q⟩
end
theorem vt {M:Model}{A:Around}{E:Value->Shared->Prop}{h:Heap}{g:Array GenState}{d:Drawn}{t:Nat}{os:OsState}{e:Addr}{oe:Obj}{Q:Bool->Shared->Prop}{b:Bool}{newId newId2:String}
  {nm q:Str} {C N:Addr} {bs bm:List Value} {hdct:Bool} {sn:List Str} {sub:List Value} {ab:Bool} {col:Option Bool} {dd:Option Addr} {k0 k1 k2 k3 k5:Option Value}
  {nm2 q2:Str} {C2 N2:Addr} {bs2 bm2:List Value} {hdct2:Bool} {sn2:List Str} {sub2:List Value} {ab2:Bool} {col2:Option Bool} {dd2:Option Addr} {j0 j1 j2 j3 j5:Option Value}
  (hC:h.get? C=some (excClassObj nm q C N bs bm hdct sn sub ab col dd k0 k1 k2 k3 k5 newId)) (hC2:h.get? C2=some (excClassObj nm2 q2 C2 N2 bs2 bm2 hdct2 sn2 sub2 ab2 col2 dd2 j0 j1 j2 j3 j5 newId2))
  (he:h.get? e=some oe) (hcls:oe.cls=.ref C) (hbase:bm2.contains (.type "BaseException")=true) (hb:(Value.ref C::bm).contains (.ref C2)=b) (hq:Q b ⟨h,g,d,t,os⟩) :
  wpAny M A (excMatches (.ref e) (.ref C2)) Q E ⟨h,g,d,t,os⟩:=by
 have g1:(Value.ref C2::bm2).contains (.type "BaseException")=true:=by rw[List.contains_cons,hbase,Bool.or_true]
 have g2:=tc_notTuple
 unfold excMatches
 cases b with
 | true=>
  repeat (first | (with_reducible refine wpAny_loadPart_at he ?_; rw[hcls]) | with_reducible refine wpAny_loadPart_at hC2 ?_ | (with_reducible refine wpAny_isSubtype_exc hC2 ?_; rw[g1]) | (with_reducible refine wpAny_isSubtype_exc hC ?_; rw[hb]) | wp_step)
  exact hq
 | false=>
  repeat (first | (with_reducible refine wpAny_loadPart_at he ?_; rw[hcls]) | with_reducible refine wpAny_loadPart_at hC2 ?_ | (with_reducible refine wpAny_isSubtype_exc hC2 ?_; rw[g1]) | (with_reducible refine wpAny_isSubtype_exc hC ?_; rw[hb]) | wp_step)
  exact hq
inductive HC where
 | s (z:Str)
 | b (c:Bool)
noncomputable def HC.V:HC->L2.V
 | .s z=>.str z
 | .b c=>.bl c
noncomputable def HC.D:HC->PyData
 | .s z=>.str z
 | .b c=>.bool c
noncomputable def HC.C:HC->Const
 | .s z=>.str z
 | .b c=>.bool c
theorem zeP {X:Cx}{v:HC}{j:Nat}{pos:Pos}:PE X (.Constant v.C j pos) (tC v.V):=by
 cases v with
 | s z=>exact pe_str
 | b c=>exact pe_bl
structure HdK (X:Cx) (hd:ExceptHandler) (C:Addr) (t:Nat) (v:HC):Prop where
 ex:∃ x np y py cj pc pa hp,hd=.ExceptHandler (some (.Name x np)) none [.Assign [.Name y py] (.Constant v.C cj pc) pa] hp/\yA X x C/\X.N[t]?=some y/\Loc X.env.scope y/\(X.fn y=true∨X.env.scope.names.lookup y=some .local)
inductive vY (X:Cx):List ExceptHandler->List (Addr×Nat×HC)->Prop
 | nil:vY X [] []
 | cons {hd:ExceptHandler} {hs:List ExceptHandler} {C:Addr} {t:Nat} {v:HC} {zs:List (Addr×Nat×HC)}:HdK X hd C t v->vY X hs zs->vY X (hd::hs) ((C,t,v)::zs)
noncomputable def JH (K:PySem.W.Frag) (C:Addr):List (Addr×Nat×HC)->Option (Nat×HC)
 | []=>none
 | (C2,t,v)::r=>if (mroIn K C).contains (.ref C2) then some (t,v) else JH K C r
section
variable {X:Cx} {pins:List (Addr×Obj)} {σ:St} {H:Hp} {s:Shared} {E:Value->Shared->Prop} {D:qv} {B:Heap} {ea C:Addr} {a0:Value}
theorem Jt (hN:X.N.Nodup) (hC0:PySem.W.excIn X.K C bmV "ValueError.__new__" =true) (ok:X.Ok):∀ {hs:List ExceptHandler}{zs:List (Addr×Nat×HC)}{t:Nat}{v:HC},vY X hs zs->JH X.K C zs=some (t,v) ->
  Heap.FlyingW B X.stack ea (.ref C) a0 s.heap->Inv X pins σ H s->(∀ h6,B.StaysIn h6->s.heap.UpToSlots h6->Inv X pins σ H { s with heap:=h6 })->D.nx (σ.set t (some v.V)) H ->
  wpAny (model X.prog X.w) X.A (handleBy (.ref ea) X.env hs) (SP X pins D) E s
 | _,_,_,_,.nil,e,_,_,_,_=>by cases e
 | _,_,t,v,.cons (C:=C2) (t:=t2) (v:=v2) (zs:=zs) (hs:=hs) hk ht,e,hfl,I,hcl,hd=>by
  obtain⟨x,np,y,py,cj,pc,pa,hpz,rfl,k,h1,h2,h3⟩:=hk.ex
  obtain⟨ob,hob,hobc⟩:=hfl.there
  have Im:=I.marked (.ref ea)
  refine wpAny_handleBy_cons (codeAny_handlers_test (jo (X:=X.marked (.ref ea)) Im k.gl k.mg ?_ k.d)) (by intro q; cases q)
  obtain⟨bm,N,nm,qn,bs,hdct,sn,sub,ab,col,dd,k0,k1,k2,k3,k5,mN,gC,gN,gi,T,gm⟩:=Wi I.kIn hC0
  obtain⟨bm2,N2,nm2,qn2,bs2,hdct2,sn2,sub2,ab2,col2,dd2,j0,j1,j2,j3,j5,mN2,gC2,gN2,gi2,T2,gm2⟩:=Wi I.kIn k.ex
  unfold JH at e
  rw[gm] at e
  refine vt (h:=s.heap) (g:=s.gens) (d:=s.drawn) (t:=s.toks) (os:=s.os) gC gC2 hob hobc (vf T2) rfl ?_
  cases hb:(Value.ref C::bm).contains (Value.ref C2) with
  | true=>
   rw[hb,if_pos rfl] at e
   cases e
   refine codeAny_handlers_suite (lands_againW hfl fun h6 hfl6 hsm6=>?_)
   have I6:=(hcl h6 hfl6.1 hsm6).marked (.ref ea)
   have w:wpB (X.marked (.ref ea)) [.Assign [.Name y py] (.Constant v.C cj pc) pa] { nx:=D.nx,rt:=D.rt,bk:=D.bk,ct:=D.ct } σ H:=(ZF (Qy (X:=X.marked (.ref ea)) hN h1 h2 zeP (by cases v <;> rfl) h3)).wp hd
   refine wpAny_mono (w pins _ I6) (fun fl s2 q=>?_) fun _ _ z=>z.elim
   exact SP.unmarked ok q
  | false=>
   rw[hb,if_neg (by decide)] at e
   exact Jt hN hC0 ok ht e hfl I hcl hd
end
end L2
namespace L2
open PySem PySem.Spec PyProof.Rows
variable [Cs]
section
variable {X:Cx} {pins:List (Addr×Obj)} {σ:St} {H:Hp} {s s':Shared} {D:qv} {e:Value}
theorem zcO (I:Inv X pins σ H s) (hst:X.stack=X.env::X.outer) (hf:X.env.frame=some X.env.locals) (hN:X.N.Nodup){hs:List ExceptHandler}{zs:List (Addr×Nat×HC)}(hh:vY X hs zs){E:XK}
  (hx:CX1 X.prog X.w X.stack H s E e s') (hE:∀ c H',E c none H'->∃ C t v,c=.ref C/\PySem.W.excIn X.K C bmV "ValueError.__new__" =true/\JH X.K C zs=some (t,v)/\D.nx (σ.set t (some v.V)) H') {E':Value->Shared->Prop} :
  wpAny (model X.prog X.w) X.A (noteFrame e X.env) (fun _ s₂=>wpAny (model X.prog X.w) X.A (setFlight e none) (fun _ s₃=>wpAny (model X.prog X.w) X.A (handleBy e X.env hs) (SP X pins D) E' s₃) E' s₂) E' s':=by
 obtain⟨ea,c,a0,B,h0,H',rfl,os,bare,hfl,up,hk,q⟩:=hx
 obtain⟨C,t,v,rfl,hC0,hp,hd⟩:=hE c H' q
 have hfr:X.A.frames=some (X.env::X.outer):=by rw[<- hst]; exact I.ok.frames
 have inv:∀ h6,B.StaysIn h6->h0.UpToSlots h6->Inv X pins σ H' { s' with heap:=h6 }:=fun h6 k1 k2=>by
  obtain⟨un,hok⟩:=hk h6 k1 k2
  exact I.call' (s':={ s' with heap:=h6 }) os un hok bare fun b z=>nomatch z
 rw[hst] at hfl
 refine wpAny_looks_onW hfr hf hfl fun h4 hheld4 up4=>wpAny_landsW hheld4 fun h5 hfl5 up5=>?_
 have up5':=(up.trans up4).trans up5
 rw[<- hst] at hfl5
 exact Jt hN hC0 I.ok hh hp hfl5 (inv h5 hfl5.1 up5') (fun h6 k1 k2=>inv h6 k1 (up5'.trans k2)) hd
noncomputable def KU (X:Cx) (pins:List (Addr×Obj)) (D:qv) (hs:List ExceptHandler):Value->Shared->Prop:=fun e s₁=>
 wpAny (model X.prog X.w) X.A (noteFrame e X.env) (fun _ s₂=>wpAny (model X.prog X.w) X.A (setFlight e none) (fun _ s₃=>wpAny (model X.prog X.w) X.A (handleBy e X.env hs) (SP X pins D) X.xe s₃) X.xe s₂) X.xe s₁
theorem zeh {body:List Stmt} {h₀:ExceptHandler}{hs:List ExceptHandler}{pos:Pos}(h:∀ pins,wpB (X.tried pins (KU X pins D (h₀::hs))) body D σ H):wpS X (.Try body (h₀::hs) [] [] pos) D σ H:=fun pins s I=>by
 refine wpAny_Try_except (wpAny_mono (h pins [] s (I.tried _)) (fun f s1 q=>?_) fun e s1 q=>q)
 have q':=SP.untried I.ok q
 cases f with
 | next=>
  obtain⟨σ',H',I',d⟩:=q'
  have w:wpB X [] D σ' H':=pss_nil.wp d
  exact w pins s1 I'
 | brk=>exact q'
 | cont=>exact q'
 | ret u=>exact q'
theorem zag {CX:CXT}{E:XK}{sp:Sp}{Q:VK}{x:Str}{k:Nat}{e:Expr}{es:List Expr}{p pos:Pos}(kn:Kn X.prog X.w X.K X.mg X.base CX x k sp) (hr:Room k X.A) (hg:Gl X x)
  (hx:∀ pins H s e s',Inv X pins σ H s->CX X.stack H s E e s'->X.xe e s') (h:wpA X (e::es) σ H fun vs H1=>sp vs H1 Q E) (hdb:(x==("__debug__" :Str))=false)
  (he:starEach (e::es) X.env=(false,eval e X.env)::starEach es X.env) (hpl:(backTo pos (starEach es X.env)).any (·.1)=false):wpE X (.Call (.Name x p) (e::es) [] pos) σ H Q:=fun pins s I=>by
 obtain⟨f,fd,ps,F,hm,hk,hb⟩:=kn.ex
 refine wpAny_Call_Name_kw (jo I hg hm ?_ hdb)
 refine PySem.W.callWith_K (h₀:=X.base) I.ok.mod.kin hk (thn (h pos pins s I) fun us s1 ⟨vs,H1,I1,r,q⟩=>⟨I1.kIn,?_⟩) he hpl
 have hl:us.length=ps.length:=by rw[<- r.length]; exact F.len _ _ _ _ q
 have hb':=hb s1 us I1.kIn (by simpa using hl)
 rw[List.append_nil] at hb'
 refine wpAny_call (codeAny_mono (F.run X.A X.stack s1 H1 ⟨us,[]⟩ us vs Q E hr I1.env0 hb' r q) fun r s' hq=>?_)
 cases r with
 | error e=>exact hx pins H1 s1 e s' I1 hq
 | ok fl=>
  cases fl with
  | ret u=>exact I1.after hq
  | next=>exact False.elim hq
  | brk=>exact False.elim hq
  | cont=>exact False.elim hq
theorem YB {CX:CXT}{E:XK}{sp:Sp}{Q:VK}{x:Str}{k:Nat}{p pos:Pos}(kn:Kn X.prog X.w X.K X.mg X.base CX x k sp) (hr:Room k X.A) (hg:Gl X x)
  (hx:∀ pins H s e s',Inv X pins σ H s->CX X.stack H s E e s'->X.xe e s') (h:sp [] H Q E) (hdb:(x==("__debug__" :Str))=false):wpE X (.Call (.Name x p) [] [] pos) σ H Q:=fun pins s I=>by
 obtain⟨f,fd,ps,F,hm,hk,hb⟩:=kn.ex
 refine wpAny_Call_Name_kw (jo I hg hm ?_ hdb)
 refine PySem.W.callWith_K0 I.kIn hk ?_
 have hl:([]:List Value).length=ps.length:=F.len _ _ _ _ h
 have hb':=hb s [] I.kIn (by simpa using hl)
 rw[List.append_nil] at hb'
 refine wpAny_call (codeAny_mono (F.run X.A X.stack s H ⟨[],[]⟩ [] [] Q E hr I.env0 hb' .nil h) fun r s' hq=>?_)
 cases r with
 | error e=>exact hx pins H s e s' I hq
 | ok fl=>
  cases fl with
  | ret u=>exact I.after hq
  | next=>exact False.elim hq
  | brk=>exact False.elim hq
  | cont=>exact False.elim hq
end
section
variable {P:Program} {w:World} {K:PySem.W.Frag} {mg:Str->Option Value} {base:Heap} {x:Str} {st:Stmt} {N ps:List Str} {k:Nat}
end
end L2
namespace L2
open PySem PySem.Spec PyProof.Rows
variable [Cs]
section
variable {prog:Program} {w:World} {A:Around} {E:Value->Shared->Prop} {s:Shared}
end
section
variable {M:Model} {A:Around} {E:Value->Shared->Prop} {s:Shared}
end
section
variable {X:Cx}
noncomputable def zez (K:PySem.W.Frag) (n:Nat) (t:TGs):TG:=fun v σ H Q=>∃ a xs,v=.ref a/\SqL K H a xs/\xs.length=n/\t xs σ H Q
theorem za8 {es:List Expr}{k:Nat}{t:TGs}{n:Nat}{pos:Pos}(hc:X.calm=true) (h:PGs X es t) (hn:(assignEach es X.env).length=n) (hst:(assignEach es X.env).findIdx? (·.1)=none):PG X (.Tuple es k pos) (zez X.K n t):=by
 intro pins s σ H v u Q I r hw
 obtain⟨a,xs,e1,hq,hl,hw⟩:=hw
 subst e1
 cases r
 obtain⟨its,rv,pl,hz⟩:=I.list hq
 rw[assign_Tuple]
 refine wpAny_bind (wpAny_standAt ?_)
 unfold unpack
 have hsz:(assignEach es X.env).length=its.toArray.size:=by rw[hn,<- hl,rv.length,List.size_toArray]
 rw[hst,hsz]
 refine wpAny_bind (wpAny_holding (PySem.W.kun_itemsOf (I.ok.hd hc) pl.isList fun h' hx=>?_))
 have I1:Inv X pins σ H { s with heap:=h' }:=I.kept (t':=s.toks) fun b o e=>hx b o (Nat.ne_of_lt (Heap.lt_size e)) e
 exact h pins _ σ H xs _ Q I1 (by simpa using rv) hw
end
end L2
namespace L3
open PySem PySem.Spec PyProof.Rows L2
inductive OV where
 | d (x:PyData)
 | l (xs:List OV)
 | t (xs:List OV)
 | m (kvs:List (Str×PyData))
 | o (c:Str) (ns:List Str) (xs:List OV)
noncomputable abbrev Gv:=List (Option OV)
mutual
noncomputable def OV.view:OV->PyData
 | .d x=>x
 | .l xs=>.list (OV.views xs)
 | .t xs=>.tuple (OV.views xs)
 | .m kvs=>.dict (kvs.map dK)
 | .o c ns xs=>.dict ((.none,.str c)::(ns.zip (OV.views xs)).map dK)
noncomputable def OV.views:List OV->List PyData
 | []=> []
 | x::xs=>x.view::OV.views xs
end
theorem OV.views_d (xs:List PyData):OV.views (xs.map .d)=xs:=by
 induction xs with
 | nil=>rfl
 | cons x xs ih=>simp[OV.views,OV.view,ih]
theorem OV.views_map (xs:List OV):OV.views xs=xs.map OV.view:=by
 induction xs with
 | nil=>rfl
 | cons x xs ih=>simp[OV.views,ih]
variable [Cs]
mutual
/-- v stands for the value; its own lists lie at A -/
inductive OR (M:Addr->Prop) (H:Hp):V->OV->List Addr->Prop
 | d {v:V} {x:PyData}:Rep M H v x->OR M H v (.d x) []
 | l {a:Addr} {vs:List V} {xs:List OV} {A:List Addr}:H a=some (.lst vs)->ORL M H vs xs A->OR M H (.ref a) (.l xs) (a::A)
 | t {a:Addr} {vs:List V} {xs:List OV} {A:List Addr}:H a=some (.tup vs)->ORL M H vs xs A->OR M H (.ref a) (.t xs) A
 | m {a:Addr} {kvs:List (Str×V)} {ds:List (Str×PyData)}:H a=some (.dK (kvs.map kK))->kvs.map (·.1)=ds.map (·.1)->RepL M H (kvs.map (·.2)) (ds.map (·.2))->OR M H (.ref a) (.m ds) [a]
 | o {a dx:Addr} {c:Str} {fs:List (Str×V)} {ns:List Str} {xs:List OV} {A:List Addr}:H a=some (.ins (Cs.adr c) dx fs)->fs.map (·.1)=ns->ORL M H (fs.map (·.2)) xs A->OR M H (.ref a) (.o c ns xs) (a::A)
inductive ORL (M:Addr->Prop) (H:Hp):List V->List OV->List Addr->Prop
 | nil:ORL M H [] [] []
 | cons {v:V} {vs:List V} {x:OV} {xs:List OV} {A B:List Addr}:OR M H v x A->ORL M H vs xs B->ORL M H (v::vs) (x::xs) (A++B)
end
noncomputable abbrev zA:Addr->Prop:=fun _=>False
theorem ZH {M M':Addr->Prop}{H H':Hp}(hr:∀ v d,Rep M H v d->Rep M' H' v d):∀ {vs:List V}{ds:List PyData},RepL M H vs ds->RepL M' H' vs ds
 | _,_,.nil=>.nil
 | _,_,.cons r t=>.cons (hr _ _ r) (ZH hr t)
theorem OV.views_len (xs:List OV):(OV.views xs).length=xs.length:=by rw[OV.views_map,List.length_map]
theorem ORL.length {M:Addr->Prop}{H:Hp}:∀ {vs:List V}{os:List OV}{A:List Addr},ORL M H vs os A->vs.length=os.length
 | _,_,_,.nil=>rfl
 | _,_,_,.cons _ t=>by rw[List.length_cons,List.length_cons,ORL.length t]
theorem zb3 {α β:Type}:∀ {ns:List α}{xs:List β},ns.length=xs.length->(ns.zip xs).map (·.1)=ns:=fun {ns xs} h=>by rw[List.map_fst_zip (Nat.le_of_eq h)]
theorem zb4 {α β:Type}:∀ {ns:List α}{xs:List β},ns.length=xs.length->(ns.zip xs).map (·.2)=xs:=fun {ns xs} h=>by rw[List.map_snd_zip (Nat.le_of_eq h.symm)]
mutual
theorem OR.go {M M':Addr->Prop}{H H':Hp}(hr:∀ v d,Rep M H v d->Rep M' H' v d) (ht:∀ b xs,H b=some (.tup xs)->H' b=some (.tup xs)):∀ {v:V}{o:OV}{A:List Addr},(∀ a∈A,H' a=H a)->OR M H v o A->OR M' H' v o A
 | _,_,_,_,.d r=>.d (hr _ _ r)
 | _,_,_,h,.l e r=>.l (by rw[h _ List.mem_cons_self]; exact e) (ORL.go hr ht (fun a ha=>h a (List.mem_cons_of_mem _ ha)) r)
 | _,_,_,h,.t e r=>.t (ht _ _ e) (ORL.go hr ht h r)
 | _,_,_,h,.m e k r=>.m (by rw[h _ List.mem_cons_self]; exact e) k (ZH hr r)
 | _,_,_,h,.o e k r=>.o (by rw[h _ List.mem_cons_self]; exact e) k (ORL.go hr ht (fun a ha=>h a (List.mem_cons_of_mem _ ha)) r)
theorem ORL.go {M M':Addr->Prop}{H H':Hp}(hr:∀ v d,Rep M H v d->Rep M' H' v d) (ht:∀ b xs,H b=some (.tup xs)->H' b=some (.tup xs)):∀ {v:List V}{o:List OV}{A:List Addr},(∀ a∈A,H' a=H a)->ORL M H v o A->ORL M' H' v o A
 | _,_,_,_,.nil=>.nil
 | _,_,_,h,.cons r t=>   .cons (OR.go hr ht (fun a ha=>h a (List.mem_append_left _ ha)) r) (ORL.go hr ht (fun a ha=>h a (List.mem_append_right _ ha)) t)
end
mutual
/-- given up: it is data from now on -/
theorem OR.rep {M M':Addr->Prop}{H:Hp}(hm:∀ b,M' b->M b):∀ {v:V}{o:OV}{A:List Addr},(∀ a∈A,¬ M' a)->OR M H v o A->Rep M' H v o.view
 | _,_,_,_,.d r=>r.less fun b hb _=>hm b hb
 | _,_,_,h,.l e r=>.list e (h _ List.mem_cons_self) (ORL.rep hm (fun a ha=>h a (List.mem_cons_of_mem _ ha)) r)
 | _,_,_,h,.t e r=>.tuple e (ORL.rep hm h r)
 | _,_,_,h,.m e k r=>.dict (.inl e) (h _ List.mem_cons_self) k (ZH (fun _ _ x=>x.less fun b hb _=>hm b hb) r)
 | _,_,_,h,.o (fs:=fs) (ns:=ns) (xs:=xs) e k r=>by
  have hl:ns.length=(OV.views xs).length:=by rw[OV.views_len,<- r.length,<- k,List.length_map,List.length_map]
  refine .inst e (h _ List.mem_cons_self) (by rw[zb3 hl]; exact k) ?_
  rw[zb4 hl]
  exact ORL.rep hm (fun a ha=>h a (List.mem_cons_of_mem _ ha)) r
theorem ORL.rep {M M':Addr->Prop}{H:Hp}(hm:∀ b,M' b->M b):∀ {v:List V}{o:List OV}{A:List Addr},(∀ a∈A,¬ M' a)->ORL M H v o A->RepL M' H v (OV.views o)
 | _,_,_,_,.nil=>.nil
 | _,_,_,h,.cons r t=>.cons (OR.rep hm (fun a ha=>h a (List.mem_append_left _ ha)) r) (ORL.rep hm (fun a ha=>h a (List.mem_append_right _ ha)) t)
end
theorem OR.weak {M:Addr->Prop}{H:Hp}{v:V}{o:OV}{A:List Addr}(r:OR M H v o A):Rep zA H v o.view:=r.rep (fun _ h=>h.elim) fun _ _ h=>h
mutual
theorem OR.laid {M:Addr->Prop}{H:Hp}:∀ {v:V}{o:OV}{A:List Addr},OR M H v o A->∀ a∈A,∃ vs,H a=some vs
 | _,_,_,.d _,a,h=>by cases h
 | _,_,_,.l e r,a,h=>by
  rcases List.mem_cons.mp h with rfl | h
  ·exact⟨_,e⟩
  ·exact ORL.laid r a h
 | _,_,_,.t e r,a,h=>ORL.laid r a h
 | _,_,_,.m e k r,a,h=>by
  rcases List.mem_cons.mp h with rfl | h
  ·exact⟨_,e⟩
  ·cases h
 | _,_,_,.o e k r,a,h=>by
  rcases List.mem_cons.mp h with rfl | h
  ·exact⟨_,e⟩
  ·exact ORL.laid r a h
theorem ORL.laid {M:Addr->Prop}{H:Hp}:∀ {v:List V}{o:List OV}{A:List Addr},ORL M H v o A->∀ a∈A,∃ vs,H a=some vs
 | _,_,_,.nil,a,h=>by cases h
 | _,_,_,.cons r t,a,h=>by
  rcases List.mem_append.mp h with h | h
  ·exact OR.laid r a h
  ·exact ORL.laid t a h
end
theorem ORL.data {M:Addr->Prop}{H:Hp}:∀ {vs:List V}{ds:List PyData},RepL M H vs ds->ORL M H vs (ds.map .d) []
 | _,_,.nil=>.nil
 | _,_,.cons r t=>.cons (A:= []) (.d r) (ORL.data t)
noncomputable abbrev Fp:=Nat->List Addr
noncomputable def zC (F:Fp) (i:Nat) (A:List Addr):Fp:=fun j=>if j=i then A else F j
theorem zd {F:Fp}{i:Nat}{A:List Addr}:zC F i A i=A:=by unfold zC; rw[if_pos rfl]
theorem zh {F:Fp}{i j:Nat}{A:List Addr}(h:j≠i):zC F i A j=F j:=by unfold zC; rw[if_neg h]
noncomputable def MM (M0:Addr->Prop) (F:Fp):Addr->Prop:=fun a=>M0 a∨∃ i,a∈F i
noncomputable abbrev Nu:=List (Option V)
structure RS (M0:Addr->Prop) (F:Fp) (Γ:Gv) (ν:Nu) (H:Hp):Prop where
 al0:∀ a,M0 a->H a≠none
 dis0:∀ i a,a∈F i->¬ M0 a
 nd:∀ i,(F i).Nodup
 dis:∀ i j a,a∈F i->a∈F j->i=j
 at':∀ i o,Γ[i]?=some (some o)->∃ v,ν[i]?=some (some v)/\OR (MM M0 F) H v o (F i)
 emp:∀ i,(∀ o,Γ[i]?≠some (some o))->F i= []
 len:ν.length=Γ.length
structure Stp (F:Fp) (H:Hp) (F':Fp) (H':Hp):Prop where
 keep:∀ b o,H b=some o->(∀ i,b∉F i)->H' b=some o/\∀ i,b∉F' i
 tups:∀ b xs,H b=some (.tup xs)->H' b=some (.tup xs)
 stay:∀ b,H b≠none->H' b≠none
theorem Stp.refl (F:Fp) (H:Hp):Stp F H F H:=⟨fun _ _ e n=>⟨e,n⟩,fun _ _ e=>e,fun _ h=>h⟩
theorem Stp.trans {F F1 F2:Fp}{H H1 H2:Hp}(a:Stp F H F1 H1) (b:Stp F1 H1 F2 H2):Stp F H F2 H2 :=
 ⟨fun c o e n=>let ⟨e1,n1⟩:=a.keep c o e n; b.keep c o e1 n1,fun c xs e=>b.tups c xs (a.tups c xs e),fun c h=>b.stay c (a.stay c h)⟩
theorem Stp.same {F:Fp}{H H':Hp}(s:Same H H'):Stp F H F H':=⟨fun b o e n=>⟨s b o e,n⟩,fun b xs e=>s b _ e,fun b h=>by
 cases q:H b with
 | none=>exact absurd q h
 | some o=>rw[s b o q]; exact fun z=>nomatch z⟩
theorem Stp.free {F F':Fp}{H H':Hp}(s:Stp F H F' H'){a:Addr}(n:H' a=none):H a=none:=by
 cases q:H a with
 | none=>rfl
 | some o=>exact absurd n (s.stay a (by rw[q]; exact fun z=>nomatch z))
section
variable {M0:Addr->Prop} {F F':Fp} {Γ Γ':Gv} {ν ν':Nu} {H H':Hp}
theorem RS.laidF (r:RS M0 F Γ ν H){i:Nat}{a:Addr}(h:a∈F i):∃ vs,H a=some vs:=by
 by_cases q:∃ o,Γ[i]?=some (some o)
 ·obtain⟨o,q⟩:=q
  obtain⟨v,_,z⟩:=r.at' i o q
  exact z.laid a h
 ·rw[r.emp i fun o e=>q ⟨o,e⟩] at h; cases h
theorem RS.al (r:RS M0 F Γ ν H):Al (MM M0 F) H:=fun a h=>by
 rcases h with h | ⟨i,h⟩
 ·exact r.al0 a h
 ·obtain⟨vs,e⟩:=r.laidF h
  rw[e]; exact fun z=>nomatch z
mutual
/-- data goes through a step -/
theorem zm (s:Stp F H F' H') (h0:∀ a,M0 a->H a≠none):∀ {v:V}{d:PyData},Rep (MM M0 F) H v d->Rep (MM M0 F') H' v d
 | _,_,.none=>.none
 | _,_,.bool b=>.bool b
 | _,_,.int i=>.int i
 | _,_,.str x=>.str x
 | _,_,.list (a:=a) e n q=>by
  have hn:∀ i,a∉F i:=fun i h=>n (.inr ⟨i,h⟩)
  obtain⟨e',n'⟩:=s.keep a _ e hn
  refine .list e' ?_ (zL s h0 q)
  rintro (h | ⟨i,h⟩)
  ·exact n (.inl h)
  ·exact n' i h
 | _,_,.tuple e q=>.tuple (s.tups _ _ e) (zL s h0 q)
 | _,_,.dict (a:=a) e n k q=>by
  have hn:∀ i,a∉F i:=fun i h=>n (.inr ⟨i,h⟩)
  have:∃ o,H a=some o:=by rcases e with e | ⟨o,e⟩ <;> exact⟨_,e⟩
  obtain⟨o,eo⟩:=this
  obtain⟨_,n'⟩:=s.keep a _ eo hn
  refine .dict (e.imp (fun z=>(s.keep a _ z hn).1) fun ⟨o,z⟩=>⟨o,(s.keep a _ z hn).1⟩) ?_ k (zL s h0 q)
  rintro (h | ⟨i,h⟩)
  ·exact n (.inl h)
  ·exact n' i h
 | _,_,.inst (a:=a) e n k q=>by
  obtain⟨e',n'⟩:=s.keep a _ e fun i h=>n (.inr ⟨i,h⟩)
  refine .inst e' ?_ k (zL s h0 q)
  rintro (h | ⟨i,h⟩)
  ·exact n (.inl h)
  ·exact n' i h
theorem zL (s:Stp F H F' H') (h0:∀ a,M0 a->H a≠none):∀ {vs:List V}{ds:List PyData},RepL (MM M0 F) H vs ds->RepL (MM M0 F') H' vs ds
 | _,_,.nil=>.nil
 | _,_,.cons r t=>.cons (zm s h0 r) (zL s h0 t)
end
theorem RS.same (r:RS M0 F Γ ν H) (s:Same H H'):RS M0 F Γ ν H' where
 al0 a h:=by
  have:=r.al0 a h
  cases q:H a with
  | none=>exact absurd q this
  | some o=>rw[s a o q]; exact fun z=>nomatch z
 dis0:=r.dis0
 nd:=r.nd
 dis:=r.dis
 at' i o e:=by
  obtain⟨v,e1,q⟩:=r.at' i o e
  exact⟨v,e1,q.go (fun v d x=>x.grow s.grow) (fun b xs e=>s b _ e) fun a ha=>by
   obtain⟨vs,z⟩:=q.laid a ha
   rw[z,s a _ z]⟩
 emp:=r.emp
 len:=r.len
theorem RS.put {i:Nat}{o:OV}{v:V}{A:List Addr}(r:RS M0 F Γ ν H) (s:Stp F H (zC F i A) H') (hF:∀ j,j≠i->∀ a∈F j,H' a=H a)
  (hm:∀ a,M0 a->H' a≠none) (hA0:∀ a∈A,¬ M0 a) (hAn:A.Nodup) (hAd:∀ j,j≠i->∀ a∈A,a∉F j) (hi:i<Γ.length)
  (q:OR (MM M0 (zC F i A)) H' v o A):RS M0 (zC F i A) (Γ.set i (some o)) (ν.set i (some v)) H' where
 al0:=hm
 dis0 j a h:=by
  by_cases hj:j=i
  ·subst hj; rw[zd] at h; exact hA0 a h
  ·rw[zh hj] at h; exact r.dis0 j a h
 nd j:=by
  by_cases hj:j=i
  ·subst hj; rw[zd]; exact hAn
  ·rw[zh hj]; exact r.nd j
 dis j k a h1 h2:=by
  by_cases hj:j=i
  ·by_cases hk:k=i
   ·rw[hj,hk]
   ·subst hj; rw[zd] at h1; rw[zh hk] at h2; exact absurd h2 (hAd k hk a h1)
  ·by_cases hk:k=i
   ·subst hk; rw[zd] at h2; rw[zh hj] at h1; exact absurd h1 (hAd j hj a h2)
   ·rw[zh hj] at h1; rw[zh hk] at h2; exact r.dis j k a h1 h2
 at' j p e:=by
  by_cases hj:j=i
  ·subst hj
   rw[List.getElem?_set_self hi] at e
   cases e
   refine⟨v,by rw[List.getElem?_set_self (by rw[r.len]; exact hi)],?_⟩
   rw[zd]; exact q
  ·rw[List.getElem?_set_ne (Ne.symm hj)] at e |-
   obtain⟨u,e1,z⟩:=r.at' j p e
   refine⟨u,e1,?_⟩
   rw[zh hj]
   exact z.go (fun v d x=>zm s r.al0 x) s.tups (hF j hj)
 emp j h:=by
  by_cases hj:j=i
  ·subst hj
   rw[List.getElem?_set_self hi] at h
   exact absurd rfl (h o)
  ·rw[zh hj]
   refine r.emp j fun p e=>h p ?_
   rw[List.getElem?_set_ne (Ne.symm hj)]; exact e
 len:=by rw[List.length_set,List.length_set]; exact r.len
theorem RS.setD {i:Nat}{d:PyData}{v:V}(r:RS M0 F Γ ν H) (q:Rep (MM M0 F) H v d) (hi:i<Γ.length):∃ F',RS M0 F' (Γ.set i (some (.d d))) (ν.set i (some v)) H/\Stp F H F' H:=by
 have s:Stp F H (zC F i []) H:=⟨fun b o e n=>⟨e,fun j=>by
  by_cases hj:j=i
  ·subst hj; rw[zd]; exact fun z=>nomatch z
  ·rw[zh hj]; exact n j⟩,fun _ _ e=>e,fun _ h=>h⟩
 exact⟨_,r.put s (fun _ _ _ _=>rfl) r.al0 (fun _ h=>nomatch h) .nil (fun _ _ _ h=>nomatch h) hi (.d (zm s r.al0 q)),s⟩
noncomputable def Qs (F:Fp) (n:Nat):Fp:=fun j=>if j<n then F j else []
theorem Wm {n j:Nat}(h:j<n):Qs F n j=F j:=by unfold Qs; rw[if_pos h]
theorem V7 {n j:Nat}(h:¬ j<n):Qs F n j= []:=by unfold Qs; rw[if_neg h]
theorem qD {n j:Nat}{a:Addr}(h:a∈Qs F n j):j<n/\a∈F j:=by
 unfold Qs at h
 split at h
 ·exact⟨by assumption,h⟩
 ·cases h
theorem jX (h:∀ j a,a∈F' j->∃ k,a∈F k):Stp F H F' H:=⟨fun b o e n=>⟨e,fun j hj=>let ⟨k,hk⟩:=h j b hj; n k hk⟩,fun _ _ e=>e,fun _ h=>h⟩
theorem RS.cut (r:RS M0 F Γ ν H) (n:Nat):RS M0 (Qs F n) (Γ.take n) (ν.take n) H/\Stp F H (Qs F n) H:=by
 have s:Stp F H (Qs F n) H:=jX fun j a h=>⟨j,(qD h).2⟩
 refine⟨⟨r.al0,fun j a h=>r.dis0 j a (qD h).2,fun j=>?_,fun j k a h1 h2=>r.dis j k a (qD h1).2 (qD h2).2,fun j o e=>?_,fun j h=>?_,?_⟩,s⟩
 ·by_cases hj:j<n
  ·rw[Wm hj]; exact r.nd j
  ·rw[V7 hj]; exact .nil
 ·have hj:j<n:=by
   by_cases hj:j<n
   ·exact hj
   ·rw[List.getElem?_eq_none (by rw[List.length_take]; omega)] at e; cases e
  rw[List.getElem?_take_of_lt hj] at e |-
  obtain⟨v,e1,q⟩:=r.at' j o e
  exact⟨v,e1,by rw[Wm hj]; exact q.go (fun _ _ x=>zm s r.al0 x) s.tups fun _ _=>rfl⟩
 ·by_cases hj:j<n
  ·rw[Wm hj]
   refine r.emp j fun o e=>h o ?_
   rw[List.getElem?_take_of_lt hj]; exact e
  ·exact V7 hj
 ·rw[List.length_take,List.length_take,r.len]
theorem RS.ext (r:RS M0 F Γ ν H) (k:Nat):RS M0 F (Γ++List.replicate k none) (ν++List.replicate k none) H:=by
 have get:∀ {α:Type} (l:List (Option α)) (j:Nat) (o:α),(l++List.replicate k none)[j]?=some (some o)->l[j]?=some (some o):=fun {α} l j o e=>by
  by_cases hj:j<l.length
  ·rw[List.getElem?_append_left hj] at e; exact e
  ·rw[List.getElem?_append_right (by omega),List.getElem?_replicate] at e
   split at e <;> cases e
 have put:∀ {α:Type} (l:List (Option α)) (j:Nat) (o:α),l[j]?=some (some o)->(l++List.replicate k none)[j]?=some (some o):=fun {α} l j o e=>by
  rw[List.getElem?_append_left (List.getElem?_eq_some_iff.mp e).1]; exact e
 exact⟨r.al0,r.dis0,r.nd,r.dis,fun j o e=>let ⟨v,e1,q⟩:=r.at' j o (get _ _ _ e); ⟨v,put _ _ _ e1,q⟩,fun j h=>r.emp j fun o e=>h o (put _ _ _ e),by simp[r.len]⟩
theorem ZI {α:Type}(l:List (Option α)) (x:α):(l++List.replicate 1 none).set l.length (some x)=l++ [some x]:=by
 rw[List.set_append_right _ _ (Nat.le_refl _)]; simp
theorem RS.newO {p:Addr}{vs:List V}{ds:List PyData}(r:RS M0 F Γ ν H) (n:H p=none) (q:RepL (MM M0 F) H vs ds) :
  RS M0 (zC F Γ.length [p]) (Γ++ [some (.l (ds.map .d))]) (ν++ [some (.ref p)]) (upd H p (.lst vs))/\Stp F H (zC F Γ.length [p]) (upd H p (.lst vs)):=by
 have hp:∀ i,p∉F i:=fun i h=>by
  obtain⟨vs,e⟩:=r.laidF h
  rw[n] at e; cases e
 have he:F Γ.length= []:=r.emp _ fun o e=>by
  rw[List.getElem?_eq_none (Nat.le_refl _)] at e; cases e
 have s:Stp F H (zC F Γ.length [p]) (upd H p (.lst vs)):=⟨fun b o e nb=>⟨zw n b o e,fun j h=>by
  by_cases hj:j=Γ.length
  ·subst hj; rw[zd] at h
   have e':b=p:=by simpa using h
   subst e'; rw[n] at e; cases e
  ·rw[zh hj] at h; exact nb j h⟩,fun b xs e=>zw n b _ e,fun b h=>by
   by_cases e:b=p
   ·subst e; exact absurd n h
   ·rw[ze e]; exact h⟩
 have r1:=(r.ext 1).put (i:=Γ.length) (o:=.l (ds.map .d)) (v:=.ref p) (A:= [p]) (H':=upd H p (.lst vs)) s (fun j _ a ha=>ze (fun e=>hp j (by rw[<- e]; exact ha)))
  (fun a h=>s.stay a (r.al0 a h)) (fun a ha h=>by
   have e:a=p:=by simpa using ha
   subst e; exact r.al0 a h n) (List.nodup_cons.mpr ⟨(fun z=>nomatch z),.nil⟩) (fun j _ a ha=>by
   have e:a=p:=by simpa using ha
   subst e; exact hp j) (by simp) (.l zj (ORL.data (zL s r.al0 q)))
 rw[ZI] at r1
 have e2:(ν++List.replicate 1 none).set Γ.length (some (V.ref p))=ν++ [some (V.ref p)]:=by rw[<- r.len,ZI]
 rw[e2] at r1
 exact⟨r1,s⟩
theorem RS.move {i:Nat}{o:OV}{v:V}(r:RS M0 F (Γ++ [some o]) (ν++ [some v]) H) (hi:i<Γ.length):∃ F',RS M0 F' (Γ.set i (some o)) (ν.set i (some v)) H/\Stp F H F' H:=by
 have hl:ν.length=Γ.length:=by have:=r.len; simp at this; exact this
 have hni:Γ.length≠i:=Nat.ne_of_gt hi
 let F':Fp:=fun j=>if j=i then F Γ.length else if j<Γ.length then F j else []
 have hFi:F' i=F Γ.length:=by show (if i=i then _ else _)=_; rw[if_pos rfl]
 have hFj:∀ j,j≠i->j<Γ.length->F' j=F j:=fun j h1 h2=>by show (if j=i then _ else _)=_; rw[if_neg h1,if_pos h2]
 have hFo:∀ j,j≠i->¬ j<Γ.length->F' j= []:=fun j h1 h2=>by show (if j=i then _ else _)=_; rw[if_neg h1,if_neg h2]
 have sub:∀ j a,a∈F' j->(j=i/\a∈F Γ.length)∨(j≠i/\j<Γ.length/\a∈F j):=fun j a h=>by
  by_cases h1:j=i
  ·subst h1; rw[hFi] at h; exact .inl ⟨rfl,h⟩
  ·by_cases h2:j<Γ.length
   ·rw[hFj j h1 h2] at h; exact .inr ⟨h1,h2,h⟩
   ·rw[hFo j h1 h2] at h; cases h
 have s:Stp F H F' H:=jX fun j a h=>by
  rcases sub j a h with ⟨_,h⟩ | ⟨_,_,h⟩
  ·exact⟨_,h⟩
  ·exact⟨_,h⟩
 refine⟨F',⟨r.al0,fun j a h=>?_,fun j=>?_,fun j k a h1 h2=>?_,fun j p e=>?_,fun j h=>?_,by simp[hl]⟩,s⟩
 ·rcases sub j a h with ⟨_,h⟩ | ⟨_,_,h⟩
  ·exact r.dis0 _ a h
  ·exact r.dis0 _ a h
 ·by_cases h1:j=i
  ·subst h1; rw[hFi]; exact r.nd _
  ·by_cases h2:j<Γ.length
   ·rw[hFj j h1 h2]; exact r.nd _
   ·rw[hFo j h1 h2]; exact .nil
 ·rcases sub j a h1 with ⟨e1,z1⟩ | ⟨n1,l1,z1⟩
  ·rcases sub k a h2 with ⟨e2,z2⟩ | ⟨n2,l2,z2⟩
   ·rw[e1,e2]
   ·have:=r.dis _ _ a z1 z2; omega
  ·rcases sub k a h2 with ⟨e2,z2⟩ | ⟨n2,l2,z2⟩
   ·have:=r.dis _ _ a z1 z2; omega
   ·exact r.dis _ _ a z1 z2
 ·by_cases hj:j=i
  ·subst hj
   rw[List.getElem?_set_self hi] at e
   cases e
   obtain⟨u,e1,q⟩:=r.at' Γ.length o (by rw[List.getElem?_append_right (Nat.le_refl _)]; simp)
   rw[List.getElem?_append_right (by omega),hl] at e1
   simp at e1
   subst e1
   refine⟨v,by rw[List.getElem?_set_self (by omega)],?_⟩
   rw[hFi]; exact q.go (fun _ _ x=>zm s r.al0 x) s.tups fun _ _=>rfl
  ·rw[List.getElem?_set_ne (Ne.symm hj)] at e |-
   have hjl:j<Γ.length:=(List.getElem?_eq_some_iff.mp e).1
   obtain⟨u,e1,q⟩:=r.at' j p (by rw[List.getElem?_append_left hjl]; exact e)
   rw[List.getElem?_append_left (by omega)] at e1
   exact⟨u,e1,by rw[hFj j hj hjl]; exact q.go (fun _ _ x=>zm s r.al0 x) s.tups fun _ _=>rfl⟩
 ·by_cases hj:j=i
  ·subst hj; rw[List.getElem?_set_self hi] at h; exact absurd rfl (h o)
  ·by_cases h2:j<Γ.length
   ·rw[hFj j hj h2]
    refine r.emp j fun p e=>h p ?_
    rw[List.getElem?_append_left h2] at e
    rw[List.getElem?_set_ne (Ne.symm hj)]; exact e
   ·exact hFo j hj h2
theorem RS.dropD {o:OV}{v:V}(r:RS M0 F (Γ++ [some o]) (ν++ [some v]) H):∃ F',RS M0 F' Γ ν H/\Stp F H F' H/\Rep (MM M0 F') H v o.view:=by
 have hl:ν.length=Γ.length:=by have:=r.len; simp at this; exact this
 obtain⟨r1,s⟩:=r.cut Γ.length
 have e1:(Γ++ [some o]).take Γ.length=Γ:=by simp
 have e2:(ν++ [some v]).take Γ.length=ν:=by rw[<- hl]; simp
 rw[e1,e2] at r1
 refine⟨_,r1,s,?_⟩
 obtain⟨u,e,q⟩:=r.at' Γ.length o (by rw[List.getElem?_append_right (Nat.le_refl _)]; simp)
 rw[List.getElem?_append_right (by omega),hl] at e
 simp at e
 subst e
 refine q.rep (fun b hb=>?_) (fun a ha hb=>?_)
 ·rcases hb with hb | ⟨j,hb⟩
  ·exact .inl hb
  ·exact .inr ⟨j,(qD hb).2⟩
 ·rcases hb with hb | ⟨j,hb⟩
  ·exact r.dis0 _ a ha hb
  ·have:=r.dis _ _ a ha (qD hb).2
   have:=(qD hb).1
   omega
theorem RS.frz {i:Nat}{o:OV}(r:RS M0 F Γ ν H) (e:Γ[i]?=some (some o)):∃ F' v,ν[i]?=some (some v)/\RS M0 F' (Γ.set i (some (.d o.view))) ν H/\Stp F H F' H/\Rep (MM M0 F') H v o.view:=by
 obtain⟨v,ev,q⟩:=r.at' i o e
 have hi:=(List.getElem?_eq_some_iff.mp e).1
 have s:Stp F H (zC F i []) H:=jX fun j a h=>by
  by_cases hj:j=i
  ·subst hj; rw[zd] at h; cases h
  ·rw[zh hj] at h; exact⟨j,h⟩
 have hq:Rep (MM M0 (zC F i [])) H v o.view:=q.rep (fun b hb=>by
  rcases hb with hb | ⟨j,hb⟩
  ·exact .inl hb
  ·by_cases hj:j=i
   ·subst hj; rw[zd] at hb; cases hb
   ·rw[zh hj] at hb; exact .inr ⟨j,hb⟩) (fun a ha hb=>by
  rcases hb with hb | ⟨j,hb⟩
  ·exact r.dis0 _ a ha hb
  ·by_cases hj:j=i
   ·subst hj; rw[zd] at hb; cases hb
   ·rw[zh hj] at hb; exact hj (r.dis _ _ a hb ha))
 have r1:=r.put (i:=i) (A:= []) s (fun _ _ _ _=>rfl) r.al0 (fun _ h=>nomatch h) .nil (fun _ _ _ h=>nomatch h) hi (.d hq)
 have e2:ν.set i (some v)=ν:=by
  apply List.ext_getElem?
  intro j
  by_cases hj:i=j
  ·subst hj; rw[List.getElem?_set_self (List.getElem?_eq_some_iff.mp ev).1,ev]
  ·rw[List.getElem?_set_ne hj]
 rw[e2] at r1
 exact⟨_,v,ev,r1,s,hq⟩
theorem RS.mut {i:Nat}{xs xs':List OV}{a:Addr}{vs:List V}(r:RS M0 F Γ ν H) (e:Γ[i]?=some (some (.l xs))) (ev:ν[i]?=some (some (.ref a)))
  (h:∀ us A,H a=some (.lst us)->ORL (MM M0 F) H us xs A->F i=a::A->∃ A',(∀ b∈A',b∈A)/\A'.Nodup/\ORL (MM M0 F) H vs xs' A') :
  ∃ F',RS M0 F' (Γ.set i (some (.l xs'))) ν (upd H a (.lst vs))/\Stp F H F' (upd H a (.lst vs)):=by
 obtain⟨v,ev',q⟩:=r.at' i _ e
 rw[ev] at ev'; cases ev'
 have hi:=(List.getElem?_eq_some_iff.mp e).1
 generalize hA:F i=Ai at q
 cases q with
 | l ea qa=>
  rename_i us A
  obtain⟨A',sub,nd',q'⟩:=h us A ea qa hA
  have nd:=r.nd i
  rw[hA] at nd
  have hnA:a∉A:=(List.nodup_cons.mp nd).1
  have inF:∀ b,b∈(a::A')->b∈F i:=fun b hb=>by
   rw[hA]
   rcases List.mem_cons.mp hb with z | z
   ·rw[z]; exact List.mem_cons_self
   ·exact List.mem_cons_of_mem _ (sub b z)
  have s:Stp F H (zC F i (a::A')) (upd H a (.lst vs)):=⟨fun b o eb nb=>⟨by rw[ze (fun z=>nb i (by rw[hA,z]; exact List.mem_cons_self))]; exact eb,fun j hj=>by
   by_cases z:j=i
   ·subst z; rw[zd] at hj; exact nb j (inF b hj)
   ·rw[zh z] at hj; exact nb j hj⟩,fun b xs eb=>by rw[ze (zeF eb ea (by intro z; cases z))]; exact eb,fun b hb=>by
   by_cases z:b=a
   ·subst z; rw[zj]; exact fun w=>nomatch w
   ·rw[ze z]; exact hb⟩
  have r1:=r.put (i:=i) (o:=.l xs') (v:=.ref a) (A:=a::A') s (fun j hj b hb=>by
    rw[ze]
    intro z
    subst z
    exact hj (r.dis j i b hb (by rw[hA]; exact List.mem_cons_self))) (fun b hb=>s.stay b (r.al0 b hb)) (fun b hb=>r.dis0 i b (inF b hb)) (List.nodup_cons.mpr ⟨fun z=>hnA (sub a z),nd'⟩)
   (fun j hj b hb hbj=>hj (r.dis j i b hbj (inF b hb))) hi (.l zj (q'.go (fun _ _ x=>zm s r.al0 x) s.tups fun b hb=>by
    rw[ze]; intro z; subst z; exact hnA (sub b hb)))
  have e2:ν.set i (some (V.ref a))=ν:=by
   apply List.ext_getElem?
   intro j
   by_cases hj:i=j
   ·subst hj; rw[List.getElem?_set_self (List.getElem?_eq_some_iff.mp ev).1,ev]
   ·rw[List.getElem?_set_ne hj]
  rw[e2] at r1
  exact⟨_,r1,s⟩
end
theorem ORL.snoc {M:Addr->Prop}{H:Hp}{v:V}{d:PyData}(q:Rep M H v d):∀ {vs:List V}{os:List OV}{A:List Addr},ORL M H vs os A->ORL M H (vs++ [v]) (os++ [.d d]) A
 | _,_,_,.nil=>.cons (A:= []) (.d q) .nil
 | _,_,_,.cons r t=>.cons r (ORL.snoc q t)
theorem ORL.setD {M:Addr->Prop}{H:Hp}{v:V}{d:PyData}(q:Rep M H v d):∀ {vs:List V}{os:List OV}{A:List Addr}{j:Nat}{x:PyData},ORL M H vs os A->os[j]?=some (.d x)->ORL M H (vs.set j v) (os.set j (.d d)) A
 | _,_,_,_,_,.nil,e=>by simp at e
 | _,_,_,0,x,.cons r t,e=>by
  simp at e
  subst e
  cases r
  exact .cons (A:= []) (.d q) t
 | _,_,_,j+1,x,.cons r t,e=>.cons r (ORL.setD (j:=j) q t (by simpa using e))
theorem ORL.get {M:Addr->Prop}{H:Hp}:∀ {vs:List V}{os:List OV}{A:List Addr}{j:Nat}{x:PyData},ORL M H vs os A->os[j]?=some (.d x)->∃ v,vs[j]?=some v/\Rep M H v x
 | _,_,_,_,_,.nil,e=>by simp at e
 | _,_,_,0,x,.cons r t,e=>by
  simp at e
  subst e
  cases r with
  | d r=>exact⟨_,rfl,r⟩
 | _,_,_,j+1,x,.cons r t,e=>by
  obtain⟨v,e1,q⟩:=ORL.get (j:=j) t (by simpa using e)
  exact⟨v,by simpa using e1,q⟩
end L3
namespace L3
open PySem PySem.Spec PyProof.Rows L2
variable [Cs]
noncomputable abbrev St:=L2.St
structure Exc where
 cls:Str
 pay:PyData
inductive R (α:Type) where
 | ok (a:α)
 | exc (x:Exc) (Γ:Gv)
 | bad
noncomputable def R.bind {α β:Type}(r:R α) (f:α->R β):R β:=match r with
 | .ok a=>f a
 | .exc x Γ=>.exc x Γ
 | .bad=>.bad
noncomputable abbrev EM (α:Type):=Gv->R (α×Gv)
inductive FV where
 | dat (x:PyData)
 | own (i:Nat)
noncomputable def derf (Γ:Gv):FV->Option PyData
 | .dat x=>some x
 | .own i=>match Γ[i]? with
  | some (some o)=>some o.view
  | _=>none
noncomputable def derS (Γ:Gv):FV->Option PyData
 | .dat x=>some x
 | .own i=>match Γ[i]? with
  | some (some (.d x))=>some x
  | _=>none
noncomputable def leaves:List OV->Option (List PyData)
 | []=>some []
 | .d x::r=>(leaves r).map (x::·)
 | .l _::_=>none
 | .t _::_=>none
 | .m _::_=>none
 | .o _ _ _::_=>none
theorem kI (xs:List PyData):leaves (xs.map .d)=some xs:=by
 induction xs with
 | nil=>rfl
 | cons x r ih=>simp[leaves,ih]
noncomputable def derL (Γ:Gv):FV->Option (List PyData)
 | .dat (.list xs)=>some xs
 | .own i=>match Γ[i]? with
  | some (some (.l xs))=>leaves xs
  | some (some (.d (.list xs)))=>some xs
  | _=>none
 | _=>none
noncomputable abbrev XPT:=Exc->Gv->Fp->Nu->St->Hp->Prop
noncomputable def Sees (mp:List Nat) (ν:Nu) (σ:St):Prop:=∀ (s i:Nat) (v:V),mp[s]?=some i->ν[i]?=some (some v)->σ[s]?=some (some v)
noncomputable def EPost {α:Type}(M0:Addr->Prop) (F:Fp) (ν:Nu) (σ:St) (H:Hp) (XP:XPT) (P:Fp->Gv->Hp->α->Prop) (r:R (α×Gv)):Prop:=match r with
 | .ok (a,Γ')=>∀ F' H',RS M0 F' Γ' ν H'->Stp F H F' H'->P F' Γ' H' a
 | .exc x Γ'=>∀ F' H',RS M0 F' Γ' ν H'->Stp F H F' H'->XP x Γ' F' ν σ H'
 | .bad=>False
section
variable {α β:Type} {M0:Addr->Prop} {F:Fp} {Γ:Gv} {ν:Nu} {σ:St} {H:Hp} {XP:XPT}
theorem EPost.mono {P P':Fp->Gv->Hp->α->Prop}{r:R (α×Gv)}(h:EPost M0 F ν σ H XP P r) (k:∀ F' Γ' H' a,RS M0 F' Γ' ν H'->Stp F H F' H'->P F' Γ' H' a->P' F' Γ' H' a):EPost M0 F ν σ H XP P' r:=by
 cases r with
 | ok a=>exact fun F' H' rs s=>k F' _ H' _ rs s (h F' H' rs s)
 | exc x Γ'=>exact h
 | bad=>exact h
theorem EPost.seq {P:Fp->Gv->Hp->β->Prop}{r:R (α×Gv)}{k:α×Gv->R (β×Gv)}(h:EPost M0 F ν σ H XP P (r.bind k)) :
  EPost M0 F ν σ H XP (fun F1 Γ1 H1 a=>EPost M0 F1 ν σ H1 XP P (k (a,Γ1))) r:=by
 cases r with
 | ok a=>
  obtain⟨a,Γ1⟩:=a
  intro F1 H1 rs1 s1
  have h':EPost M0 F ν σ H XP P (k (a,Γ1)):=h
  revert h'
  generalize k (a,Γ1)=r2
  intro h'
  cases r2 with
  | ok b=>exact fun F' H' rs s=>h' F' H' rs (s1.trans s)
  | exc x Γ'=>exact fun F' H' rs s=>h' F' H' rs (s1.trans s)
  | bad=>exact h'
 | exc x Γ'=>exact h
 | bad=>exact h
theorem EPost.step {P:Fp->Gv->Hp->α->Prop}{r:R (α×Gv)}{F1:Fp}{H1:Hp}(h:EPost M0 F ν σ H XP P r) (s1:Stp F H F1 H1):EPost M0 F1 ν σ H1 XP P r:=by
 cases r with
 | ok b=>exact fun F' H' rs s=>h F' H' rs (s1.trans s)
 | exc x Γ'=>exact fun F' H' rs s=>h F' H' rs (s1.trans s)
 | bad=>exact h
end
noncomputable def FOk (M0:Addr->Prop) (F:Fp) (ν:Nu) (H:Hp) (v:V):FV->Prop
 | .dat x=>Rep (MM M0 F) H v x
 | .own i=>ν[i]?=some (some v)
section
variable {M0:Addr->Prop} {F F':Fp} {Γ:Gv} {ν:Nu} {H H':Hp} {v:V} {u:FV} {x:PyData}
theorem FOk.stp (h:FOk M0 F ν H v u) (s:Stp F H F' H') (h0:∀ a,M0 a->H a≠none):FOk M0 F' ν H' v u:=by
 cases u with
 | dat x=>exact zm s h0 h
 | own i=>exact h
theorem FOk.weak (h:FOk M0 F ν H v u) (rs:RS M0 F Γ ν H) (e:derf Γ u=some x):Rep zA H v x:=by
 cases u with
 | dat y=>cases e; exact Rep.less (fun _ z _=>z.elim) h
 | own i=>
  dsimp only [derf] at e
  split at e
  ·rename_i o q
   cases e
   obtain⟨w,e1,r⟩:=rs.at' i o q
   have h':ν[i]?=some (some v):=h
   rw[h'] at e1; cases e1
   exact r.weak
  ·cases e
theorem FOk.strong (h:FOk M0 F ν H v u) (rs:RS M0 F Γ ν H) (e:derS Γ u=some x):Rep (MM M0 F) H v x:=by
 cases u with
 | dat y=>cases e; exact h
 | own i=>
  dsimp only [derS] at e
  split at e
  ·rename_i y q
   cases e
   obtain⟨w,e1,r⟩:=rs.at' i _ q
   have h':ν[i]?=some (some v):=h
   rw[h'] at e1; cases e1
   generalize F i=A at r
   cases r with
   | d r=>exact r
  ·cases e
theorem ORL.leaf {M:Addr->Prop}:∀ {vs:List V}{os:List OV}{A:List Addr}{ds:List PyData},ORL M H vs os A->leaves os=some ds->RepL M H vs ds/\A= []
 | _,_,_,_,.nil,e=>by cases e; exact⟨.nil,rfl⟩
 | _,_,_,_,.cons (x:=.d x) r t,e=>by
  unfold leaves at e
  rename_i vs xs A B
  cases q:leaves xs with
  | none=>rw[q] at e; cases e
  | some ys=>
   rw[q] at e; cases e
   obtain⟨h1,h2⟩:=ORL.leaf t q
   cases r with
   | d r=>exact⟨.cons r h1,by rw[h2]; rfl⟩
 | _,_,_,_,.cons (x:=.l x) r t,e=>by cases e
 | _,_,_,_,.cons (x:=.t x) r t,e=>by cases e
 | _,_,_,_,.cons (x:=.m x) r t,e=>by cases e
 | _,_,_,_,.cons (x:=.o _ _ x) r t,e=>by cases e
theorem FOk.list {ds:List PyData}(h:FOk M0 F ν H v u) (rs:RS M0 F Γ ν H) (e:derL Γ u=some ds):∃ a vs,v=.ref a/\H a=some (.lst vs)/\RepL (MM M0 F) H vs ds:=by
 unfold derL at e
 split at e
 ·cases e
  obtain⟨a,vs,rfl,e1,_,r⟩:=Rep.lst_inv h
  exact⟨a,vs,rfl,e1,r⟩
 ·rename_i i
  have h':ν[i]?=some (some v):=h
  split at e
  ·rename_i q
   obtain⟨w,e1,r⟩:=rs.at' i _ q
   rw[h'] at e1; cases e1
   generalize F i=A at r
   cases r with
   | l ea qa=>exact⟨_,_,rfl,ea,(ORL.leaf qa e).1⟩
  ·rename_i q
   cases e
   obtain⟨w,e1,r⟩:=rs.at' i _ q
   rw[h'] at e1; cases e1
   generalize F i=A at r
   cases r with
   | d r=>
    obtain⟨a,vs,rfl,e1,_,r⟩:=Rep.lst_inv r
    exact⟨a,vs,rfl,e1,r⟩
  ·cases e
 ·cases e
end
noncomputable def SE (X:Cx) (XP:XPT) (mp:List Nat) (e:Expr) (f:EM FV):Prop:=∀ (M0:Addr->Prop) (F:Fp) (Γ:Gv) (ν:Nu) (σ:St) (H:Hp) (Q:VK),RS M0 F Γ ν H->Sees mp ν σ ->
 EPost M0 F ν σ H XP (fun F' Γ' H' u=>∀ v,FOk M0 F' ν H' v u->Q v H') (f Γ)->wpE X e σ H Q
noncomputable def SN (X:Cx) (XP:XPT) (mp:List Nat) (e:Expr) (f:EM (List PyData)):Prop:=∀ (M0:Addr->Prop) (F:Fp) (Γ:Gv) (ν:Nu) (σ:St) (H:Hp) (Q:VK),RS M0 F Γ ν H->Sees mp ν σ ->
 EPost M0 F ν σ H XP (fun F' Γ' H' ds=>∀ vs p,RepL (MM M0 F') H' vs ds->H' p=none->Q (.ref p) (upd H' p (.lst vs))) (f Γ)->wpE X e σ H Q
noncomputable def ST (X:Cx) (XP:XPT) (mp:List Nat) (e:Expr) (f:EM Bool):Prop:=∀ (M0:Addr->Prop) (F:Fp) (Γ:Gv) (ν:Nu) (σ:St) (H:Hp) (Q:Bool->Hp->Prop),RS M0 F Γ ν H->Sees mp ν σ ->
 EPost M0 F ν σ H XP (fun F' Γ' H' b=>Q b H') (f Γ)->wpT X e σ H Q
noncomputable def SW (X:Cx) (XP:XPT) (mp:List Nat) (e:Expr) (f:EM Bool):Prop:=∀ (M0:Addr->Prop) (F:Fp) (Γ:Gv) (ν:Nu) (σ:St) (H:Hp) (Q:Bool->Hp->Prop),RS M0 F Γ ν H->Sees mp ν σ ->
 EPost M0 F ν σ H XP (fun F' Γ' H' b=>Q b H') (f Γ)->wpW X e σ H Q
section
variable {X:Cx} {XP:XPT} {mp:List Nat} {a b c e:Expr} {es:List Expr} {pos p p2:Pos} {fa fb fc:EM FV} {ta tb:EM Bool} {na nb:EM (List PyData)}
section
variable {β:Type} {M0:Addr->Prop} {F:Fp} {Γ:Gv} {ν:Nu} {σ:St} {H:Hp} {P:Fp->Gv->Hp->β->Prop}
theorem SE.run {Q:VK}{k:FV×Gv->R (β×Gv)}(ha:SE X XP mp a fa) (rs:RS M0 F Γ ν H) (hs:Sees mp ν σ) (h:EPost M0 F ν σ H XP P ((fa Γ).bind k))
  (kk:∀ F1 Γ1 H1 u v,RS M0 F1 Γ1 ν H1->Stp F H F1 H1->FOk M0 F1 ν H1 v u->EPost M0 F1 ν σ H1 XP P (k (u,Γ1))->Q v H1):wpE X a σ H Q :=
 ha M0 F Γ ν σ H Q rs hs (h.seq.mono fun F1 Γ1 H1 u rs1 s1 h1 v hv=>kk F1 Γ1 H1 u v rs1 s1 hv h1)
theorem SN.run {Q:VK}{k:List PyData×Gv->R (β×Gv)}(ha:SN X XP mp a na) (rs:RS M0 F Γ ν H) (hs:Sees mp ν σ) (h:EPost M0 F ν σ H XP P ((na Γ).bind k))
  (kk:∀ F1 Γ1 H1 ds vs p,RS M0 F1 Γ1 ν H1->Stp F H F1 H1->RepL (MM M0 F1) H1 vs ds->H1 p=none->EPost M0 F1 ν σ H1 XP P (k (ds,Γ1))->Q (.ref p) (upd H1 p (.lst vs))):wpE X a σ H Q :=
 ha M0 F Γ ν σ H Q rs hs (h.seq.mono fun F1 Γ1 H1 u rs1 s1 h1 vs p r n=>kk F1 Γ1 H1 u vs p rs1 s1 r n h1)
theorem ST.run {Q:Bool->Hp->Prop}{k:Bool×Gv->R (β×Gv)}(ha:ST X XP mp a ta) (rs:RS M0 F Γ ν H) (hs:Sees mp ν σ) (h:EPost M0 F ν σ H XP P ((ta Γ).bind k))
  (kk:∀ F1 Γ1 H1 u,RS M0 F1 Γ1 ν H1->Stp F H F1 H1->EPost M0 F1 ν σ H1 XP P (k (u,Γ1))->Q u H1):wpT X a σ H Q :=
 ha M0 F Γ ν σ H Q rs hs (h.seq.mono fun F1 Γ1 H1 u rs1 s1 h1=>kk F1 Γ1 H1 u rs1 s1 h1)
end
noncomputable def fNew (n:EM (List PyData)):EM FV:=fun Γ=>(n Γ).bind fun (ds,Γ1)=>.ok (.dat (.list ds),Γ1)
theorem SN.se (h:SN X XP mp a na):SE X XP mp a (fNew na):=fun M0 F Γ ν σ H Q rs hs hp=>
 h.run rs hs hp fun F1 Γ1 H1 ds vs p rs1 s1 r n h1=>by
  have s2:Same H1 (upd H1 p (.lst vs)):=zw n
  exact h1 F1 _ (rs1.same s2) (.same s2) _ (Rep.list zj (fun z=>rs1.al p z n) (r.grow s2.grow))
noncomputable def fVar (i:Nat):EM FV:=fun Γ=>match Γ[i]? with
 | some (some (.d x))=>.ok (.dat x,Γ)
 | some (some (.l _))=>.ok (.own i,Γ)
 | some (some (.t _))=>.ok (.own i,Γ)
 | some (some (.m _))=>.ok (.own i,Γ)
 | some (some (.o _ _ _))=>.ok (.own i,Γ)
 | _=>.bad
theorem zdJ {s i:Nat}{x:Str}(hN:X.N[s]?=some x) (hv:Vis X.env.scope x) (hm:mp[s]?=some i) (hd:(x==("__debug__" :Str))=false) (hcd:(x==("__classdict__" :Str))=false) :
  SE X XP mp (.Name x pos) (fVar i):=fun M0 F Γ ν σ H Q rs hs hp=>by
 unfold fVar at hp
 split at hp
 ·rename_i y q
  obtain⟨v,e1,r⟩:=rs.at' i _ q
  generalize hA:F i=A at r
  cases r with
  | d r=>exact (z4 hN hv hd hcd).wp ⟨v,hs s i v hm e1,hp F H rs (.refl F H) v r⟩
 ·rename_i y q
  obtain⟨v,e1,r⟩:=rs.at' i _ q
  exact (z4 hN hv hd hcd).wp ⟨v,hs s i v hm e1,hp F H rs (.refl F H) v e1⟩
 ·rename_i y q
  obtain⟨v,e1,r⟩:=rs.at' i _ q
  exact (z4 hN hv hd hcd).wp ⟨v,hs s i v hm e1,hp F H rs (.refl F H) v e1⟩
 ·rename_i y q
  obtain⟨v,e1,r⟩:=rs.at' i _ q
  exact (z4 hN hv hd hcd).wp ⟨v,hs s i v hm e1,hp F H rs (.refl F H) v e1⟩
 ·rename_i y _ _ q
  obtain⟨v,e1,r⟩:=rs.at' i _ q
  exact (z4 hN hv hd hcd).wp ⟨v,hs s i v hm e1,hp F H rs (.refl F H) v e1⟩
 ·exact hp.elim
noncomputable def fFrz (i:Nat):EM FV:=fun Γ=>match Γ[i]? with
 | some (some o)=>.ok (.dat o.view,Γ.set i (some (.d o.view)))
 | _=>.bad
theorem zdD {s i:Nat}{x:Str}(hN:X.N[s]?=some x) (hv:Vis X.env.scope x) (hm:mp[s]?=some i) (hd:(x==("__debug__" :Str))=false) (hcd:(x==("__classdict__" :Str))=false) :
  SE X XP mp (.Name x pos) (fFrz i):=fun M0 F Γ ν σ H Q rs hs hp=>by
 unfold fFrz at hp
 split at hp
 ·rename_i o q
  obtain⟨F',v,e1,rs1,s1,r⟩:=rs.frz q
  exact (z4 hN hv hd hcd).wp ⟨v,hs s i v hm e1,hp F' H rs1 s1 v r⟩
 ·exact hp.elim
noncomputable def fC (x:PyData):EM FV:=fun Γ=>.ok (.dat x,Γ)
theorem zdE {i j}:SE X XP mp (.Constant (.int i) j pos) (fC (.int i)):=fun M0 F Γ ν σ H Q rs hs hp=>pe_int.wp (hp F H rs (.refl F H) _ (Rep.int i))
theorem zbl {x j}:SE X XP mp (.Constant (.bool x) j pos) (fC (.bool x)):=fun M0 F Γ ν σ H Q rs hs hp=>pe_bl.wp (hp F H rs (.refl F H) _ (Rep.bool x))
theorem zbr {j}:SE X XP mp (.Constant .none j pos) (fC .none):=fun M0 F Γ ν σ H Q rs hs hp=>pe_non.wp (hp F H rs (.refl F H) _ Rep.none)
theorem zdH {x j}:SE X XP mp (.Constant (.str x) j pos) (fC (.str x)):=fun M0 F Γ ν σ H Q rs hs hp=>pe_str.wp (hp F H rs (.refl F H) _ (Rep.str x))
theorem zbn {x:Str}{i:Int}(hg:Gl X x) (hm:∃ t,X.mg x=some (.int i t)) (hd:(x==("__debug__" :Str))=false):SE X XP mp (.Name x pos) (fC (.int i)):=fun M0 F Γ ν σ H Q rs hs hp=>by
 obtain⟨t,hm⟩:=hm
 exact (za7 (v:=.int i) hg hm ⟨t,rfl⟩ hd).wp (hp F H rs (.refl F H) _ (Rep.int i))
noncomputable def OpS (X:Cx) (f:Value->Value->Sem Value) (g:PyData->PyData->Option PyData):Prop:=∀ x y z,g x y=some z->∃ r:R2,OpR X f r/\∀ (M:Addr->Prop) (H:Hp) (v u:V) (Q:VK),
 Al M H->Rep M H v x->Rep M H u y->(∀ w H',Same H H'->Rep M H' w z->Q w H')->r v u H Q
noncomputable def fBin (g:PyData->PyData->Option PyData) (fa fb:EM FV):EM FV:=fun Γ=>(fa Γ).bind fun (u,Γ1)=>(fb Γ1).bind fun (w,Γ2)=>match derS Γ2 u,derS Γ2 w with
 | some x,some y=>match g x y with
  | some z=>.ok (.dat z,Γ2)
  | none=>.bad
 | _,_=>.bad
theorem zdB {op:Operator}{g:PyData->PyData->Option PyData}(ho:OpS X (binaryOp op) g) (ha:SE X XP mp a fa) (hb:SE X XP mp b fb):SE X XP mp (.BinOp a op b pos) (fBin g fa fb):=fun M0 F Γ ν σ H Q rs hs hp=>by
 have key:∀ x y z,g x y=some z->∃ r:R2,OpR X (binaryOp op) r/\∀ (M:Addr->Prop) (H:Hp) (v u:V) (Q:VK),Al M H->Rep M H v x->Rep M H u y->(∀ w H',Same H H'->Rep M H' w z->Q w H')->r v u H Q:=ho
 refine (wK (r:=fun v u H Q=>∃ M x y z,g x y=some z/\Al M H/\Rep M H v x/\Rep M H u y/\∀ w H',Same H H'->Rep M H' w z->Q w H') ?_ zi zi).wp
  (ha.run rs hs hp fun F1 Γ1 H1 u v rs1 s1 o1 h1=>hb.run rs1 hs h1 fun F2 Γ2 H2 w v2 rs2 s2 o2 h2=>?_)
 ·rintro pins s σ H x y v u Q I rx ry ⟨M,dx,dy,dz,e,al,r1,r2,k⟩
  obtain⟨r,hr,hh⟩:=ho dx dy dz e
  exact hr pins s σ H x y v u Q I rx ry (hh M H x y Q al r1 r2 k)
 ·dsimp only at h2
  split at h2
  ·rename_i x y e1 e2
   split at h2
   ·rename_i z e3
    exact⟨MM M0 F2,x,y,z,e3,rs2.al,(o1.stp s2 rs1.al0).strong rs2 e1,o2.strong rs2 e2,fun w' H3 s3 r3=>h2 F2 H3 (rs2.same s3) (.same s3) w' r3⟩
   ·exact h2.elim
  ·exact h2.elim
noncomputable def WO (X:Cx) (op:CmpOp) (g:PyData->PyData->Option Bool):Prop:=∀ x y z,g x y=some z->∃ r:R2,OpR X (compareOp op) r/\∀ (H:Hp) (v u:V) (Q:VK),
 Rep zA H v x->Rep zA H u y->Q (.bl z) H->r v u H Q
noncomputable def fCmp (g:PyData->PyData->Option Bool) (fa fb:EM FV):EM Bool:=fun Γ=>(fa Γ).bind fun (u,Γ1)=>(fb Γ1).bind fun (w,Γ2)=>match derf Γ2 u,derf Γ2 w with
 | some x,some y=>match g x y with
  | some z=>.ok (z,Γ2)
  | none=>.bad
 | _,_=>.bad
noncomputable def fB (t:EM Bool):EM FV:=fun Γ=>(t Γ).bind fun (b,Γ1)=>.ok (.dat (.bool b),Γ1)
theorem jV {op:CmpOp}{g:PyData->PyData->Option Bool}(ho:WO X op g):OpR X (compareOp op) (fun v u H Q=>∃ x y z,g x y=some z/\Rep zA H v x/\Rep zA H u y/\Q (.bl z) H):=by
 rintro pins s σ H x y v u Q I rx ry ⟨dx,dy,dz,e,r1,r2,k⟩
 obtain⟨r,hr,hh⟩:=ho dx dy dz e
 exact hr pins s σ H x y v u Q I rx ry (hh H x y Q r1 r2 k)
section
variable {M0:Addr->Prop} {F:Fp} {Γ:Gv} {ν:Nu} {σ:St} {H:Hp} {β:Type} {P:Fp->Gv->Hp->β->Prop}
theorem V3 {g:PyData->PyData->Option Bool}{k:Bool×Gv->R (β×Gv)}{Q:VK}(ha:SE X XP mp a fa) (hb:SE X XP mp b fb) (rs:RS M0 F Γ ν H) (hs:Sees mp ν σ) (hp:EPost M0 F ν σ H XP P ((fCmp g fa fb Γ).bind k))
  (kk:∀ F2 Γ2 H2 z,RS M0 F2 Γ2 ν H2->Stp F H F2 H2->EPost M0 F2 ν σ H2 XP P (k (z,Γ2))->Q (.bl z) H2) :
  wpE X a σ H fun v H1=>wpE X b σ H1 fun u H2=>∃ x y z,g x y=some z/\Rep zA H2 v x/\Rep zA H2 u y/\Q (.bl z) H2:=by
 have hp':EPost M0 F ν σ H XP P ((fa Γ).bind fun (u,Γ1)=>(fb Γ1).bind fun (w,Γ2)=>(match derf Γ2 u,derf Γ2 w with
  | some x,some y=>match g x y with
   | some z=>R.ok (z,Γ2)
   | none=>.bad
  | _,_=>.bad).bind k):=by
  have e:((fCmp g fa fb Γ).bind k)=((fa Γ).bind fun (u,Γ1)=>(fb Γ1).bind fun (w,Γ2)=>(match derf Γ2 u,derf Γ2 w with
   | some x,some y=>match g x y with
    | some z=>R.ok (z,Γ2)
    | none=>.bad
   | _,_=>.bad).bind k):=by
   unfold fCmp
   cases fa Γ with
   | ok a=>
    obtain⟨a,Γ1⟩:=a
    simp only[R.bind]
    cases fb Γ1 <;> rfl
   | exc x y=>rfl
   | bad=>rfl
  rw[<- e]; exact hp
 refine ha.run rs hs hp' fun F1 Γ1 H1 u v rs1 s1 o1 h1=>hb.run rs1 hs h1 fun F2 Γ2 H2 w v2 rs2 s2 o2 h2=>?_
 dsimp only at h2
 split at h2
 ·rename_i x y e1 e2
  split at h2
  ·rename_i z e3
   exact⟨x,y,z,e3,(o1.stp s2 rs1.al0).weak rs2 e1,o2.weak rs2 e2,kk F2 Γ2 H2 z rs2 (s1.trans s2) h2⟩
  ·exact h2.elim
 ·exact h2.elim
end
theorem R.bind_ok {α:Type}(r:R α):r.bind .ok=r:=by cases r <;> rfl
theorem zdC {op:CmpOp}{g:PyData->PyData->Option Bool}(ho:WO X op g) (ha:SE X XP mp a fa) (hb:SE X XP mp b fb) (hm:behindInMarks op b=false):SE X XP mp (.Compare a [op] [b] pos) (fB (fCmp g fa fb)):=fun M0 F Γ ν σ H Q rs hs hp=>
 (za5 (jV ho) zi zi hm).wp (V3 ha hb rs hs hp fun F2 Γ2 H2 z rs2 s2 h2=>h2 F2 H2 rs2 (.refl _ _) _ (Rep.bool z))
theorem zd2 {op:CmpOp}{g:PyData->PyData->Option Bool}(ho:WO X op g) (ha:SE X XP mp a fa) (hb:SE X XP mp b fb) (hm:behindInMarks op b=false):ST X XP mp (.Compare a [op] [b] pos) (fCmp g fa fb):=fun M0 F Γ ν σ H Q rs hs hp=>
 (zbc (jV ho) zi zi hm).wp (V3 (k:=.ok) (Q:=fun v H'=>∃ k,v=.bl k/\Q k H') ha hb rs hs (by rw[R.bind_ok]; exact hp) fun F2 Γ2 H2 z rs2 s2 h2=>⟨z,rfl,h2 F2 H2 rs2 (.refl _ _)⟩)
end
end L3
namespace L3
open PySem PySem.Spec PyProof.Rows L2
variable [Cs]
noncomputable def truD:PyData->Option Bool
 | .none=>some false
 | .bool b=>some b
 | .int i=>some (i !=0)
 | .list xs=>some (!xs.isEmpty)
 | .tuple xs=>some (!xs.isEmpty)
 | _=>none
theorem vh {M:Addr->Prop}{H:Hp}{vs:List V}{ds:List PyData}(r:RepL M H vs ds):(!vs.isEmpty)= !ds.isEmpty:=by cases r <;> rfl
theorem yk {K:PySem.W.Frag}{M:Addr->Prop}{H:Hp}{v:V}{x:PyData}{k:Bool}(r:Rep M H v x) (e:truD x=some k):zan K v H k:=by
 cases r with
 | none=>cases e; rfl
 | bool b=>cases e; rfl
 | int i=>cases e; rfl
 | str x=>cases e
 | list ea n q=>cases e; exact .inl ⟨_,SqL.of ea,(vh q).symm⟩
 | tuple ea q=>cases e; exact .inr (.inl ⟨_,SqT.of ea,(vh q).symm⟩)
 | dict _ _ _ _=>cases e
 | inst _ _ _ _=>cases e
section
variable {X:Cx} {XP:XPT} {mp:List Nat} {a b c e:Expr} {es:List Expr} {pos p p2:Pos} {fa fb fc:EM FV} {ta tb:EM Bool} {na nb:EM (List PyData)}
noncomputable def fTru (fa:EM FV):EM Bool:=fun Γ=>(fa Γ).bind fun (u,Γ1)=>match (derf Γ1 u).bind truD with
 | some k=>.ok (k,Γ1)
 | none=>.bad
theorem KL (ha:SE X XP mp a fa) (he:∀ whole,isTrue a X.env whole=(do let v<-whole; standAt a.pos; holding [v] (truthy v))):ST X XP mp a (fTru fa):=fun M0 F Γ ν σ H Q rs hs hp=>
 (Kk zi he).wp (ha.run rs hs hp fun F1 Γ1 H1 u v rs1 s1 o1 h1=>by
  dsimp only at h1
  split at h1
  ·rename_i k ek
   cases ex:derf Γ1 u with
   | none=>rw[ex] at ek; cases ek
   | some x=>
    rw[ex] at ek
    exact⟨k,yk (o1.weak rs1 ex) ek,h1 F1 H1 rs1 (.refl _ _)⟩
  ·exact h1.elim)
noncomputable def fNotT (ta:EM Bool):EM Bool:=fun Γ=>(ta Γ).bind fun (b,Γ1)=>.ok (!b,Γ1)
theorem zd3 (h:ST X XP mp a ta):ST X XP mp (.UnaryOp .Not a pos) (fNotT ta):=fun M0 F Γ ν σ H Q rs hs hp=>
 (zdp qS).wp (h.run rs hs hp fun F1 Γ1 H1 b rs1 s1 h1=>h1 F1 H1 rs1 (.refl _ _))
theorem SW.st (h:SW X XP mp a ta):ST X XP mp a ta:=fun M0 F Γ ν σ H Q rs hs hp pins s I=>h M0 F Γ ν σ H Q rs hs hp _ pins s I
theorem zbM (h:ST X XP mp a ta):SW X XP mp (.BoolOp .And [a] pos) ta:=fun M0 F Γ ν σ H Q rs hs hp=>(zbe qS).wp (h M0 F Γ ν σ H Q rs hs hp)
theorem zbN (h:ST X XP mp a ta):SW X XP mp (.BoolOp .Or [a] pos) ta:=fun M0 F Γ ν σ H Q rs hs hp=>(zdr qS).wp (h M0 F Γ ν σ H Q rs hs hp)
noncomputable def fAndT (ta tb:EM Bool):EM Bool:=fun Γ=>(ta Γ).bind fun (b,Γ1)=>if b then tb Γ1 else .ok (false,Γ1)
noncomputable def fOrT (ta tb:EM Bool):EM Bool:=fun Γ=>(ta Γ).bind fun (b,Γ1)=>if b then .ok (true,Γ1) else tb Γ1
theorem KN (ha:ST X XP mp a ta) (hb:SW X XP mp (.BoolOp .And (b::es) pos) tb):SW X XP mp (.BoolOp .And (a::b::es) pos) (fAndT ta tb):=fun M0 F Γ ν σ H Q rs hs hp=>
 (zdq qS yf).wp (ha.run rs hs hp fun F1 Γ1 H1 b rs1 s1 h1=>by
  cases b with
  | true=>exact Ws (hb M0 F1 Γ1 ν σ H1 Q rs1 hs h1)
  | false=>exact Wr (h1 F1 H1 rs1 (.refl _ _)))
theorem zcq (ha:ST X XP mp a ta) (hb:SW X XP mp (.BoolOp .Or (b::es) pos) tb):SW X XP mp (.BoolOp .Or (a::b::es) pos) (fOrT ta tb):=fun M0 F Γ ν σ H Q rs hs hp=>
 (zeS qS yf).wp (ha.run rs hs hp fun F1 Γ1 H1 b rs1 s1 h1=>by
  cases b with
  | true=>exact Ws (h1 F1 H1 rs1 (.refl _ _))
  | false=>exact Wr (hb M0 F1 Γ1 ν σ H1 Q rs1 hs h1))
noncomputable def fAndV (fa fb:EM FV):EM FV:=fun Γ=>(fa Γ).bind fun (u,Γ1)=>match derf Γ1 u with
 | some (.bool true)=>fb Γ1
 | some (.bool false)=>.ok (.dat (.bool false),Γ1)
 | _=>.bad
noncomputable def fOrV (fa fb:EM FV):EM FV:=fun Γ=>(fa Γ).bind fun (u,Γ1)=>match derf Γ1 u with
 | some (.bool true)=>.ok (.dat (.bool true),Γ1)
 | some (.bool false)=>fb Γ1
 | _=>.bad
theorem Kw {op}(h:SE X XP mp a fa):SE X XP mp (.BoolOp op [a] pos) fa:=fun M0 F Γ ν σ H Q rs hs hp=>(zdk zi).wp (h M0 F Γ ν σ H Q rs hs hp)
theorem Kt (ha:SE X XP mp a fa) (hb:SE X XP mp (.BoolOp .And (b::es) pos) fb):SE X XP mp (.BoolOp .And (a::b::es) pos) (fAndV fa fb):=fun M0 F Γ ν σ H Q rs hs hp=>
 (zdj zi zi).wp (ha.run rs hs hp fun F1 Γ1 H1 u v rs1 s1 o1 h1=>by
  dsimp only at h1
  split at h1
  ·rename_i ex
   cases o1.weak rs1 ex
   exact⟨true,rfl,Ws (hb M0 F1 Γ1 ν σ H1 Q rs1 hs h1)⟩
  ·rename_i ex
   cases o1.weak rs1 ex
   exact⟨false,rfl,Wr (h1 F1 H1 rs1 (.refl _ _) _ (Rep.bool false))⟩
  ·exact h1.elim)
theorem zcl (ha:SE X XP mp a fa) (hb:SE X XP mp (.BoolOp .Or (b::es) pos) fb):SE X XP mp (.BoolOp .Or (a::b::es) pos) (fOrV fa fb):=fun M0 F Γ ν σ H Q rs hs hp=>
 (zeQ zi zi).wp (ha.run rs hs hp fun F1 Γ1 H1 u v rs1 s1 o1 h1=>by
  dsimp only at h1
  split at h1
  ·rename_i ex
   cases o1.weak rs1 ex
   exact⟨true,rfl,Ws (h1 F1 H1 rs1 (.refl _ _) _ (Rep.bool true))⟩
  ·rename_i ex
   cases o1.weak rs1 ex
   exact⟨false,rfl,Wr (hb M0 F1 Γ1 ν σ H1 Q rs1 hs h1)⟩
  ·exact h1.elim)
theorem zbV:UnR X (unaryOp .Not) (fun x H Q=>∃ k,zan X.K x H k/\Q (.bl (!k)) H):=by
 intro pins s σ H x v Q I rx h
 obtain⟨k,hk,q⟩:=h
 exact not_of (thn (KS pins s σ H x v _ I rx ⟨k,hk,q⟩) fun b s' ⟨H',I',q'⟩=>⟨.bl (!b),H',I',rfl,q'⟩)
theorem zdG (ha:SE X XP mp a fa):SE X XP mp (.UnaryOp .Not a pos) (fB (fNotT (fTru fa))):=fun M0 F Γ ν σ H Q rs hs hp=>by
 refine (zcj zbV zi).wp (ha.run (k:=fun (u,Γ1)=>match (derf Γ1 u).bind truD with
  | some k=>R.ok (FV.dat (.bool (!k)),Γ1)
  | none=>.bad) (P:=fun F' Γ' H' u=>∀ (v:V),FOk M0 F' ν H' v u->Q v H') rs hs ?_ fun F1 Γ1 H1 u v rs1 s1 o1 h1=>?_)
 ·have e:fB (fNotT (fTru fa)) Γ=(fa Γ).bind fun (u,Γ1)=>match (derf Γ1 u).bind truD with
   | some k=>.ok (.dat (.bool (!k)),Γ1)
   | none=>.bad:=by
   unfold fB fNotT fTru
   cases fa Γ with
   | ok a=>
    obtain⟨u,Γ1⟩:=a
    simp only[R.bind]
    cases (derf Γ1 u).bind truD <;> rfl
   | exc x y=>rfl
   | bad=>rfl
  rw[<- e]; exact hp
 ·dsimp only at h1
  split at h1
  ·rename_i k ek
   cases ex:derf Γ1 u with
   | none=>rw[ex] at ek; cases ek
   | some x=>
    rw[ex] at ek
    exact⟨k,yk (o1.weak rs1 ex) ek,h1 F1 H1 rs1 (.refl _ _) _ (Rep.bool (!k))⟩
  ·exact h1.elim
noncomputable def fIf (t:EM Bool) (fa fb:EM FV):EM FV:=fun Γ=>(t Γ).bind fun (b,Γ1)=>if b then fa Γ1 else fb Γ1
theorem zeZ (hc:ST X XP mp c ta) (ha:SE X XP mp a fa) (hb:SE X XP mp b fb):SE X XP mp (.IfExp c a b pos) (fIf ta fa fb):=fun M0 F Γ ν σ H Q rs hs hp=>
 (k6 qS zi zi).wp (hc.run rs hs hp fun F1 Γ1 H1 b rs1 s1 h1=>by
  cases b with
  | true=>exact Ws (ha M0 F1 Γ1 ν σ H1 Q rs1 hs h1)
  | false=>exact Wr (hb M0 F1 Γ1 ν σ H1 Q rs1 hs h1))
noncomputable def fChain (g g':PyData->PyData->Option Bool) (fa fb fc:EM FV):EM Bool:=fun Γ=>(fa Γ).bind fun (u,Γ1)=>(fb Γ1).bind fun (w,Γ2)=>match derf Γ2 u,derf Γ2 w with
 | some x,some y=>match g x y with
  | some true=>(fc Γ2).bind fun (t,Γ3)=>match derf Γ3 w,derf Γ3 t with
   | some y,some z=>match g' y z with
    | some k=>.ok (k,Γ3)
    | none=>.bad
   | _,_=>.bad
  | some false=>.ok (false,Γ2)
  | none=>.bad
 | _,_=>.bad
theorem R.bind_assoc {α β γ:Type}(r:R α) (f:α->R β) (g:β->R γ):(r.bind f).bind g=r.bind fun a=>(f a).bind g:=by cases r <;> rfl
section
variable {M0:Addr->Prop} {F:Fp} {Γ:Gv} {ν:Nu} {σ:St} {H:Hp} {β:Type} {P:Fp->Gv->Hp->β->Prop}
theorem wz {g g':PyData->PyData->Option Bool}{k:Bool×Gv->R (β×Gv)}{Q:VK}(ha:SE X XP mp a fa) (hb:SE X XP mp b fb) (hc:SE X XP mp c fc) (rs:RS M0 F Γ ν H) (hs:Sees mp ν σ) (hp:EPost M0 F ν σ H XP P ((fChain g g' fa fb fc Γ).bind k))
  (kk:∀ F2 Γ2 H2 z,RS M0 F2 Γ2 ν H2->EPost M0 F2 ν σ H2 XP P (k (z,Γ2))->Q (.bl z) H2) :
  VC (fun v u H Q=>∃ x y z,g x y=some z/\Rep zA H v x/\Rep zA H u y/\Q (.bl z) H) (fun v u H Q=>∃ x y z,g' x y=some z/\Rep zA H v x/\Rep zA H u y/\Q (.bl z) H) (wpE X a) (wpE X b) (wpE X c) σ H Q:=by
 unfold fChain at hp
 rw[R.bind_assoc] at hp
 refine ha.run rs hs hp fun F1 Γ1 H1 u v rs1 s1 o1 h1=>?_
 dsimp only at h1
 rw[R.bind_assoc] at h1
 refine hb.run rs1 hs h1 fun F2 Γ2 H2 w v2 rs2 s2 o2 h2=>?_
 dsimp only at h2
 split at h2
 ·rename_i x y e1 e2
  split at h2
  ·rename_i e3
   refine⟨x,y,true,e3,(o1.stp s2 rs1.al0).weak rs2 e1,o2.weak rs2 e2,true,rfl,Ws ?_⟩
   rw[R.bind_assoc] at h2
   refine hc.run rs2 hs h2 fun F3 Γ3 H3 t v3 rs3 s3 o3 h3=>?_
   dsimp only at h3
   split at h3
   ·rename_i y' z e4 e5
    split at h3
    ·rename_i kz e6
     exact⟨y',z,kz,e6,(o2.stp s3 rs2.al0).weak rs3 e4,o3.weak rs3 e5,kk F3 Γ3 H3 kz rs3 h3⟩
    ·exact h3.elim
   ·exact h3.elim
  ·rename_i e3
   exact⟨x,y,false,e3,(o1.stp s2 rs1.al0).weak rs2 e1,o2.weak rs2 e2,false,rfl,Wr (kk F2 Γ2 H2 false rs2 h2)⟩
  ·exact h2.elim
 ·exact h2.elim
end
theorem Kv {op op':CmpOp}{g g':PyData->PyData->Option Bool}(ho:WO X op g) (ho':WO X op' g') (ha:SE X XP mp a fa) (hb:SE X XP mp b fb) (hc:SE X XP mp c fc) (hm:lastMarks [op,op'] [b,c]=false) :
  SE X XP mp (.Compare a [op,op'] [b,c] pos) (fB (fChain g g' fa fb fc)):=fun M0 F Γ ν σ H Q rs hs hp=>
 (kX (jV ho) (jV ho') zi zi zi hm).wp (wz ha hb hc rs hs hp fun F2 Γ2 H2 z rs2 h2=>h2 F2 H2 rs2 (.refl _ _) _ (Rep.bool z))
theorem KK {op op':CmpOp}{g g':PyData->PyData->Option Bool}(ho:WO X op g) (ho':WO X op' g') (ha:SE X XP mp a fa) (hb:SE X XP mp b fb) (hc:SE X XP mp c fc) (hm:lastMarks [op,op'] [b,c]=false) :
  ST X XP mp (.Compare a [op,op'] [b,c] pos) (fChain g g' fa fb fc):=fun M0 F Γ ν σ H Q rs hs hp=>
 (Kj (jV ho) (jV ho') zi zi zi hm).wp (wz (k:=.ok) (Q:=fun v H'=>∃ k,v=.bl k/\Q k H') ha hb hc rs hs (by rw[R.bind_ok]; exact hp) fun F2 Γ2 H2 z rs2 h2=>⟨z,rfl,h2 F2 H2 rs2 (.refl _ _)⟩)
inductive FOks (M0:Addr->Prop) (F:Fp) (ν:Nu) (H:Hp):List V->List FV->Prop
 | nil:FOks M0 F ν H [] []
 | cons {v:V} {vs:List V} {u:FV} {us:List FV}:FOk M0 F ν H v u->FOks M0 F ν H vs us->FOks M0 F ν H (v::vs) (u::us)
noncomputable def derSs (Γ:Gv):List FV->Option (List PyData)
 | []=>some []
 | u::us=>match derS Γ u,derSs Γ us with
  | some x,some xs=>some (x::xs)
  | _,_=>none
theorem FOks.strong {M0:Addr->Prop}{F:Fp}{Γ:Gv}{ν:Nu}{H:Hp}(rs:RS M0 F Γ ν H):∀ {vs:List V}{us:List FV}{ds:List PyData},FOks M0 F ν H vs us->derSs Γ us=some ds->RepL (MM M0 F) H vs ds
 | _,_,_,.nil,e=>by cases e; exact .nil
 | _,_,_,.cons h t,e=>by
  unfold derSs at e
  split at e
  ·rename_i e1 e2
   cases e
   exact .cons (h.strong rs e1) (FOks.strong rs t e2)
  ·cases e
theorem FOks.length {M0:Addr->Prop}{F:Fp}{ν:Nu}{H:Hp}:∀ {vs:List V}{us:List FV},FOks M0 F ν H vs us->vs.length=us.length
 | _,_,.nil=>rfl
 | _,_,.cons _ t=>by rw[List.length_cons,List.length_cons,FOks.length t]
noncomputable def SL (X:Cx) (XP:XPT) (mp:List Nat) (es:List Expr) (f:EM (List FV)):Prop:=∀ (M0:Addr->Prop) (F:Fp) (Γ:Gv) (ν:Nu) (σ:St) (H:Hp) (Q:List V->Hp->Prop),RS M0 F Γ ν H->Sees mp ν σ ->
 EPost M0 F ν σ H XP (fun F' Γ' H' us=>∀ vs,FOks M0 F' ν H' vs us->Q vs H') (f Γ)->wpA X es σ H Q
theorem SL.run {β:Type}{M0:Addr->Prop}{F:Fp}{Γ:Gv}{ν:Nu}{σ:St}{H:Hp}{P:Fp->Gv->Hp->β->Prop}{fl:EM (List FV)}{Q:List V->Hp->Prop}{k:List FV×Gv->R (β×Gv)}(ha:SL X XP mp es fl) (rs:RS M0 F Γ ν H) (hs:Sees mp ν σ) (h:EPost M0 F ν σ H XP P ((fl Γ).bind k))
  (kk:∀ F1 Γ1 H1 us vs,RS M0 F1 Γ1 ν H1->Stp F H F1 H1->FOks M0 F1 ν H1 vs us->EPost M0 F1 ν σ H1 XP P (k (us,Γ1))->Q vs H1):wpA X es σ H Q :=
 ha M0 F Γ ν σ H Q rs hs (h.seq.mono fun F1 Γ1 H1 u rs1 s1 h1 v hv=>kk F1 Γ1 H1 u v rs1 s1 hv h1)
noncomputable def fNil:EM (List FV):=fun Γ=>.ok ([],Γ)
noncomputable def fCons (fa:EM FV) (fl:EM (List FV)):EM (List FV):=fun Γ=>(fa Γ).bind fun (u,Γ1)=>(fl Γ1).bind fun (us,Γ2)=>.ok (u::us,Γ2)
theorem zdQ:SL X XP mp [] fNil:=fun M0 F Γ ν σ H Q rs hs hp=>pa_nil.wp (hp F H rs (.refl _ _) [] .nil)
theorem zby {fl:EM (List FV)}(ha:SE X XP mp a fa) (hl:SL X XP mp es fl) (hst:starEach (a::es) X.env=(false,eval a X.env)::starEach es X.env):SL X XP mp (a::es) (fCons fa fl):=fun M0 F Γ ν σ H Q rs hs hp=>
 (zo zi qR hst).wp (ha.run rs hs hp fun F1 Γ1 H1 u v rs1 s1 o1 h1=>hl.run rs1 hs h1 fun F2 Γ2 H2 us vs rs2 s2 o2 h2=>h2 F2 H2 rs2 (.refl _ _) _ (.cons (o1.stp s2 rs1.al0) o2))
theorem sz6 {n:Nat}(h:n<=1000000):n<=sizeLine:=by have:=sizeLine_eq; omega
noncomputable def fTup (fl:EM (List FV)):EM FV:=fun Γ=>(fl Γ).bind fun (us,Γ1)=>match derSs Γ1 us with
 | some ds=>if us.length<=1000000 then .ok (.dat (.tuple ds),Γ1) else .bad
 | none=>.bad
noncomputable def fLst (fl:EM (List FV)):EM (List PyData):=fun Γ=>(fl Γ).bind fun (us,Γ1)=>match derSs Γ1 us with
 | some ds=>if us.length<=1000000 then .ok (ds,Γ1) else .bad
 | none=>.bad
theorem zdI {fl:EM (List FV)} {x1}(h:SL X XP mp es fl):SE X XP mp (.Tuple es x1 pos) (fTup fl):=fun M0 F Γ ν σ H Q rs hs hp=>
 (Vs qR).wp (h.run rs hs hp fun F1 Γ1 H1 us vs rs1 s1 o1 h1=>by
  dsimp only at h1
  split at h1
  ·rename_i ds e
   split at h1
   ·rename_i hz
    exact⟨by rw[o1.length]; exact sz6 hz,fun p n=>h1 F1 _ (rs1.same (zw n)) (.same (zw n)) _ (Rep.tuple zj ((o1.strong rs1 e).grow (zw n).grow))⟩
   ·exact h1.elim
  ·exact h1.elim)
theorem zdU {fl:EM (List FV)}(h:SL X XP mp es fl):SN X XP mp (.List es pos) (fLst fl):=fun M0 F Γ ν σ H Q rs hs hp=>
 (k7 qR).wp (h.run rs hs hp fun F1 Γ1 H1 us vs rs1 s1 o1 h1=>by
  dsimp only at h1
  split at h1
  ·rename_i ds e
   split at h1
   ·rename_i hz
    exact⟨by rw[o1.length]; exact sz6 hz,fun p n=>h1 F1 H1 rs1 (.refl _ _) vs p (o1.strong rs1 e) n⟩
   ·exact h1.elim
  ·exact h1.elim)
noncomputable def itemF (Γ:Gv) (u:FV) (i:Int):Option PyData:=match u with
 | .dat (.list xs)=>atI xs i
 | .dat (.tuple xs)=>atI xs i
 | .own k=>match Γ[k]? with
  | some (some (.l xs))=>match atI xs i with
   | some (.d x)=>some x
   | _=>none
  | some (some (.d (.list xs)))=>atI xs i
  | _=>none
 | _=>none
theorem zar {α:Type}{xs:List α}{i:Int}{x:α}(h:atI xs i=some x):∃ j,ixN xs.length i=some j/\xs[j]?=some x:=by
 unfold atI at h
 cases e:ixN xs.length i with
 | none=>rw[e] at h; cases h
 | some j=>rw[e] at h; exact⟨j,rfl,h⟩
theorem zcz {α:Type}{xs:List α}{i:Int}{x:α}{j:Nat}(h:ixN xs.length i=some j) (h2:xs[j]?=some x):atI xs i=some x:=by
 unfold atI; rw[h]; exact h2
theorem FOk.item {M0:Addr->Prop}{F:Fp}{Γ:Gv}{ν:Nu}{H:Hp}{v:V}{u:FV}{i:Int}{x:PyData}{K:PySem.W.Frag}(h:FOk M0 F ν H v u) (rs:RS M0 F Γ ν H) (e:itemF Γ u i=some x) :
  ∃ l vs w,v=.ref l/\(SqL K H l vs∨SqT K H l vs)/\atI vs i=some w/\Rep (MM M0 F) H w x:=by
 unfold itemF at e
 split at e
 ·obtain⟨a,vs,rfl,e1,_,r⟩:=Rep.lst_inv h
  obtain⟨w,ew,rw'⟩:=Wb r e
  exact⟨a,vs,w,rfl,.inl (SqL.of e1),ew,rw'⟩
 ·obtain⟨a,vs,rfl,e1,r⟩:=Rep.tup_inv h
  obtain⟨w,ew,rw'⟩:=Wb r e
  exact⟨a,vs,w,rfl,.inr (SqT.of e1),ew,rw'⟩
 ·rename_i k
  have h':ν[k]?=some (some v):=h
  split at e
  ·rename_i q
   split at e
   ·rename_i y eo
    cases e
    obtain⟨w,e1,r⟩:=rs.at' k _ q
    rw[h'] at e1; cases e1
    generalize F k=A at r
    cases r with
    | l ea qa=>
     obtain⟨j,ej,exj⟩:=zar eo
     obtain⟨w,ew,r⟩:=qa.get exj
     rw[<- qa.length] at ej
     exact⟨_,_,w,rfl,.inl (SqL.of ea),zcz ej ew,r⟩
   ·cases e
  ·rename_i q
   obtain⟨w,e1,r⟩:=rs.at' k _ q
   rw[h'] at e1; cases e1
   generalize F k=A at r
   cases r with
   | d r=>
    obtain⟨a,vs,rfl,e1,_,r⟩:=Rep.lst_inv r
    obtain⟨w,ew,rw'⟩:=Wb r e
    exact⟨a,vs,w,rfl,.inl (SqL.of e1),ew,rw'⟩
  ·cases e
 ·cases e
noncomputable def fIx (fa fb:EM FV):EM FV:=fun Γ=>(fa Γ).bind fun (u,Γ1)=>(fb Γ1).bind fun (w,Γ2)=>match derf Γ2 w with
 | some (.int i)=>match itemF Γ2 u i with
  | some x=>.ok (.dat x,Γ2)
  | none=>.bad
 | _=>.bad
theorem ze0 (ha:SE X XP mp a fa) (hb:SE X XP mp b fb) (hx:w6 b):SE X XP mp (.Subscript a b pos) (fIx fa fb):=fun M0 F Γ ν σ H Q rs hs hp=>
 (yb (ix_list.or Wt) zi zi hx).wp (ha.run rs hs hp fun F1 Γ1 H1 u v rs1 s1 o1 h1=>hb.run rs1 hs h1 fun F2 Γ2 H2 w v2 rs2 s2 o2 h2=>by
  dsimp only at h2
  split at h2
  ·rename_i i e1
   split at h2
   ·rename_i x e2
    obtain⟨l,vs,z,rfl,hq,ez,rz⟩:=(o1.stp s2 rs1.al0).item (K:=X.K) rs2 e2
    cases o2.weak rs2 e1
    rcases hq with hq | hq
    ·exact .inl ⟨l,vs,i,z,rfl,rfl,hq,ez,h2 F2 H2 rs2 (.refl _ _) z rz⟩
    ·exact .inr ⟨l,vs,i,z,rfl,rfl,hq,ez,h2 F2 H2 rs2 (.refl _ _) z rz⟩
   ·exact h2.elim
  ·exact h2.elim)
noncomputable def j6 {α:Type}(xs:List α) (lo hi:Option Int):List α:=(xs.drop (HT.sIx xs.length 0 lo)).take (HT.sIx xs.length xs.length hi-HT.sIx xs.length 0 lo)
theorem vB {M:Addr->Prop}{H:Hp}{vs:List V}{ds:List PyData}(r:RepL M H vs ds) (lo hi:Option Int):RepL M H (Zg vs lo hi) (j6 ds lo hi):=by
 unfold Zg j6
 rw[r.length]
 exact (r.drop _).take _
noncomputable def SOp (X:Cx) (XP:XPT) (mp:List Nat) (e:Option Expr) (f:EM (Option Int)):Prop:=∃ t:TO,PO X e t/\∀ (M0:Addr->Prop) (F:Fp) (Γ:Gv) (ν:Nu) (σ:St) (H:Hp) (Q:Option Int->Hp->Prop),RS M0 F Γ ν H->Sees mp ν σ ->
 EPost M0 F ν σ H XP (fun F' Γ' H' b=>Q b H') (f Γ)->t σ H Q
noncomputable def Y9:EM (Option Int):=fun Γ=>.ok (none,Γ)
noncomputable def Vk (fa:EM FV):EM (Option Int):=fun Γ=>(fa Γ).bind fun (u,Γ1)=>match derf Γ1 u with
 | some (.int i)=>.ok (some i,Γ1)
 | _=>.bad
theorem zbF:SOp X XP mp none Y9:=⟨_,Wz,fun M0 F Γ ν σ H Q rs hs hp=>hp F H rs (.refl _ _)⟩
theorem yi (ha:SE X XP mp a fa):SOp X XP mp (some a) (Vk fa):=⟨_,WA zi,fun M0 F Γ ν σ H Q rs hs hp=>ha.run rs hs hp fun F1 Γ1 H1 u v rs1 s1 o1 h1=>by
 dsimp only at h1
 split at h1
 ·rename_i i e1
  cases o1.weak rs1 e1
  exact⟨i,rfl,h1 F1 H1 rs1 (.refl _ _)⟩
 ·exact h1.elim⟩
noncomputable def zaL (fa:EM FV) (fl fh:EM (Option Int)):EM (List PyData):=fun Γ=>(fa Γ).bind fun (u,Γ1)=>(fl Γ1).bind fun (lo,Γ2)=>(fh Γ2).bind fun (hi,Γ3)=>match derL Γ3 u with
 | some ds=>.ok (j6 ds lo hi,Γ3)
 | none=>.bad
theorem zdT {lo hi:Option Expr}{fl fh:EM (Option Int)}(ha:SE X XP mp a fa) (hl:SOp X XP mp lo fl) (hh:SOp X XP mp hi fh):SN X XP mp (.Subscript a (.Slice lo hi none p2) pos) (zaL fa fl fh):=fun M0 F Γ ν σ H Q rs hs hp=>by
 obtain⟨tl,pl,kl⟩:=hl
 obtain⟨th,ph,kh⟩:=hh
 refine (ZD WC zi pl ph).wp (ha.run rs hs hp fun F1 Γ1 H1 u v rs1 s1 o1 h1=>?_)
 refine kl M0 F1 Γ1 ν σ H1 _ rs1 hs (h1.seq.mono fun F2 Γ2 H2 lo rs2 s2 h2=>?_)
 refine kh M0 F2 Γ2 ν σ H2 _ rs2 hs (h2.seq.mono fun F3 Γ3 H3 hi rs3 s3 h3=>?_)
 dsimp only at h3
 split at h3
 ·rename_i ds e
  obtain⟨l,vs,rfl,el,rl⟩:=((o1.stp s2 rs1.al0).stp s3 rs2.al0).list rs3 e
  exact⟨l,vs,rfl,SqL.of el,fun p n=>h3 F3 H3 rs3 (.refl _ _) _ p (vB rl lo hi) n⟩
 ·exact h3.elim
noncomputable def zaK (fa fb:EM FV):EM (List PyData):=fun Γ=>(fa Γ).bind fun (u,Γ1)=>(fb Γ1).bind fun (w,Γ2)=>match derL Γ2 u,derL Γ2 w with
 | some xs,some ys=>if xs.length+ys.length<=1000000 then .ok (xs++ys,Γ2) else .bad
 | _,_=>.bad
theorem zdS (ha:SE X XP mp a fa) (hb:SE X XP mp b fb):SN X XP mp (.BinOp a .Add b pos) (zaK fa fb):=fun M0 F Γ ν σ H Q rs hs hp=>
 (wK zdd zi zi).wp (ha.run rs hs hp fun F1 Γ1 H1 u v rs1 s1 o1 h1=>hb.run rs1 hs h1 fun F2 Γ2 H2 w v2 rs2 s2 o2 h2=>by
  dsimp only at h2
  split at h2
  ·rename_i xs ys e1 e2
   split at h2
   ·rename_i hz
    obtain⟨l,vs,rfl,el,rl⟩:=(o1.stp s2 rs1.al0).list rs2 e1
    obtain⟨l2,vs2,rfl,el2,rl2⟩:=o2.list rs2 e2
    exact⟨l,l2,vs,vs2,rfl,rfl,el,el2,by rw[rl.length,rl2.length]; exact sz6 hz,fun p n=>h2 F2 H2 rs2 (.refl _ _) _ p (rl.append rl2) n⟩
   ·exact h2.elim
  ·exact h2.elim)
structure BiK (X:Cx) (x:Str) (val:Value):Prop where
 gl:Gl X x
 mg:X.mg x=none
 bt:bootBuiltins x=some val
 n:x≠ "__name__"
 d:(x==("__debug__" :Str))=false
noncomputable def lenD:PyData->Option Nat
 | .list xs=>some xs.length
 | .tuple xs=>some xs.length
 | _=>none
noncomputable def f1 (g:PyData->Option PyData) (fa:EM FV):EM FV:=fun Γ=>(fa Γ).bind fun (u,Γ1)=>match (derf Γ1 u).bind g with
 | some y=>.ok (.dat y,Γ1)
 | none=>.bad
noncomputable def Jk (X:Cx) (f:Value) (g:PyData->Option PyData):Prop:=∀ x z,g x=some z->noL z=true/\∃ r,qB X f r/\∀ (H:Hp) (v:V) (Q:VK),
 Rep zA H v x->(∀ w,Rep zA H w z->Q w H)->r [v] H Q
theorem WV {f:Value}{g:PyData->Option PyData}(ho:Jk X f g):qB X f (fun vs H Q=>∃ v x z,vs= [v]/\g x=some z/\Rep zA H v x/\∀ w,Rep zA H w z->Q w H):=by
 rintro pins s σ H xs us Q I r ⟨v,x,z,rfl,e,rv,k⟩
 obtain⟨_,r',hr,hh⟩:=ho x z e
 exact hr pins s σ H [v] us Q I r (hh H v Q rv k)
theorem Y6 {M0:Addr->Prop}{F:Fp}{Γ:Gv}{ν:Nu}{σ:St}{H:Hp}{g:PyData->Option PyData}{Q:VK}(hz:∀ x z,g x=some z->noL z=true) (ha:SE X XP mp a fa) (rs:RS M0 F Γ ν H) (hs:Sees mp ν σ) (hst:starEach [a] X.env= [(false,eval a X.env)])
  (hp:EPost M0 F ν σ H XP (fun F' Γ' H' u=>∀ v,FOk M0 F' ν H' v u->Q v H') (f1 g fa Γ)):wpA X [a] σ H fun vs H1=>∃ v x z,vs= [v]/\g x=some z/\Rep zA H1 v x/\∀ w,Rep zA H1 w z->Q w H1 :=
 (zo zi pa_nil hst).wp (ha.run rs hs hp fun F1 Γ1 H1 u v rs1 s1 o1 h1=>by
  dsimp only at h1
  split at h1
  ·rename_i y ey
   cases ex:derf Γ1 u with
   | none=>rw[ex] at ey; cases ey
   | some x=>
    rw[ex] at ey
    exact⟨v,x,y,rfl,ey,o1.weak rs1 ex,fun w rw'=>h1 F1 H1 rs1 (.refl _ _) w (Rep.free (hz x y ey) rw')⟩
  ·exact h1.elim)
theorem Ku {x:Str}{id:String}{g:PyData->Option PyData}(ho:Jk X (.builtin id) g) (B:BiK X x (.builtin id)) (ha:SE X XP mp a fa) (hst:starEach [a] X.env= [(false,eval a X.env)]):SE X XP mp (.Call (.Name x p) [a] [] pos) (f1 g fa):=fun M0 F Γ ν σ H Q rs hs hp=>
 (ZC (WV ho) B.gl B.mg B.bt qR B.n B.d hst rfl).wp (Y6 (fun x z e=>(ho x z e).1) ha rs hs hst hp)
theorem ze1 {x:Str}{id:String}{g:PyData->Option PyData}(ho:Jk X (.type id) g) (B:BiK X x (.type id)) (ha:SE X XP mp a fa) (hst:starEach [a] X.env= [(false,eval a X.env)]):SE X XP mp (.Call (.Name x p) [a] [] pos) (f1 g fa):=fun M0 F Γ ν σ H Q rs hs hp=>
 (qz (WV ho) B.gl B.mg B.bt qR B.n B.d hst rfl).wp (Y6 (fun x z e=>(ho x z e).1) ha rs hs hst hp)
noncomputable def gLen (x:PyData):Option PyData:=(lenD x).map fun n=>.int n
theorem zcS:Jk X (.builtin "len") gLen:=fun x z e=>by
 cases x with
 | list xs=>cases e; exact⟨rfl,_,Zw,fun H v Q r k=>by
   obtain⟨l,vs,rfl,el,_,rl⟩:=r.lst_inv
   exact⟨l,vs,rfl,.inl (SqL.of el),by rw[rl.length]; exact k _ (.int _)⟩⟩
 | tuple xs=>cases e; exact⟨rfl,_,Zw,fun H v Q r k=>by
   obtain⟨l,vs,rfl,el,rl⟩:=r.tup_inv
   exact⟨l,vs,rfl,.inr (SqT.of el),by rw[rl.length]; exact k _ (.int _)⟩⟩
 | _=>cases e
noncomputable def gInt:PyData->Option PyData
 | .int i=>some (.int i)
 | .bool b=>some (.int (if b then 1 else 0))
 | _=>none
theorem zcR:Jk X (.type "int") gInt:=fun x z e=>by
 cases x with
 | int i=>cases e; exact⟨rfl,_,wy,fun H v Q r k=>by cases r; exact .inl ⟨i,rfl,k _ (.int _)⟩⟩
 | bool b=>cases e; exact⟨rfl,_,wy,fun H v Q r k=>by cases r; exact .inr ⟨b,rfl,k _ (.int _)⟩⟩
 | _=>cases e
noncomputable def zR:List PyData->Option (List Bool)
 | []=>some []
 | .bool b::r=>(zR r).map (b::·)
 | _=>none
theorem qQ (bs:List Bool):zR (bs.map .bool)=some bs:=by
 induction bs with
 | nil=>rfl
 | cons b r ih=>simp[zR,ih]
theorem Ze:∀ {ds:List PyData}{bs:List Bool},zR ds=some bs->ds=bs.map .bool
 | [],bs,e=>by cases e; rfl
 | .bool b::r,bs,e=>by
  unfold zR at e
  cases q:zR r with
  | none=>rw[q] at e; cases e
  | some l=>rw[q] at e; cases e; rw[Ze q]; rfl
 | .none::r,bs,e=>by cases e
 | .int _::r,bs,e=>by cases e
 | .str _::r,bs,e=>by cases e
 | .list _::r,bs,e=>by cases e
 | .tuple _::r,bs,e=>by cases e
 | .dict _::r,bs,e=>by cases e
noncomputable def gAll:PyData->Option PyData
 | .list xs=>(zR xs).map fun bs=>.bool (bs.all id)
 | _=>none
noncomputable def gAny:PyData->Option PyData
 | .list xs=>(zR xs).map fun bs=>.bool (bs.any id)
 | _=>none
theorem zcP (hc:X.calm=true):Jk X (.builtin "all") gAll:=fun x z e=>by
 cases x with
 | list xs=>
  dsimp only [gAll] at e
  cases q:zR xs with
  | none=>rw[q] at e; cases e
  | some bs=>
   rw[q] at e; cases e
   exact⟨rfl,_,yK hc,fun H v Q r k=>by
    obtain⟨l,vs,rfl,el,_,rl⟩:=r.lst_inv
    rw[Ze q] at rl
    rw[rl.bls] at el
    exact⟨l,bs,rfl,SqL.of el,k _ (.bool _)⟩⟩
 | _=>cases e
theorem zcQ (hc:X.calm=true):Jk X (.builtin "any") gAny:=fun x z e=>by
 cases x with
 | list xs=>
  dsimp only [gAny] at e
  cases q:zR xs with
  | none=>rw[q] at e; cases e
  | some bs=>
   rw[q] at e; cases e
   exact⟨rfl,_,yL hc,fun H v Q r k=>by
    obtain⟨l,vs,rfl,el,_,rl⟩:=r.lst_inv
    rw[Ze q] at rl
    rw[rl.bls] at el
    exact⟨l,bs,rfl,SqL.of el,k _ (.bool _)⟩⟩
 | _=>cases e
noncomputable def z9 (Γ:Gv) (u:FV):Option (List PyData):=match u with
 | .dat (.tuple xs)=>some xs
 | u=>derL Γ u
theorem FOk.seq {M0:Addr->Prop}{F:Fp}{Γ:Gv}{ν:Nu}{H:Hp}{v:V}{u:FV}{ds:List PyData}{K:PySem.W.Frag}(h:FOk M0 F ν H v u) (rs:RS M0 F Γ ν H) (e:z9 Γ u=some ds) :
  ∃ l vs,v=.ref l/\(SqL K H l vs∨SqT K H l vs)/\RepL (MM M0 F) H vs ds:=by
 unfold z9 at e
 split at e
 ·cases e
  obtain⟨a,vs,rfl,e1,r⟩:=Rep.tup_inv h
  exact⟨a,vs,rfl,.inr (SqT.of e1),r⟩
 ·obtain⟨a,vs,rfl,e1,r⟩:=h.list rs e
  exact⟨a,vs,rfl,.inl (SqL.of e1),r⟩
noncomputable def fListC (fa:EM FV):EM (List PyData):=fun Γ=>(fa Γ).bind fun (u,Γ1)=>match z9 Γ1 u with
 | some ds=>.ok (ds,Γ1)
 | none=>.bad
theorem zbB {x:Str}(B:BiK X x (.type "list")) (ha:SE X XP mp a fa) (hst:starEach [a] X.env= [(false,eval a X.env)]):SN X XP mp (.Call (.Name x p) [a] [] pos) (fListC fa):=fun M0 F Γ ν σ H Q rs hs hp=>
 (qz Zx B.gl B.mg B.bt (zo zi pa_nil hst) B.n B.d hst rfl).wp (ha.run rs hs hp fun F1 Γ1 H1 u v rs1 s1 o1 h1=>by
  dsimp only at h1
  split at h1
  ·rename_i ds e
   obtain⟨l,vs,rfl,hq,r⟩:=o1.seq (K:=X.K) rs1 e
   exact⟨l,vs,rfl,hq,fun p n=>h1 F1 H1 rs1 (.refl _ _) vs p r n⟩
  ·exact h1.elim)
noncomputable def fTupC (fa:EM FV):EM FV:=fun Γ=>(fa Γ).bind fun (u,Γ1)=>match derL Γ1 u with
 | some ds=>.ok (.dat (.tuple ds),Γ1)
 | none=>.bad
theorem Kx {x:Str}(B:BiK X x (.type "tuple")) (ha:SE X XP mp a fa) (hst:starEach [a] X.env= [(false,eval a X.env)]):SE X XP mp (.Call (.Name x p) [a] [] pos) (fTupC fa):=fun M0 F Γ ν σ H Q rs hs hp=>
 (qz J1 B.gl B.mg B.bt (zo zi pa_nil hst) B.n B.d hst rfl).wp (ha.run rs hs hp fun F1 Γ1 H1 u v rs1 s1 o1 h1=>by
  dsimp only at h1
  split at h1
  ·rename_i ds e
   obtain⟨l,vs,rfl,el,r⟩:=o1.list rs1 e
   exact⟨l,vs,rfl,.inl ⟨SqL.of el,fun p n=>h1 F1 _ (rs1.same (zw n)) (.same (zw n)) _ (Rep.tuple zj (r.grow (zw n).grow))⟩⟩
  ·exact h1.elim)
noncomputable def isiB (a T:String):Option Bool:=if (T= "int" ∨T= "bool" ∨T= "list" ∨T= "tuple" ∨T= "str")/\¬ a= "dict" then some (a==T||(a== "bool" &&T== "int")) else none
theorem zc1 {K:PySem.W.Frag}{x:PyData}{T:String}{k:Bool}(h:isiB (tyD x) T=some k):PySem.W.kitOne K (.type (tyD x)) (.type T)=some k:=by
 unfold isiB at h
 split at h
 ·rename_i hT
  cases h
  rcases hT.1 with rfl | rfl | rfl | rfl | rfl <;> cases x <;> kernel_rfl
 ·cases h
theorem zc0 {x:PyData}{T:String}{k:Bool}(h:isiB (tyD x) T=some k):tyD x≠ "dict" :=by
 unfold isiB at h
 split at h
 ·rename_i hT; exact hT.2
 ·cases h
noncomputable def fIsi (T:String) (fa:EM FV):EM FV:=fun Γ=>(fa Γ).bind fun (u,Γ1)=>match (derf Γ1 u).bind fun x=>isiB (tyD x) T with
 | some k=>.ok (.dat (.bool k),Γ1)
 | none=>.bad
theorem JO {x y:Str}{T:String}(B:BiK X x (.builtin "isinstance")) (BT:BiK X y (.type T)) (ha:SE X XP mp a fa) (hst:starEach [a,.Name y p2] X.env=(false,eval a X.env)::starEach [.Name y p2] X.env) :
  SE X XP mp (.Call (.Name x p) [a,.Name y p2] [] pos) (fIsi T fa):=fun M0 F Γ ν σ H Q rs hs hp=>
 (ZC YV B.gl B.mg B.bt (zo zi (zo (za3 (v:=.ty T) BT.gl BT.mg BT.bt rfl BT.n BT.d) pa_nil rfl) hst) B.n B.d hst rfl).wp (ha.run rs hs hp fun F1 Γ1 H1 u v rs1 s1 o1 h1=>by
  dsimp only at h1
  split at h1
  ·rename_i k ek
   cases ex:derf Γ1 u with
   | none=>rw[ex] at ek; cases ek
   | some z=>
    rw[ex] at ek
    exact⟨v,T,_,k,rfl,(o1.weak rs1 ex).ty (zc0 ek),zc1 ek,h1 F1 H1 rs1 (.refl _ _) _ (Rep.bool k)⟩
  ·exact h1.elim)
noncomputable def f2 (g:PyData->PyData->Option PyData) (fa fb:EM FV):EM FV:=fun Γ=>(fa Γ).bind fun (u,Γ1)=>(fb Γ1).bind fun (w,Γ2)=>match derf Γ2 u,derf Γ2 w with
 | some x,some y=>match g x y with
  | some z=>.ok (.dat z,Γ2)
  | none=>.bad
 | _,_=>.bad
noncomputable def gMin:PyData->PyData->Option PyData
 | .int i,.int j=>some (.int (if j<i then j else i))
 | _,_=>none
noncomputable def gMax:PyData->PyData->Option PyData
 | .int i,.int j=>some (.int (if j>i then j else i))
 | _,_=>none
theorem kq {x y z:PyData}(h:gMin x y=some z):∃ i j,x=.int i/\y=.int j/\z=.int (if j<i then j else i):=by
 cases x <;> cases y <;> cases h
 exact⟨_,_,rfl,rfl,rfl⟩
theorem ko {x y z:PyData}(h:gMax x y=some z):∃ i j,x=.int i/\y=.int j/\z=.int (if j>i then j else i):=by
 cases x <;> cases y <;> cases h
 exact⟨_,_,rfl,rfl,rfl⟩
theorem zbq {x:Str}(hc:X.calm=true) (B:BiK X x (.builtin "min")) (ha:SE X XP mp a fa) (hb:SE X XP mp b fb) (hst:starEach [a,b] X.env=(false,eval a X.env)::starEach [b] X.env) (hst2:starEach [b] X.env= [(false,eval b X.env)]) :
  SE X XP mp (.Call (.Name x p) [a,b] [] pos) (f2 gMin fa fb):=fun M0 F Γ ν σ H Q rs hs hp=>
 (ZC (yN hc) B.gl B.mg B.bt (zo zi (zo zi pa_nil hst2) hst) B.n B.d hst (by rw[hst2]; rfl)).wp (ha.run rs hs hp fun F1 Γ1 H1 u v rs1 s1 o1 h1=>hb.run rs1 hs h1 fun F2 Γ2 H2 w v2 rs2 s2 o2 h2=>by
  dsimp only at h2
  split at h2
  ·rename_i x y e1 e2
   split at h2
   ·rename_i z e3
    obtain⟨i,j,rfl,rfl,rfl⟩:=kq e3
    cases (o1.stp s2 rs1.al0).weak rs2 e1
    cases o2.weak rs2 e2
    exact⟨i,j,rfl,h2 F2 H2 rs2 (.refl _ _) _ (Rep.int _)⟩
   ·exact h2.elim
  ·exact h2.elim)
theorem zbp {x:Str}(hc:X.calm=true) (B:BiK X x (.builtin "max")) (ha:SE X XP mp a fa) (hb:SE X XP mp b fb) (hst:starEach [a,b] X.env=(false,eval a X.env)::starEach [b] X.env) (hst2:starEach [b] X.env= [(false,eval b X.env)]) :
  SE X XP mp (.Call (.Name x p) [a,b] [] pos) (f2 gMax fa fb):=fun M0 F Γ ν σ H Q rs hs hp=>
 (ZC (yM hc) B.gl B.mg B.bt (zo zi (zo zi pa_nil hst2) hst) B.n B.d hst (by rw[hst2]; rfl)).wp (ha.run rs hs hp fun F1 Γ1 H1 u v rs1 s1 o1 h1=>hb.run rs1 hs h1 fun F2 Γ2 H2 w v2 rs2 s2 o2 h2=>by
  dsimp only at h2
  split at h2
  ·rename_i x y e1 e2
   split at h2
   ·rename_i z e3
    obtain⟨i,j,rfl,rfl,rfl⟩:=ko e3
    cases (o1.stp s2 rs1.al0).weak rs2 e1
    cases o2.weak rs2 e2
    exact⟨i,j,rfl,h2 F2 H2 rs2 (.refl _ _) _ (Rep.int _)⟩
   ·exact h2.elim
  ·exact h2.elim)
noncomputable def gNeg:PyData->Option PyData
 | .int i=>some (.int (-i))
 | _=>none
theorem zdF (ha:SE X XP mp a fa):SE X XP mp (.UnaryOp .USub a pos) (f1 gNeg fa):=fun M0 F Γ ν σ H Q rs hs hp=>
 (zcj zed zi).wp (ha.run rs hs hp fun F1 Γ1 H1 u v rs1 s1 o1 h1=>by
  dsimp only at h1
  split at h1
  ·rename_i y ey
   cases ex:derf Γ1 u with
   | none=>rw[ex] at ey; cases ey
   | some x=>
    rw[ex] at ey
    cases x with
    | int i=>
     cases ey
     cases o1.weak rs1 ex
     exact⟨i,rfl,h1 F1 H1 rs1 (.refl _ _) _ (Rep.int _)⟩
    | _=>cases ey
  ·exact h1.elim)
open Classical in
noncomputable def binD (op:Operator) (x y:PyData):Option PyData:=match op,x,y with
 | .Add,.int i,.int j=>some (.int (i+j))
 | .Sub,.int i,.int j=>some (.int (i-j))
 | .Mult,.int i,.int j=>if (-(2 ^ 64)<i/\i<2 ^ 64)∨(-(2 ^ 64)<j/\j<2 ^ 64) then some (.int (i*j)) else none
 | .Mod,.int i,.int j=>if 0<j then some (.int (i % j)) else none
 | .FloorDiv,.int i,.int j=>if 0<j/\j<1073741824 then some (.int (i / j)) else none
 | .Pow,.int i,.int j=>if 0<=j/\j<=1000000/\i.natAbs<2 ^ 64 then some (.int (i ^ j.toNat)) else none
 | .LShift,.int i,.int j=>if 0<=j/\j<=1000000/\i.natAbs<2 ^ 64 then some (.int (i*2 ^ j.toNat)) else none
 | .RShift,.int i,.int j=>if 0<=j then some (.int (i / 2 ^ j.toNat)) else none
 | .BitAnd,.int i,.int j=>some (.int (Builtin.bitAnd i j))
 | .Add,.tuple a,.tuple b=>if a.length+b.length<=1000000 then some (.tuple (a++b)) else none
 | .Mult,.tuple a,.int n=>if 0<=n/\n<1000000/\a.length*n.toNat<=1000000 then some (.tuple (List.replicate n.toNat a).flatten) else none
 | _,_,_=>none
theorem jW {op:Operator}{x y z:PyData}{i j k:Int}{C:Int->Int->Prop}{f:Int->Int->Int}(hc:C i j) (ho:OpR X (binaryOp op) (rI C fun i j=>.int (f i j))) :
  ∃ r:R2,OpR X (binaryOp op) r/\∀ (M:Addr->Prop) (H:Hp) (v u:V) (Q:VK),Al M H->Rep M H v (.int i)->Rep M H u (.int j)->(∀ w H',Same H H'->Rep M H' w (.int (f i j))->Q w H')->r v u H Q :=
 ⟨_,ho,fun M H v u Q _ r1 r2 k=>by cases r1; cases r2; exact⟨i,j,rfl,rfl,hc,k _ H (Same.refl H) (.int _)⟩⟩
theorem Jv {op:Operator}{i j:Int}{f:Int->Int->Int}(ho:OpR X (binaryOp op) (rI0 fun i j=>.int (f i j))) :
  ∃ r:R2,OpR X (binaryOp op) r/\∀ (M:Addr->Prop) (H:Hp) (v u:V) (Q:VK),Al M H->Rep M H v (.int i)->Rep M H u (.int j)->(∀ w H',Same H H'->Rep M H' w (.int (f i j))->Q w H')->r v u H Q :=
 ⟨_,ho,fun M H v u Q _ r1 r2 k=>by cases r1; cases r2; exact⟨i,j,rfl,rfl,k _ H (Same.refl H) (.int _)⟩⟩
theorem zcB (op:Operator):OpS X (binaryOp op) (binD op):=fun x y z e=>by
 unfold binD at e
 split at e
 ·cases e; exact Jv Vq
 ·cases e; exact Jv zdi
 ·split at e
  ·rename_i h; cases e; exact jW (x:=.none) (y:=.none) (z:=.none) (k:=0) h kU
  ·cases e
 ·split at e
  ·rename_i h; cases e; exact jW (x:=.none) (y:=.none) (z:=.none) (k:=0) h kT
  ·cases e
 ·split at e
  ·rename_i h; cases e; exact jW (x:=.none) (y:=.none) (z:=.none) (k:=0) h za0
  ·cases e
 ·split at e
  ·rename_i h; cases e; exact jW (x:=.none) (y:=.none) (z:=.none) (k:=0) h zdf
  ·cases e
 ·split at e
  ·rename_i h; cases e; exact jW (x:=.none) (y:=.none) (z:=.none) (k:=0) h zdg
  ·cases e
 ·split at e
  ·rename_i h; cases e; exact jW (x:=.none) (y:=.none) (z:=.none) (k:=0) (C:=fun _ j=>0<=j) h zdh
  ·cases e
 ·cases e; exact Jv zdc
 ·split at e
  ·rename_i h
   cases e
   exact⟨_,kR,fun M H v u Q _ q1 q2 k=>by
    obtain⟨l,vs,rfl,e,r⟩:=q1.tup_inv
    obtain⟨l2,vs2,rfl,e2,r2⟩:=q2.tup_inv
    refine⟨l,l2,vs,vs2,rfl,rfl,SqT.of e,SqT.of e2,by rw[r.length,r2.length]; exact sz6 h,fun z=>k _ H (Same.refl H) ?_,fun z=>k _ H (Same.refl H) ?_,fun p np=>k _ _ (zw np) (.tuple zj ((r.append r2).grow (zw np).grow))⟩
    ·subst z
     cases r
     exact q2
    ·subst z
     cases r2
     rw[List.append_nil]; exact q1⟩
  ·cases e
 ·split at e
  ·rename_i h
   cases e
   exact⟨_,za2,fun M H v u Q _ q1 q2 k=>by
    obtain⟨l,vs,rfl,e,r⟩:=q1.tup_inv
    cases q2
    refine⟨l,_,vs,rfl,rfl,SqT.of e,by omega,by omega,by rw[r.length]; exact sz6 h.2.2,fun hs=>k _ H (Same.refl H) ?_,fun p np=>k _ _ (zw np) (.tuple zj ((r.rep _).grow (zw np).grow))⟩
    rcases hs with z | z
    ·subst z
     cases r
     rename_i n _
     have:(List.replicate n.toNat ([]:List PyData)).flatten= []:=by simp
     rw[this]; exact q1
    ·subst z
     have key:∀ l:List PyData,(List.replicate (1:Int).toNat l).flatten=l:=fun l=>by simp
     rw[key]; exact q1⟩
  ·cases e
 ·cases e
noncomputable def lay:Nat->PyData->Bool
 | _,.none=>true
 | _,.bool _=>true
 | _,.int _=>true
 | _,.str x=>PyData.strOk x
 | n+1,.list xs=>xs.all (lay n)
 | n+1,.tuple xs=>xs.all (lay n)
 | _,_=>false
theorem jn {n:Nat}(ih:∀ d,lay n d=true->d.canLay0=true/\d.depth<=n):∀ xs:List PyData,xs.all (lay n)=true->PyData.canLayAll0 xs=true/\PyData.depthAll xs<=n
 | [],_=>⟨rfl,Nat.zero_le _⟩
 | x::r,h=>by
  rw[List.all_cons,Bool.and_eq_true] at h
  obtain⟨a,b⟩:=ih x h.1
  obtain⟨c,d⟩:=jn ih r h.2
  exact⟨by simp[PyData.canLayAll0,a,c],by simp only[PyData.depthAll]; omega⟩
theorem zW:∀ (n:Nat) (d:PyData),lay n d=true->d.canLay0=true/\d.depth<=n
 | n,.none,_=>⟨rfl,Nat.zero_le _⟩
 | n,.bool _,_=>⟨rfl,Nat.zero_le _⟩
 | n,.int _,_=>⟨rfl,Nat.zero_le _⟩
 | n,.str _,h=>⟨by simpa [PyData.canLay0,lay] using h,Nat.zero_le _⟩
 | n+1,.list xs,h=>by
  obtain⟨a,b⟩:=jn (zW n) xs (by simpa [lay] using h)
  exact⟨by simpa [PyData.canLay0] using a,by simp only[PyData.depth]; omega⟩
 | n+1,.tuple xs,h=>by
  obtain⟨a,b⟩:=jn (zW n) xs (by simpa [lay] using h)
  exact⟨by simpa [PyData.canLay0] using a,by simp only[PyData.depth]; omega⟩
 | 0,.list _,h=>by simp[lay] at h
 | 0,.tuple _,h=>by simp[lay] at h
 | 0,.dict _,h=>by simp[lay] at h
 | n+1,.dict _,h=>by simp[lay] at h
noncomputable def isN:PyData->Bool
 | .none=>true
 | _=>false
noncomputable def inD (x:PyData) (ys:List PyData):Bool:=ys.any fun y=>PyData.eqv y x
noncomputable def cmpD (op:CmpOp) (x y:PyData):Option Bool:=match op,x,y with
 | .Eq,x,y=>if lay 20 x&&lay 20 y then some (PyData.eqv x y) else none
 | .NotEq,x,y=>if lay 20 x&&lay 20 y then some (!PyData.eqv x y) else none
 | .Lt,.int i,.int j=>some (decide (i<j))
 | .LtE,.int i,.int j=>some (decide (i<=j))
 | .Gt,.int i,.int j=>some (decide (j<i))
 | .GtE,.int i,.int j=>some (decide (j<=i))
 | .In,x,.list ys=>if lay 20 x&&ys.all (lay 20) then some (inD x ys) else none
 | .In,x,.tuple ys=>if lay 20 x&&ys.all (lay 20) then some (inD x ys) else none
 | .NotIn,x,.list ys=>if lay 20 x&&ys.all (lay 20) then some (!inD x ys) else none
 | .NotIn,x,.tuple ys=>if lay 20 x&&ys.all (lay 20) then some (!inD x ys) else none
 | .Is,x,.none=>some (isN x)
 | .IsNot,x,.none=>some (!isN x)
 | _,_,_=>none
end
end L3
namespace L3
open PySem PySem.Spec PyProof.Rows L2
variable [Cs]
section
variable {X:Cx}
open Classical in
/-- is the value w equal to the data? -/
noncomputable def eqW (h:Heap) (dx:PyData) (w:Value):Bool:=if ∃ d as,Reads h w d as/\d.canLay0=true/\PyData.eqv d dx=true then true else false
theorem Y4 {h:Heap}{dx d:PyData}{w:Value}{as:List Addr}(r:Reads h w d as) (hl:d.canLay0=true):eqW h dx w=PyData.eqv d dx:=by
 unfold eqW
 cases e:PyData.eqv d dx with
 | true=>rw[if_pos ⟨d,as,r,hl,e⟩]
 | false=>
  rw[if_neg]
  rintro⟨d',as',r',hl',e'⟩
  have:=SeqAt.Reads.unique d d' w as as' hl r r'
  rw[<- this,e] at e'; cases e'
theorem Zs {h:Heap}{dx:PyData}:∀ {us:List Value}{ys:List PyData}{as:List Addr},ReadsAll h us ys as->ys.all (lay 20)=true->us.any (eqW h dx)=inD dx ys
 | _,_,_,.nil,_=>rfl
 | _,_,_,.cons r t,hl=>by
  rw[List.all_cons,Bool.and_eq_true] at hl
  unfold inD
  rw[List.any_cons,List.any_cons,Y4 r (zW 20 _ hl.1).1,Zs t hl.2]; rfl
theorem Zz {A:Around}{s:Shared}{dx:PyData}{v:Value}{bs:List Addr}(rx:Reads s.heap v dx bs) (hx:lay 20 dx=true) (hu:∀ n,n<=60->A.units+n<cLine):∀ {us:List Value}{ys:List PyData}{as:List Addr},ReadsAll s.heap us ys as->ys.all (lay 20)=true->∀ u∈us,SeqAt.EqAt A s u v (eqW s.heap dx u)
 | _,_,_,.nil,_=>fun u hu=>by cases hu
 | _,_,_,.cons (d:=d) r t,hl=>fun u' hu'=>by
  rw[List.all_cons,Bool.and_eq_true] at hl
  rcases List.mem_cons.mp hu' with rfl | hu'
  ·rw[Y4 r (zW 20 _ hl.1).1]
   have h1:=zW 20 _ hl.1
   have h2:=zW 20 _ hx
   exact SeqAt.eqAt_reads _ _ _ _ _ _ _ _ r rx h1.1 h2.1 (hu _ (Nat.le_trans (Nat.min_le_left _ _) (by omega)))
  ·exact Zz rx hx hu t hl.2 u' hu'
noncomputable def zeT (K:PySem.W.Frag) (neg:Bool):R2:=fun x y H Q=>∃ M M' dx ys p vs,Rep M H x dx/\y=.ref p/\(SqL K H p vs∨SqT K H p vs)/\RepL M' H vs ys/\lay 20 dx=true/\ys.all (lay 20)=true/\Q (.bl (if neg then !inD dx ys else inD dx ys)) H
theorem kS (hr:Room 1 X.A):OpR X (compareOp .In) (zeT X.K false):=by
 intro pins s σ H x y v u Q I rx ry h
 obtain⟨M,M',dx,ys,p,vs,r1,rfl,hq,r2,l1,l2,q⟩:=h
 cases ry
 obtain⟨bs,z1⟩:=r1.reads I.hok (zW 20 _ l1).1 rx
 have hu:∀ n,n<=60->X.A.in1.units+n<cLine:=(hr.in1).u60
 rcases hq with hq | hq
 ·obtain⟨its,r,pl,hz⟩:=I.list hq
  obtain⟨as,z2⟩:=r2.reads I.hok (jn (zW 20) _ l2).1 r
  refine SeqAt.in_listAt (eqW s.heap dx) pl.isList (fun w hw=>Zz z1 l1 hu z2 l2 w (by simpa using hw)) ⟨.bl _,H,I,rfl,?_⟩
  rw[show its.toArray.any (eqW s.heap dx)=its.any (eqW s.heap dx) by simp,Zs z2 l2]
  exact q
 ·obtain⟨its,r,pl,hz⟩:=I.tuple hq
  obtain⟨as,z2⟩:=r2.reads I.hok (jn (zW 20) _ l2).1 r
  refine SeqAt.in_tupleAt (eqW s.heap dx) pl (fun w hw=>Zz z1 l1 hu z2 l2 w (by simpa using hw)) ⟨.bl _,H,I,rfl,?_⟩
  rw[show its.toArray.any (eqW s.heap dx)=its.any (eqW s.heap dx) by simp,Zs z2 l2]
  exact q
theorem wJ (hr:Room 1 X.A):OpR X (compareOp .NotIn) (zeT X.K true):=by
 intro pins s σ H x y v u Q I rx ry h
 obtain⟨M,M',dx,ys,p,vs,r1,rfl,hq,r2,l1,l2,q⟩:=h
 cases ry
 obtain⟨bs,z1⟩:=r1.reads I.hok (zW 20 _ l1).1 rx
 have hu:∀ n,n<=60->X.A.in1.units+n<cLine:=(hr.in1).u60
 rcases hq with hq | hq
 ·obtain⟨its,r,pl,hz⟩:=I.list hq
  obtain⟨as,z2⟩:=r2.reads I.hok (jn (zW 20) _ l2).1 r
  refine SeqAt.notIn_listAt (eqW s.heap dx) pl.isList (fun w hw=>Zz z1 l1 hu z2 l2 w (by simpa using hw)) ⟨.bl _,H,I,rfl,?_⟩
  rw[show its.toArray.any (eqW s.heap dx)=its.any (eqW s.heap dx) by simp,Zs z2 l2]
  exact q
 ·obtain⟨its,r,pl,hz⟩:=I.tuple hq
  obtain⟨as,z2⟩:=r2.reads I.hok (jn (zW 20) _ l2).1 r
  refine SeqAt.notIn_tupleAt (eqW s.heap dx) pl (fun w hw=>Zz z1 l1 hu z2 l2 w (by simpa using hw)) ⟨.bl _,H,I,rfl,?_⟩
  rw[show its.toArray.any (eqW s.heap dx)=its.any (eqW s.heap dx) by simp,Zs z2 l2]
  exact q
theorem JL {M:Addr->Prop}{H:Hp}{v:V}{x:PyData}(r:Rep M H v x):decide (v=.non)=isN x:=by
 cases r <;> rfl
theorem Qn (hr:Room 1 X.A) (op:CmpOp):WO X op (cmpD op):=fun x y z e=>by
 have h60:∀ n,n<=60->X.A.units+n<cLine:=hr.u60
 unfold cmpD at e
 split at e
 ·split at e
  ·rename_i h
   cases e
   rw[Bool.and_eq_true] at h
   have h1:=zW 20 _ h.1
   have h2:=zW 20 _ h.2
   exact⟨_,Yc h60,fun H v u Q r1 r2 k=>⟨_,_,_,_,r1,r2,h1.1,h2.1,Nat.le_trans (Nat.min_le_left _ _) (by omega),k⟩⟩
  ·cases e
 ·split at e
  ·rename_i h
   cases e
   rw[Bool.and_eq_true] at h
   have h1:=zW 20 _ h.1
   have h2:=zW 20 _ h.2
   exact⟨_,Yd h60,fun H v u Q r1 r2 k=>⟨_,_,_,_,r1,r2,h1.1,h2.1,Nat.le_trans (Nat.min_le_left _ _) (by omega),k⟩⟩
  ·cases e
 ·cases e; exact⟨_,zeM,fun H v u Q r1 r2 k=>by cases r1; cases r2; exact⟨_,_,rfl,rfl,k⟩⟩
 ·cases e; exact⟨_,zeL,fun H v u Q r1 r2 k=>by cases r1; cases r2; exact⟨_,_,rfl,rfl,k⟩⟩
 ·cases e; exact⟨_,zeK,fun H v u Q r1 r2 k=>by cases r1; cases r2; exact⟨_,_,rfl,rfl,k⟩⟩
 ·cases e; exact⟨_,zeJ,fun H v u Q r1 r2 k=>by cases r1; cases r2; exact⟨_,_,rfl,rfl,k⟩⟩
 ·split at e
  ·rename_i h
   cases e
   rw[Bool.and_eq_true] at h
   exact⟨_,kS hr,fun H v u Q r1 r2 k=>by
    obtain⟨l,vs,rfl,el,_,rl⟩:=r2.lst_inv
    exact⟨_,_,_,_,l,vs,r1,rfl,.inl (SqL.of el),rl,h.1,h.2,k⟩⟩
  ·cases e
 ·split at e
  ·rename_i h
   cases e
   rw[Bool.and_eq_true] at h
   exact⟨_,kS hr,fun H v u Q r1 r2 k=>by
    obtain⟨l,vs,rfl,el,rl⟩:=r2.tup_inv
    exact⟨_,_,_,_,l,vs,r1,rfl,.inr (SqT.of el),rl,h.1,h.2,k⟩⟩
  ·cases e
 ·split at e
  ·rename_i h
   cases e
   rw[Bool.and_eq_true] at h
   exact⟨_,wJ hr,fun H v u Q r1 r2 k=>by
    obtain⟨l,vs,rfl,el,_,rl⟩:=r2.lst_inv
    exact⟨_,_,_,_,l,vs,r1,rfl,.inl (SqL.of el),rl,h.1,h.2,k⟩⟩
  ·cases e
 ·split at e
  ·rename_i h
   cases e
   rw[Bool.and_eq_true] at h
   exact⟨_,wJ hr,fun H v u Q r1 r2 k=>by
    obtain⟨l,vs,rfl,el,rl⟩:=r2.tup_inv
    exact⟨_,_,_,_,l,vs,r1,rfl,.inr (SqT.of el),rl,h.1,h.2,k⟩⟩
  ·cases e
 ·cases e
  exact⟨_,zde,fun H v u Q r1 r2 k=>by cases r2; exact⟨rfl,by rw[JL r1]; exact k⟩⟩
 ·cases e
  exact⟨_,za1,fun H v u Q r1 r2 k=>by
   cases r2
   refine⟨rfl,?_⟩
   rw[JL r1]; exact k⟩
 ·cases e
end
mutual
inductive IT where
 | nm (s i:Nat)
 | tp (ts:ITs)
inductive ITs where
 | nil
 | cons (t:IT) (ts:ITs)
end
mutual
/-- what a store makes of the frame -/
noncomputable def tgF:IT->PyData->Gv->Option Gv
 | .nm _ i,x,Γ=>if i<Γ.length then some (Γ.set i (some (.d x))) else none
 | .tp ts,.tuple xs,Γ=>tgFs ts xs Γ
 | .tp ts,.list xs,Γ=>tgFs ts xs Γ
 | _,_,_=>none
noncomputable def tgFs:ITs->List PyData->Gv->Option Gv
 | .nil,[],Γ=>some Γ
 | .cons t ts,x::xs,Γ=>(tgF t x Γ).bind fun Γ=>tgFs ts xs Γ
 | _,_,_=>none
end
noncomputable def ITs.len:ITs->Nat
 | .nil=>0
 | .cons _ ts=>ts.len+1
theorem JU:∀ {ts:ITs}{ds:List PyData}{Γ Γ':Gv},tgFs ts ds Γ=some Γ'->ds.length=ts.len
 | .nil,[],_,_,_=>rfl
 | .nil,_::_,_,_,e=>by simp[tgFs] at e
 | .cons t ts,[],_,_,e=>by simp[tgFs] at e
 | .cons t ts,d::ds,Γ,Γ',e=>by
  rw[tgFs] at e
  cases q:tgF t d Γ with
  | none=>rw[q] at e; cases e
  | some Γ1=>rw[q] at e; rw[List.length_cons,JU (ts:=ts) e]; rfl
theorem JT (t:IT):∀ (d:PyData) (Γ Γ':Gv),tgF t d Γ=some Γ'->Γ'.length=Γ.length:=by
 refine IT.rec (motive_1:=fun t=>∀ (d:PyData) (Γ Γ':Gv),tgF t d Γ=some Γ'->Γ'.length=Γ.length) (motive_2:=fun ts=>∀ (ds:List PyData) (Γ Γ':Gv),tgFs ts ds Γ=some Γ'->Γ'.length=Γ.length) ?_ ?_ ?_ ?_ t
 ·intro s i d Γ Γ' e
  rw[tgF] at e
  split at e
  ·cases e; simp
  ·cases e
 ·intro ts ih d Γ Γ' e
  cases d with
  | tuple xs=>rw[tgF] at e; exact ih _ _ _ e
  | list xs=>rw[tgF] at e; exact ih _ _ _ e
  | _=>simp[tgF] at e
 ·intro ds Γ Γ' e
  cases ds with
  | nil=>simp[tgFs] at e; rw[e]
  | cons=>simp[tgFs] at e
 ·intro t ts ih1 ih2 ds Γ Γ' e
  cases ds with
  | nil=>simp[tgFs] at e
  | cons d ds=>
   rw[tgFs] at e
   cases q:tgF t d Γ with
   | none=>rw[q] at e; cases e
   | some Γ1=>rw[q] at e; rw[ih2 _ _ _ e,ih1 _ _ _ q]
noncomputable def SG (X:Cx) (mp:List Nat) (kp:Nat->Prop) (tg:Expr) (t:IT):Prop:=∀ (M0:Addr->Prop) (F:Fp) (Γ Γ':Gv) (ν:Nu) (σ:St) (H:Hp) (v:V) (d:PyData) (Q:St->Hp->Prop),RS M0 F Γ ν H->Sees mp ν σ->σ.length=X.N.length->Rep (MM M0 F) H v d ->
 tgF t d Γ=some Γ'->(∀ F' ν' σ',RS M0 F' Γ' ν' H->Stp F H F' H->Sees mp ν' σ'->σ'.length=X.N.length->(∀ i:Nat,kp i->ν'[i]?=ν[i]?)->(∀ s i:Nat,mp[s]?=some i->kp i->σ'[s]?=σ[s]?)->Q σ' H)->wpG X tg v σ H Q
noncomputable def SGs (X:Cx) (mp:List Nat) (kp:Nat->Prop) (tgs:List Expr) (ts:ITs):Prop:=∀ (M0:Addr->Prop) (F:Fp) (Γ Γ':Gv) (ν:Nu) (σ:St) (H:Hp) (vs:List V) (ds:List PyData) (Q:St->Hp->Prop),RS M0 F Γ ν H->Sees mp ν σ->σ.length=X.N.length->RepL (MM M0 F) H vs ds ->
 tgFs ts ds Γ=some Γ'->(∀ F' ν' σ',RS M0 F' Γ' ν' H->Stp F H F' H->Sees mp ν' σ'->σ'.length=X.N.length->(∀ i:Nat,kp i->ν'[i]?=ν[i]?)->(∀ s i:Nat,mp[s]?=some i->kp i->σ'[s]?=σ[s]?)->Q σ' H)->zeg X tgs vs σ H Q
section
variable {X:Cx} {mp:List Nat} {kp:Nat->Prop} {tg:Expr} {tgs:List Expr} {t:IT} {ts:ITs} {pos:Pos}
theorem Sees.set {ν:Nu}{σ:St}{s i:Nat}{v:V}(h:Sees mp ν σ) (hn:mp.Nodup) (hm:mp[s]?=some i) (hs:s<σ.length):Sees mp (ν.set i (some v)) (σ.set s (some v)):=fun s' j w e1 e2=>by
 by_cases hj:i=j
 ·subst hj
  have:s'=s:=by
   have h1:=(List.getElem?_eq_some_iff.mp e1).1
   have h2:=(List.getElem?_eq_some_iff.mp hm).1
   exact (List.getElem?_inj h1 hn).mp (by rw[e1,hm])
  subst this
  rw[List.getElem?_set_self hs]
  by_cases hl:i<ν.length
  ·rw[List.getElem?_set_self hl] at e2; rw[e2]
  ·rw[List.getElem?_eq_none (by simpa using hl)] at e2; cases e2
 ·rw[List.getElem?_set_ne hj] at e2
  have:s'≠s:=fun z=>hj (by subst z; rw[hm] at e1; exact Option.some.inj e1)
  rw[List.getElem?_set_ne (Ne.symm this)]
  exact h s' j w e1 e2
theorem zbt {s i:Nat}{x:Str}(hN:X.N.Nodup) (hn:mp.Nodup) (hi:X.N[s]?=some x) (hm:mp[s]?=some i) (hlo:¬ kp i) (hx:Loc X.env.scope x) (hf:X.fn x=true∨X.env.scope.names.lookup x=some .local):SG X mp kp (.Name x pos) (.nm s i) :=
 fun M0 F Γ Γ' ν σ H v d Q rs hs hl r e k=>by
  rw[tgF] at e
  split at e
  ·rename_i hi'
   cases e
   have hsl:s<σ.length:=by rw[hl]; exact (List.getElem?_eq_some_iff.mp hi).1
   obtain⟨F',rs',s'⟩:=rs.setD r hi'
   refine (Jf hN hi hx hf).wp (k F' _ _ rs' s' (hs.set hn hm hsl) (by simpa using hl) (fun j hj=>?_) (fun s2 j e2 hj=>?_))
   ·rw[List.getElem?_set_ne (fun z=>hlo (by rw[z]; exact hj))]
   ·rw[List.getElem?_set_ne]
    intro z
    subst z
    rw[hm] at e2
    cases e2
    exact hlo hj
  ·cases e
theorem zbu:SGs X mp kp [] .nil:=fun M0 F Γ Γ' ν σ H vs ds Q rs hs hl r e k=>by
 cases r with
 | nil=>
  simp[tgFs] at e
  subst e
  exact pgs_nil.wp ⟨rfl,k F ν σ rs (.refl _ _) hs hl (fun _ _=>rfl) (fun _ _ _ _=>rfl)⟩
 | cons r rr=>simp[tgFs] at e
theorem KB (h1:SG X mp kp tg t) (h2:SGs X mp kp tgs ts) (hst:(assignEach (tg::tgs) X.env).map (·.2)=assign tg X.env::(assignEach tgs X.env).map (·.2)):SGs X mp kp (tg::tgs) (.cons t ts):=fun M0 F Γ Γ' ν σ H vs ds Q rs hs hl r e k=>by
 cases r with
 | nil=>simp[tgFs] at e
 | cons r rr=>
  rename_i v vs d ds
  rw[tgFs] at e
  cases e1:tgF t d Γ with
  | none=>rw[e1] at e; cases e
  | some Γ1=>
   rw[e1] at e
   refine (JF Wy JG hst).wp ⟨v,vs,rfl,h1 M0 F Γ Γ1 ν σ H v d _ rs hs hl r e1 fun F1 ν1 σ1 rs1 s1 hs1 hl1 n1 m1=>?_⟩
   exact h2 M0 F1 Γ1 Γ' ν1 σ1 H vs ds _ rs1 hs1 hl1 (zL s1 rs.al0 rr) e fun F2 ν2 σ2 rs2 s2 hs2 hl2 n2 m2=>k F2 ν2 σ2 rs2 (s1.trans s2) hs2 hl2 (fun i hi=>(n2 i hi).trans (n1 i hi)) (fun s i e hi=>(m2 s i e hi).trans (m1 s i e hi))
theorem zdN {n:Nat}(hc:X.calm=true) (h:SGs X mp kp tgs ts) (hl:ts.len=(assignEach tgs X.env).length) (hst:(assignEach tgs X.env).findIdx? (·.1)=none):SG X mp kp (.Tuple tgs n pos) (.tp ts):=fun M0 F Γ Γ' ν σ H v d Q rs hs hl' r e k=>by
 cases d with
 | tuple ds=>
  rw[tgF] at e
  obtain⟨a,vs,rfl,ea,rr⟩:=r.tup_inv
  exact (Ka hc JG rfl hst).wp ⟨a,vs,rfl,SqT.of ea,by rw[rr.length,JU e,hl],h M0 F Γ Γ' ν σ H vs ds Q rs hs hl' rr e k⟩
 | list ds=>
  rw[tgF] at e
  obtain⟨a,vs,rfl,ea,_,rr⟩:=r.lst_inv
  exact (za8 hc JG rfl hst).wp ⟨a,vs,rfl,SqL.of ea,by rw[rr.length,JU e,hl],h M0 F Γ Γ' ν σ H vs ds Q rs hs hl' rr e k⟩
 | _=>simp[tgF] at e
end
end L3
namespace L3
open PySem PySem.Spec PyProof.Rows L2
variable [Cs]
noncomputable def JI (M0:Addr->Prop) (F:Fp) (J:It) (ds:List PyData) (H1:Hp):Prop:=∀ (i:Nat) (F':Fp) (H':Hp),Stp F H1 F' H'->(∀ a,M0 a->H1 a≠none) ->
 (∀ d,ds[i]?=some d->J.go i H'/\∀ x H2,J.yld i H' x H2->Same H' H2/\Rep (MM M0 F') H2 x d)/\(ds.length<=i->J.stop i H')
noncomputable def SI (X:Cx) (XP:XPT) (mp:List Nat) (tg iter:Expr) (f:EM (List PyData)):Prop:=∀ (M0:Addr->Prop) (F:Fp) (Γ:Gv) (ν:Nu) (σ:St) (H:Hp) (R:It->Hp->Prop),RS M0 F Γ ν H->Sees mp ν σ ->
 EPost M0 F ν σ H XP (fun F' Γ' H' ds=>∀ J,JI M0 F' J ds H'->R J H') (f Γ)->wpI X tg iter σ H R
section
variable {X:Cx} {XP:XPT} {mp:List Nat} {a b c e tg iter elt:Expr} {es ifs:List Expr} {pos p p2:Pos} {fa fb fc:EM FV} {ta tb:EM Bool} {na nb:EM (List PyData)}
noncomputable def fSeqL (fa:EM FV):EM (List PyData):=fun Γ=>(fa Γ).bind fun (u,Γ1)=>match derS Γ1 u with
 | some (.list ds)=>.ok (ds,Γ1)
 | _=>.bad
noncomputable def fSeqT (fa:EM FV):EM (List PyData):=fun Γ=>(fa Γ).bind fun (u,Γ1)=>match derS Γ1 u with
 | some (.tuple ds)=>.ok (ds,Γ1)
 | _=>.bad
theorem kB {M0:Addr->Prop}{F:Fp}{K:PySem.W.Frag}{H1:Hp}{l:Addr}{ds:List PyData}{vs:List V}(e:H1 l=some (.lst vs)) (n:∀ j,l∉F j) (r:RepL (MM M0 F) H1 vs ds):JI M0 F (Itl K l) ds H1:=fun i F' H' s h0=>by
 have e':H' l=some (.lst vs):=(s.keep l _ e n).1
 refine⟨fun d hd=>?_,fun hl=>⟨vs,SqL.of e',by rw[r.length]; exact hl⟩⟩
 obtain⟨v,hv,rv⟩:=r.get' hd
 exact⟨⟨vs,v,SqL.of e',hv⟩,fun x H2 ⟨e2,y⟩=>by
  subst e2
  have:=y vs (SqL.of e')
  rw[hv] at this; cases this
  exact⟨Same.refl _,zm s h0 rv⟩⟩
theorem zaQ {M0:Addr->Prop}{F:Fp}{K:PySem.W.Frag}{H1:Hp}{l:Addr}{ds:List PyData}{vs:List V}(e:H1 l=some (.lst vs)) (n:¬ MM M0 F l) (r:RepL (MM M0 F) H1 vs ds):JI M0 F (Itl K l) ds H1:=kB e (fun j hj=>n (.inr ⟨j,hj⟩)) r
theorem zc2 {M0:Addr->Prop}{F:Fp}{K:PySem.W.Frag}{H1:Hp}{l:Addr}{ds:List PyData}{vs:List V}(e:H1 l=some (.tup vs)) (r:RepL (MM M0 F) H1 vs ds):JI M0 F (Itt K l) ds H1:=fun i F' H' s h0=>by
 have e':H' l=some (.tup vs):=s.tups l _ e
 refine⟨fun d hd=>?_,fun hl=>⟨vs,SqT.of e',by rw[r.length]; exact hl⟩⟩
 obtain⟨v,hv,rv⟩:=r.get' hd
 exact⟨⟨vs,v,SqT.of e',hv⟩,fun x H2 ⟨e2,y⟩=>by
  subst e2
  have:=y vs (SqT.of e')
  rw[hv] at this; cases this
  exact⟨Same.refl _,zm s h0 rv⟩⟩
theorem zbw (ha:SE X XP mp iter fa):SI X XP mp tg iter (fSeqL fa):=fun M0 F Γ ν σ H R rs hs hp=>
 (yc zi).wp (ha.run rs hs hp fun F1 Γ1 H1 u v rs1 s1 o1 h1=>by
  dsimp only at h1
  split at h1
  ·rename_i ds eu
   obtain⟨l,vs,rfl,e,n,r⟩:=(o1.strong rs1 eu).lst_inv
   exact⟨l,rfl,⟨vs,SqL.of e⟩,h1 F1 H1 rs1 (.refl _ _) _ (zaQ e n r)⟩
  ·exact h1.elim)
theorem zdO (ha:SE X XP mp iter fa):SI X XP mp tg iter (fSeqT fa):=fun M0 F Γ ν σ H R rs hs hp=>
 (zdo zi).wp (ha.run rs hs hp fun F1 Γ1 H1 u v rs1 s1 o1 h1=>by
  dsimp only at h1
  split at h1
  ·rename_i ds eu
   obtain⟨l,vs,rfl,e,r⟩:=(o1.strong rs1 eu).tup_inv
   exact⟨l,rfl,⟨vs,SqT.of e⟩,h1 F1 H1 rs1 (.refl _ _) _ (zc2 e r)⟩
  ·exact h1.elim)
noncomputable def fRange (fa:EM FV):EM (List PyData):=fun Γ=>(fa Γ).bind fun (u,Γ1)=>match derf Γ1 u with
 | some (.int n)=>if -1000000<=n/\n<=1000000 then .ok (zG n.toNat,Γ1) else .bad
 | _=>.bad
theorem kC {M0:Addr->Prop}{F:Fp}(n:Nat) (H1:Hp):JI M0 F (Itr 0 n) (zG n) H1:=fun i F' H' s h0=>by
 refine⟨fun d hd=>?_,fun hl=>?_⟩
 ·obtain⟨hi,rfl⟩:=qK hd
  exact⟨hi,fun x H2 ⟨e,y⟩=>by subst e y; exact⟨Same.refl _,by rw[show (0:Int)+(i:Int)=i by omega]; exact .int _⟩⟩
 ·show n<=i
  simpa [zl] using hl
theorem KC {x:Str}(B:BiK X x (.type "range")) (ex:x= "range") (ha:SE X XP mp a fa) (hst:starEach [a] X.env= [(false,eval a X.env)]):SI X XP mp tg (.Call (.Name x p) [a] [] pos) (fRange fa):=fun M0 F Γ ν σ H R rs hs hp=>by
 subst ex
 exact (Yf B.gl B.mg (zo zi pa_nil hst) hst).wp (ha.run rs hs hp fun F1 Γ1 H1 u v rs1 s1 o1 h1=>by
  dsimp only at h1
  split at h1
  ·rename_i n eu
   split at h1
   ·rename_i hn
    cases o1.weak rs1 eu
    exact⟨n,rfl,by omega,by omega,h1 F1 H1 rs1 (.refl _ _) _ (kC n.toNat H1)⟩
   ·exact h1.elim
  ·exact h1.elim)
noncomputable def SF (X:Cx) (XP:XPT) (mp:List Nat) (ifs:List Expr) (f:EM Bool):Prop:=∀ (M0:Addr->Prop) (F:Fp) (Γ:Gv) (ν:Nu) (σ:St) (H:Hp) (Q:Bool->Hp->Prop),RS M0 F Γ ν H->Sees mp ν σ ->
 EPost M0 F ν σ H XP (fun F' Γ' H' b=>Q b H') (f Γ)->wpF X ifs σ H Q
noncomputable def fYes:EM Bool:=fun Γ=>.ok (true,Γ)
theorem zdL:SF X XP mp [] fYes:=fun M0 F Γ ν σ H Q rs hs hp=>pf_nil.wp (hp F H rs (.refl _ _))
theorem zdM (h:ST X XP mp c ta):SF X XP mp [c] ta:=fun M0 F Γ ν σ H Q rs hs hp=>(zdm qS).wp (h M0 F Γ ν σ H Q rs hs hp)
noncomputable def zY (k:Nat) (t:IT) (cond:EM Bool) (elt:EM FV):List PyData->List PyData->Gv->R (List PyData×Gv)
 | [],ys,Γ=>.ok (ys,Γ)
 | d::ds,ys,Γ=>match tgF t d (Γ++List.replicate k none) with
  | none=>.bad
  | some Γ2=>match cond Γ2 with
   | .ok (true,Γ3)=>match elt Γ3 with
    | .ok (u,Γ4)=>match derS Γ4 u with
     | some y=>zY k t cond elt ds (ys++ [y]) (Γ4.take Γ.length)
     | none=>.bad
    | _=>.bad
   | .ok (false,Γ3)=>zY k t cond elt ds ys (Γ3.take Γ.length)
   | _=>.bad
noncomputable def fComp (n k:Nat) (t:IT) (src:EM (List PyData)) (cond:EM Bool) (elt:EM FV):EM (List PyData):=fun Γ=>(src Γ).bind fun (ds,Γ1)=>if ds.length<=1000000/\Γ1.length=n then zY k t cond elt ds [] Γ1 else .bad
noncomputable abbrev XP0:XPT:=fun _ _ _ _ _ _=>False
noncomputable def mpC (mp:List Nat) (n k:Nat) (ix:List Nat):List Nat:=(List.range k).map (n+·)++ix.map fun i=>mp.getD i 0
theorem kN {mp:List Nat}{n k:Nat}{ix:List Nat}{s:Nat}(h:s<k):(mpC mp n k ix)[s]?=some (n+s):=by
 unfold mpC
 rw[List.getElem?_append_left (by simpa using h),List.getElem?_map,List.getElem?_range h]; rfl
theorem Wv {mp:List Nat}{n k:Nat}{ix:List Nat}{j:Nat}:(mpC mp n k ix)[k+j]?=(ix[j]?).map fun i=>mp.getD i 0:=by
 unfold mpC
 rw[List.getElem?_append_right (by simp),List.getElem?_map]
 simp
theorem vp {N':List Str}{scope:Scope}{n k:Nat}{ix:List Nat}{t:IT}{cond:EM Bool}{el:EM FV}{M0:Addr->Prop}{F1:Fp}{ν:Nu}{σ:St}{H1:Hp}{J:It}{ds:List PyData}{P:Fp->Gv->Hp->List PyData->Prop}{Γ1:Gv}{Q:List V->Hp->Prop}
  (hm:∀ j i:Nat,ix[j]?=some i->∃ m,mp[i]?=some m/\m<n) (hN':N'.length=k+ix.length)
  (hg:∀ cl C s2 H2 fp,SG (X.comp N' scope cl C s2 H2 fp) (mpC mp n k ix) (·<n) tg t) (hc:∀ cl C s2 H2 fp,SF (X.comp N' scope cl C s2 H2 fp) XP0 (mpC mp n k ix) ifs cond) (he:∀ cl C s2 H2 fp,SE (X.comp N' scope cl C s2 H2 fp) XP0 (mpC mp n k ix) elt el)
  (rs1:RS M0 F1 Γ1 ν H1) (hs:Sees mp ν σ) (hJ:JI M0 F1 J ds H1) (hd:ds.length<=1000000) (hn:Γ1.length=n) (hp:EPost M0 F1 ν σ H1 XP P (zY k t cond el ds [] Γ1))
  (fin:∀ F' Γ' H' ys vs,RS M0 F' Γ' ν H'->RepL (MM M0 F') H' vs ys->P F' Γ' H' ys->Q vs H') :
  JZ zap k ix (gU X N' scope tg) (fU X N' scope ifs) (eU X N' scope elt) σ J H1 Q:=by
 have hνn:ν.length=n:=by rw[rs1.len,hn]
 refine⟨fun i m vs H=>m=ds.length-i/\i<=ds.length/\∃ F' Γ' ys,RS M0 F' Γ' ν H/\Stp F1 H1 F' H/\RepL (MM M0 F') H vs ys/\Γ'.length=n/\ys.length<=i/\EPost M0 F' ν σ H XP P (zY k t cond el (ds.drop i) ys Γ'),⟨ds.length,by simp,Nat.zero_le _,F1,Γ1,[],rs1,.refl _ _,.nil,hn,Nat.le_refl _,hp⟩,?_⟩
 rintro i m vs H ⟨rfl,hil,F',Γ',ys,rs,st,rv,hln,hyl,hp⟩
 have hsz:=sizeLine_eq
 refine⟨show vs.length<sizeLine by rw[rv.length]; omega,?_⟩
 obtain⟨jgo,jst⟩:=hJ i F' H st rs1.al0
 by_cases hlt:i<ds.length
 ·obtain⟨go,yl⟩:=jgo ds[i] (by simp[hlt])
  refine .inr ⟨go,fun vs' H'=>∃ F'' Γ'' ys',RS M0 F'' Γ'' ν H'/\Stp F1 H1 F'' H'/\RepL (MM M0 F'') H' vs' ys'/\Γ''.length=n/\ys'.length<=i+1/\EPost M0 F'' ν σ H' XP P (zY k t cond el (ds.drop (i+1)) ys' Γ''),fun vs' H' h=>⟨ds.length-(i+1),by omega,rfl,hlt,h⟩,fun x H2 hy=>?_⟩
  obtain⟨s2,rx⟩:=yl x H2 hy
  rw[List.drop_eq_getElem_cons hlt,zY] at hp
  have rs2:=(rs.same s2).ext k
  have hcl:(cS k ix σ).length=N'.length:=by unfold cS; simp[hN']
  have hsee:Sees (mpC mp n k ix) (ν++List.replicate k none) (cS k ix σ):=fun s j v e1 e2=>by
   by_cases hsk:s<k
   ·rw[kN hsk] at e1
    cases e1
    rw[List.getElem?_append_right (by omega),List.getElem?_replicate] at e2
    split at e2 <;> cases e2
   ·obtain⟨j',rfl⟩:∃ j',s=k+j':=⟨s-k,by omega⟩
    rw[Wv] at e1
    cases q:ix[j']? with
    | none=>rw[q] at e1; cases e1
    | some i0=>
     rw[q] at e1
     obtain⟨m,hm1,hm2⟩:=hm j' i0 q
     have:mp.getD i0 0=m:=by rw[List.getD_eq_getElem?_getD,hm1]; rfl
     have ej:m=j:=by
      have e3:some (mp.getD i0 0)=some j:=e1
      rw[this] at e3; exact Option.some.inj e3
     subst ej
     rw[List.getElem?_append_left (by omega)] at e2
     exact YS q (hs i0 m v hm1 e2)
  cases et:tgF t ds[i] (Γ'++List.replicate k none) with
  | none=>rw[et] at hp; exact hp.elim
  | some Γ2=>
   rw[et] at hp
   intro cl C s2' H2' fp
   refine hg cl C s2' H2' fp M0 F' _ Γ2 _ (cS k ix σ) H2 x ds[i] _ rs2 hsee hcl rx et fun F3 ν3 σ3 rs3 s3 hs3 hl3 n3 m3=>⟨?_,fun cl C s2' H2' fp=>?_⟩
   ·apply List.ext_getElem?
    intro j
    rw[List.getElem?_drop,List.getElem?_drop]
    by_cases hj:j<ix.length
    ·obtain⟨m,hm1,hm2⟩:=hm j ix[j] (by simp[hj])
     refine m3 (k+j) m ?_ hm2
     rw[Wv,List.getElem?_eq_getElem hj]
     show some (mp.getD ix[j] 0)=some m
     rw[List.getD_eq_getElem?_getD,hm1]; rfl
    ·have hl3':σ3.length=N'.length:=hl3
     rw[List.getElem?_eq_none (by omega),List.getElem?_eq_none (by omega)]
   ·have stA:Stp F1 H1 F3 H2:=(st.trans (.same s2)).trans s3
    have back:∀ {F4:Fp} {Γ4:Gv} {H4:Hp},RS M0 F4 Γ4 ν3 H4->RS M0 (Qs F4 n) (Γ4.take n) ν H4/\Stp F4 H4 (Qs F4 n) H4:=fun {F4 Γ4 H4} r4=>by
     obtain⟨r5,s5⟩:=r4.cut n
     have:ν3.take n=ν:=by
      apply List.ext_getElem?
      intro j
      by_cases hj:j<n
      ·rw[List.getElem?_take_of_lt hj,n3 j hj,List.getElem?_append_left (by omega)]
      ·rw[List.getElem?_eq_none (by rw[List.length_take]; omega),List.getElem?_eq_none (by omega)]
     rw[this] at r5
     exact⟨r5,s5⟩
    have hlen3:Γ2.length=n+k:=by
     rw[JT _ _ _ _ et,List.length_append,List.length_replicate,hln]
    have lenOf:∀ {F4:Fp} {Γ4:Gv} {H4:Hp},RS M0 F4 Γ4 ν3 H4->(Γ4.take n).length=n:=fun {F4 Γ4 H4} r4=>by
     have h1:=r4.len
     have h2:=rs3.len
     rw[List.length_take]; omega
    refine hc cl C s2' H2' fp M0 F3 Γ2 ν3 σ3 H2 _ rs3 hs3 ?_
    dsimp only at hp
    cases ec:cond Γ2 with
    | bad=>rw[ec] at hp; exact hp.elim
    | exc xx yy=>rw[ec] at hp; exact hp.elim
    | ok z=>
     obtain⟨bb,Γ3⟩:=z
     rw[ec] at hp
     intro F4 H4 rs4 s4
     cases bb with
     | false=>
      refine Wr ?_
      obtain⟨r5,s5⟩:=back rs4
      have stB:=(stA.trans s4).trans s5
      rw[hln] at hp
      refine⟨_,_,ys,r5,stB,?_,lenOf rs4,by omega,?_⟩
      ·exact zL s5 rs4.al0 (zL s4 rs3.al0 (zL s3 (rs.same s2).al0 (rv.grow s2.grow)))
      ·exact hp.step ((((Stp.same s2).trans s3).trans s4).trans s5)
     | true=>
      refine Ws fun cl C s2' H2' fp=>?_
      refine he cl C s2' H2' fp M0 F4 Γ3 ν3 σ3 H4 _ rs4 hs3 ?_
      dsimp only at hp
      cases ee:el Γ3 with
      | bad=>rw[ee] at hp; exact hp.elim
      | exc xx yy=>rw[ee] at hp; exact hp.elim
      | ok z=>
       obtain⟨u,Γ4⟩:=z
       rw[ee] at hp
       intro F5 H5 rs5 s5 v hv
       dsimp only at hp
       cases ed:derS Γ4 u with
       | none=>rw[ed] at hp; exact hp.elim
       | some y=>
        rw[ed] at hp
        dsimp only at hp
        obtain⟨r6,s6⟩:=back rs5
        have stB:=((stA.trans s4).trans s5).trans s6
        rw[hln] at hp
        refine⟨_,_,ys++ [y],r6,stB,?_,lenOf rs5,by simp; omega,?_⟩
        ·refine RepL.append ?_ (.cons (zm s6 rs5.al0 (hv.strong rs5 ed)) .nil)
         exact zL s6 rs5.al0 (zL s5 rs4.al0 (zL s4 rs3.al0 (zL s3 (rs.same s2).al0 (rv.grow s2.grow))))
        ·exact hp.step (((((Stp.same s2).trans s3).trans s4).trans s5).trans s6)
 ·have e:i=ds.length:=by omega
  subst e
  rw[List.drop_length,zY] at hp
  exact .inl ⟨jst (Nat.le_refl _),fin F' Γ' H ys vs rs rv (hp F' H rs (.refl _ _))⟩
noncomputable def SNt (XP:XPT) (mp:List Nat) (t:TE) (f:EM (List PyData)):Prop:=∀ (M0:Addr->Prop) (F:Fp) (Γ:Gv) (ν:Nu) (σ:St) (H:Hp) (Q:VK),RS M0 F Γ ν H->Sees mp ν σ ->
 EPost M0 F ν σ H XP (fun F' Γ' H' ds=>∀ vs p,RepL (MM M0 F') H' vs ds->H' p=none->Q (.ref p) (upd H' p (.lst vs))) (f Γ)->t σ H Q
theorem vF {N':List Str}{scope:Scope}{n k:Nat}{ix:List Nat}{t:IT}{src:EM (List PyData)}{cond:EM Bool}{el:EM FV}(S:CSc X.env.scope X.N scope N' k ix) (hm:∀ j i:Nat,ix[j]?=some i->∃ m,mp[i]?=some m/\m<n)
  (hi:SI X XP mp tg iter src) (hg:∀ cl C s2 H2 fp,SG (X.comp N' scope cl C s2 H2 fp) (mpC mp n k ix) (·<n) tg t) (hc:∀ cl C s2 H2 fp,SF (X.comp N' scope cl C s2 H2 fp) XP0 (mpC mp n k ix) ifs cond) (he:∀ cl C s2 H2 fp,SE (X.comp N' scope cl C s2 H2 fp) XP0 (mpC mp n k ix) elt el) :
  SNt XP mp (wM k ix (wpI X tg iter) (gU X N' scope tg) (fU X N' scope ifs) (eU X N' scope elt)) (fComp n k t src cond el):=fun M0 F Γ ν σ H Q rs hs hp=>by
 refine hi M0 F Γ ν σ H _ rs hs (hp.seq.mono fun F1 Γ1 H1 ds rs1 s1 h1 J hJ=>?_)
 dsimp only at h1
 split at h1
 ·rename_i hh
  exact vp hm S.len hg hc he rs1 hs hJ hh.1 hh.2 h1 fun F' Γ' H' ys vs rs' rv hP p hp'=>hP vs p rv hp'
 ·exact h1.elim
theorem zbA {N':List Str}{scope:Scope}{n k:Nat}{ix:List Nat}{t:IT}{src:EM (List PyData)}{cond:EM Bool}{el:EM FV}(hcalm:X.calm=true) (S:CSc X.env.scope X.N scope N' k ix) (hm:∀ j i:Nat,ix[j]?=some i->∃ m,mp[i]?=some m/\m<n)
  (hi:SI X XP mp tg iter src) (hg:∀ cl C s2 H2 fp,SG (X.comp N' scope cl C s2 H2 fp) (mpC mp n k ix) (·<n) tg t) (hc:∀ cl C s2 H2 fp,SF (X.comp N' scope cl C s2 H2 fp) XP0 (mpC mp n k ix) ifs cond) (he:∀ cl C s2 H2 fp,SE (X.comp N' scope cl C s2 H2 fp) XP0 (mpC mp n k ix) elt el)
  (hf:∀ x,foldedSetIterable iter X.env x=pure x):SN X XP mp (.ListComp elt [⟨tg,iter,ifs,0⟩] scope pos) (fComp n k t src cond el):=fun M0 F Γ ν σ H Q rs hs hp=>
 (kZ hcalm S hf).wp (vF S hm hi hg hc he M0 F Γ ν σ H Q rs hs hp)
end
end L3
namespace L2
open PySem PySem.Spec PyProof.Rows
variable [Cs]
section
variable {X:Cx} {pins:List (Addr×Obj)} {σ:St} {H:Hp} {s s':Shared} {e:Value}
theorem WX (I:Inv X pins σ H s) (hx:X.ex= []) (hst:X.stack=X.env::X.outer) (hf:X.env.frame=some X.env.locals){E E':XK}(hc:CX1 X.prog X.w X.stack H s E e s') (hE:∀ c H',E c none H'->E' c none H'){Ez:Value->Shared->Prop} :
  wpAny (model X.prog X.w) X.A (leaving X.env e) (fun _ s''=>CX1 X.prog X.w X.outer X.H₀ X.s₀ E' e s'') Ez s':=by
 obtain⟨ea,c,a0,B,h0,H',rfl,os,bare,hfl,up,hk,q⟩:=hc
 have hfr:X.A.frames=some (X.env::X.outer):=by rw[<- hst]; exact I.ok.frames
 rw[hst] at hfl
 refine wpAny_leaves_onW hfr hf hfl fun h' f1 f4=>⟨ea,c,a0,B,h0,H',rfl,os.trans I.os,bare,f1,up.trans f4,fun h6 k1 k2=>?_,hE _ _ q⟩
 obtain⟨un,hok⟩:=hk h6 k1 k2
 have I6:=I.call' (s':={ s' with heap:=h6 }) os un hok bare fun b z=>nomatch z
 exact I6.flies hx hst hf (fun b o e=>PySem.W.of_hideAll _ e) (Heap.UpToSlots.of_keeps fun _ _ e=>e)
end
end L2
namespace L2
open PySem PySem.Spec PyProof.Rows
variable [Cs]
theorem YA {X:Cx}{CX:CXT}{E:XK}{sp:Sp}{σ:St}{H:Hp}{Q:VK}{r x:Str}{k i:Nat}{b:Addr}{e:Expr}{es:List Expr}{p pos:Pos}(kn:Kn X.prog X.w X.K X.mg X.base CX x k sp) (hb0:X.mg x=some (.ref b)) (hr:Room k X.A)
  (hN:X.N[i]?=some r) (hv:Vis X.env.scope r) (hd:(r==("__debug__" :Str))=false) (hcd:(r==("__classdict__" :Str))=false) (hσ:σ[i]?=some (some (.ref b)))
  (hx:∀ pins H s e s',Inv X pins σ H s->CX X.stack H s E e s'->X.xe e s') (h:wpA X (e::es) σ H fun vs H1=>sp vs H1 Q E)
  (he:starEach (e::es) X.env=(false,eval e X.env)::starEach es X.env) (hpl:(backTo pos (starEach es X.env)).any (·.1)=false):wpE X (.Call (.Name r p) (e::es) [] pos) σ H Q:=fun pins s I=>by
 obtain⟨f,fd,ps,F,hm,hk,hb⟩:=kn.ex
 rw[hb0] at hm; cases hm
 refine wpAny_Call_Name_kw (thn (z4 (X:=X) hN hv hd hcd pins s σ H (fun v H'=>v=.ref b/\H'=H) I ⟨_,hσ,rfl,rfl⟩) fun u s1 ⟨v,H1,I1,r1,e1,e2⟩=>?_)
 subst e1 e2
 cases r1
 refine PySem.W.callWith_K (h₀:=X.base) I1.ok.mod.kin hk (thn (h pos pins s1 I1) fun us s1 ⟨vs,H1,I1,r,q⟩=>⟨I1.kIn,?_⟩) he hpl
 have hl:us.length=ps.length:=by rw[<- r.length]; exact F.len _ _ _ _ q
 have hb':=hb s1 us I1.kIn (by simpa using hl)
 rw[List.append_nil] at hb'
 refine wpAny_call (codeAny_mono (F.run X.A X.stack s1 H1 ⟨us,[]⟩ us vs Q E hr I1.env0 hb' r q) fun r s' hq=>?_)
 cases r with
 | error e=>exact hx pins H1 s1 e s' I1 hq
 | ok fl=>
  cases fl with
  | ret u=>exact I1.after hq
  | next=>exact False.elim hq
  | brk=>exact False.elim hq
  | cont=>exact False.elim hq
end L2
namespace L3
open PySem PySem.Spec PyProof.Rows L2
variable [Cs]
inductive AV where
 | v (u:FV)
 | io (i:Nat)
inductive AOks (M0:Addr->Prop) (F:Fp) (ν:Nu) (H:Hp):List V->List AV->Prop
 | nil:AOks M0 F ν H [] []
 | v {v:V} {vs:List V} {u:FV} {as:List AV}:FOk M0 F ν H v u->AOks M0 F ν H vs as->AOks M0 F ν H (v::vs) (.v u::as)
 | io {v:V} {vs:List V} {i:Nat} {as:List AV}:ν[i]?=some (some v)->AOks M0 F ν H vs as->AOks M0 F ν H (v::vs) (.io i::as)
noncomputable def APost (M0:Addr->Prop) (F:Fp) (ν:Nu) (σ:St) (H:Hp) (XP:XPT) (P:Fp->Gv->Nu->Hp->List AV->Prop) (r:R (List AV×Gv)):Prop:=match r with
 | .ok (as,Γ')=>∀ F' ν' H',RS M0 F' Γ' ν' H'->ν <+: ν'->Stp F H F' H'->P F' Γ' ν' H' as
 | .exc x Γ'=>∀ F' H',RS M0 F' Γ' ν H'->Stp F H F' H'->XP x Γ' F' ν σ H'
 | .bad=>False
noncomputable def OPost (M0:Addr->Prop) (F:Fp) (ν:Nu) (σ:St) (H:Hp) (XP:XPT) (P:Fp->Gv->Hp->OV->V->Prop) (r:R (OV×Gv)):Prop:=match r with
 | .ok (o,Γ')=>∀ F' H' v,RS M0 F' (Γ'++ [some o]) (ν++ [some v]) H'->Stp F H F' H'->P F' Γ' H' o v
 | .exc x Γ'=>∀ F' H',RS M0 F' Γ' ν H'->Stp F H F' H'->XP x Γ' F' ν σ H'
 | .bad=>False
noncomputable def SA (X:Cx) (XP:XPT) (mp:List Nat) (es:List Expr) (f:EM (List AV)):Prop:=∀ (M0:Addr->Prop) (F:Fp) (Γ:Gv) (ν:Nu) (σ:St) (H:Hp) (Q:List V->Hp->Prop),RS M0 F Γ ν H->Sees mp ν σ ->
 APost M0 F ν σ H XP (fun F' Γ' ν' H' as=>∀ vs,AOks M0 F' ν' H' vs as->Q vs H') (f Γ)->wpA X es σ H Q
noncomputable def SO (X:Cx) (XP:XPT) (mp:List Nat) (e:Expr) (f:EM OV):Prop:=∀ (M0:Addr->Prop) (F:Fp) (Γ:Gv) (ν:Nu) (σ:St) (H:Hp) (Q:VK),RS M0 F Γ ν H->Sees mp ν σ ->
 OPost M0 F ν σ H XP (fun F' Γ' H' o v=>Q v H') (f Γ)->wpE X e σ H Q
section
variable {M0:Addr->Prop} {F:Fp} {Γ:Gv} {ν:Nu} {σ:St} {H:Hp} {XP:XPT} {α:Type}
theorem APost.seq {P:Fp->Gv->Nu->Hp->List AV->Prop}{r:R (α×Gv)}{k:α×Gv->R (List AV×Gv)}(h:APost M0 F ν σ H XP P (r.bind k)):EPost M0 F ν σ H XP (fun F1 Γ1 H1 a=>APost M0 F1 ν σ H1 XP P (k (a,Γ1))) r:=by
 cases r with
 | ok a=>
  obtain⟨a,Γ1⟩:=a
  intro F1 H1 rs1 s1
  have h':APost M0 F ν σ H XP P (k (a,Γ1)):=h
  revert h'
  generalize k (a,Γ1)=r2
  intro h'
  cases r2 with
  | ok b=>exact fun F' ν' H' rs hn s=>h' F' ν' H' rs hn (s1.trans s)
  | exc x Γ'=>exact fun F' H' rs s=>h' F' H' rs (s1.trans s)
  | bad=>exact h'
 | exc x Γ'=>exact h
 | bad=>exact h
theorem APost.mono {P P':Fp->Gv->Nu->Hp->List AV->Prop}{r:R (List AV×Gv)}(h:APost M0 F ν σ H XP P r) (k:∀ F' Γ' ν' H' as,RS M0 F' Γ' ν' H'->ν <+: ν'->Stp F H F' H'->P F' Γ' ν' H' as->P' F' Γ' ν' H' as):APost M0 F ν σ H XP P' r:=by
 cases r with
 | ok a=>exact fun F' ν' H' rs hn s=>k F' _ ν' H' _ rs hn s (h F' ν' H' rs hn s)
 | exc x Γ'=>exact h
 | bad=>exact h
theorem OPost.seq {P:Fp->Gv->Hp->OV->V->Prop}{r:R (α×Gv)}{k:α×Gv->R (OV×Gv)}(h:OPost M0 F ν σ H XP P (r.bind k)):EPost M0 F ν σ H XP (fun F1 Γ1 H1 a=>OPost M0 F1 ν σ H1 XP P (k (a,Γ1))) r:=by
 cases r with
 | ok a=>
  obtain⟨a,Γ1⟩:=a
  intro F1 H1 rs1 s1
  have h':OPost M0 F ν σ H XP P (k (a,Γ1)):=h
  revert h'
  generalize k (a,Γ1)=r2
  intro h'
  cases r2 with
  | ok b=>exact fun F' H' v rs s=>h' F' H' v rs (s1.trans s)
  | exc x Γ'=>exact fun F' H' rs s=>h' F' H' rs (s1.trans s)
  | bad=>exact h'
 | exc x Γ'=>exact h
 | bad=>exact h
theorem OPost.mono {P P':Fp->Gv->Hp->OV->V->Prop}{r:R (OV×Gv)}(h:OPost M0 F ν σ H XP P r) (k:∀ F' Γ' H' o v,RS M0 F' (Γ'++ [some o]) (ν++ [some v]) H'->Stp F H F' H'->P F' Γ' H' o v->P' F' Γ' H' o v):OPost M0 F ν σ H XP P' r:=by
 cases r with
 | ok a=>exact fun F' H' v rs s=>k F' _ H' _ v rs s (h F' H' v rs s)
 | exc x Γ'=>exact h
 | bad=>exact h
end
section
variable {X:Cx} {XP:XPT} {mp:List Nat} {a b c e:Expr} {es:List Expr} {pos p p2:Pos} {fa fb fc:EM FV} {ta tb:EM Bool} {na nb:EM (List PyData)} {fl:EM (List AV)} {fo:EM OV}
noncomputable def fOwn (n:EM (List PyData)):EM OV:=fun Γ=>(n Γ).bind fun (ds,Γ1)=>.ok (.l (ds.map .d),Γ1)
theorem SN.so (h:SN X XP mp a na):SO X XP mp a (fOwn na):=fun M0 F Γ ν σ H Q rs hs hp=>
 h M0 F Γ ν σ H Q rs hs (hp.seq.mono fun F1 Γ1 H1 ds rs1 s1 h1 vs p r n=>by
  obtain⟨r2,s2⟩:=rs1.newO n r
  exact h1 _ _ _ r2 s2)
noncomputable def fOD (f:EM OV):EM FV:=fun Γ=>(f Γ).bind fun (o,Γ1)=>.ok (.dat o.view,Γ1)
theorem SO.se (h:SO X XP mp a fo):SE X XP mp a (fOD fo):=fun M0 F Γ ν σ H Q rs hs hp=>
 h M0 F Γ ν σ H Q rs hs (by
  have hp':EPost M0 F ν σ H XP (fun F' Γ' H' u=>∀ v,FOk M0 F' ν H' v u->Q v H') ((fo Γ).bind fun (o,Γ1)=>.ok (.dat o.view,Γ1)):=hp
  revert hp'
  generalize fo Γ=r
  intro hp'
  cases r with
  | ok z=>
   obtain⟨o,Γ1⟩:=z
   intro F' H' v rs' s'
   obtain⟨F2,rs2,s2,r2⟩:=rs'.dropD
   exact hp' F2 H' rs2 (s'.trans s2) v r2
  | exc x y=>exact hp'
  | bad=>exact hp')
theorem FOk.ext {M0:Addr->Prop}{F:Fp}{ν ν':Nu}{H:Hp}{v:V}{u:FV}(h:FOk M0 F ν H v u) (hn:ν <+: ν'):FOk M0 F ν' H v u:=by
 cases u with
 | dat x=>exact h
 | own i=>
  have h':ν[i]?=some (some v):=h
  obtain⟨t,rfl⟩:=hn
  show (ν++t)[i]?=_
  rw[List.getElem?_append_left (List.getElem?_eq_some_iff.mp h').1]; exact h'
noncomputable def aNil:EM (List AV):=fun Γ=>.ok ([],Γ)
noncomputable def aCons (fa:EM FV) (fl:EM (List AV)):EM (List AV):=fun Γ=>(fa Γ).bind fun (u,Γ1)=>(fl Γ1).bind fun (as,Γ2)=>.ok (.v u::as,Γ2)
noncomputable def aIo (i:Nat) (fl:EM (List AV)):EM (List AV):=fun Γ=>match Γ[i]? with
 | some (some _)=>(fl Γ).bind fun (as,Γ2)=>.ok (.io i::as,Γ2)
 | _=>.bad
noncomputable def zep (n:EM (List PyData)):EM (List AV):=fun Γ=>(n Γ).bind fun (ds,Γ1)=>.ok ([.io Γ1.length],Γ1++ [some (.l (ds.map .d))])
theorem zdx:SA X XP mp [] aNil:=fun M0 F Γ ν σ H Q rs hs hp=>pa_nil.wp (hp F ν H rs (List.prefix_refl _) (.refl _ _) [] .nil)
theorem APost.tail {M0:Addr->Prop}{F:Fp}{ν:Nu}{σ:St}{H:Hp}{P:Fp->Gv->Nu->Hp->List AV->Prop}{r:R (List AV×Gv)}{f:List AV->List AV}(h:APost M0 F ν σ H XP P (r.bind fun (as,Γ2)=>.ok (f as,Γ2))) :
  APost M0 F ν σ H XP (fun F' Γ' ν' H' as=>P F' Γ' ν' H' (f as)) r:=by
 cases r with
 | ok a=>exact h
 | exc x Γ'=>exact h
 | bad=>exact h
theorem zbg (ha:SE X XP mp a fa) (hl:SA X XP mp es fl) (hst:starEach (a::es) X.env=(false,eval a X.env)::starEach es X.env):SA X XP mp (a::es) (aCons fa fl):=fun M0 F Γ ν σ H Q rs hs hp=>
 (zo zi qR hst).wp (ha M0 F Γ ν σ H _ rs hs (hp.seq.mono fun F1 Γ1 H1 u rs1 s1 h1 v o1=>
  hl M0 F1 Γ1 ν σ H1 _ rs1 hs (h1.tail.mono fun F2 Γ2 ν2 H2 as rs2 hn s2 h2 vs oks=>h2 (v::vs) (.v ((o1.stp s2 rs1.al0).ext hn) oks))))
theorem zeY {s i:Nat}{x:Str}(hN:X.N[s]?=some x) (hv:Vis X.env.scope x) (hm:mp[s]?=some i) (hd:(x==("__debug__" :Str))=false) (hcd:(x==("__classdict__" :Str))=false) (hl:SA X XP mp es fl) (hst:starEach (.Name x pos::es) X.env=(false,eval (.Name x pos) X.env)::starEach es X.env) :
  SA X XP mp (.Name x pos::es) (aIo i fl):=fun M0 F Γ ν σ H Q rs hs hp=>by
 unfold aIo at hp
 split at hp
 ·rename_i o q
  obtain⟨v,e1,r⟩:=rs.at' i _ q
  exact (zo (z4 hN hv hd hcd) qR hst).wp ⟨v,hs s i v hm e1,hl M0 F Γ ν σ H _ rs hs (hp.tail.mono fun F2 Γ2 ν2 H2 as rs2 hn s2 h2 vs oks=>h2 (v::vs) (.io (by
   obtain⟨t,rfl⟩:=hn
   rw[List.getElem?_append_left (List.getElem?_eq_some_iff.mp e1).1]; exact e1) oks))⟩
 ·exact hp.elim
theorem zdy (h:SN X XP mp a na) (hst:starEach [a] X.env= [(false,eval a X.env)]):SA X XP mp [a] (zep na):=fun M0 F Γ ν σ H Q rs hs hp=>
 (zo zi pa_nil hst).wp (h M0 F Γ ν σ H _ rs hs (hp.seq.mono fun F1 Γ1 H1 ds rs1 s1 h1 vs p r n=>by
  obtain⟨r2,s2⟩:=rs1.newO n r
  exact h1 _ _ _ r2 (List.prefix_append _ _) s2 _ (.io (by rw[<- rs1.len]; simp) .nil)))
inductive RF where
 | ok (r:OV) (outs:List (Option OV))
 | exc (x:Exc) (outs:List (Option OV))
 | bad
noncomputable def spX (mg:Str->Option Value) (n:Nat) (run:List OV->RF):Sp:=fun vs H Q E=>vs.length=n/\∃ (M0:Addr->Prop) (F:Fp) (args:List OV),RS M0 F (args.map some) (vs.map some) H/\match run args with
 | .ok r outs=>∀ F' v H',RS M0 F' (outs++ [some r]) (vs.map some++ [some v]) H'->Stp F H F' H'->Q v H'
 | .exc x outs=>∀ C,mg x.cls=some (.ref C)->∀ F' H',RS M0 F' (outs++ [some (.d .none)]) (vs.map some++ [some .non]) H'->Stp F H F' H'->E (.ref C) none H'
 | .bad=>False
noncomputable def WR (X:Cx) (XP:XPT):Prop:=∀ (σ:St) (pins:List (Addr×Obj)) (H:Hp) (s:Shared) (e:Value) (s':Shared) (E:XK),(∀ c H',E c none H'->∃ (x:Exc) (Γ:Gv) (F:Fp) (ν:Nu) (C:Addr),X.mg x.cls=some (.ref C)/\c=.ref C/\XP x Γ F ν σ H') ->
 Inv X pins σ H s->CX1 X.prog X.w X.stack H s E e s'->X.xe e s'
theorem yg {X:Cx}:WR X XP0:=fun σ pins H s e s' E h I hc=>by
 obtain⟨ea,c,a0,B,h0,H',rfl,os,bare,hfl,up,hk,q⟩:=hc
 obtain⟨x,Γ,F,ν,C,_,_,z⟩:=h c H' q
 exact z.elim
noncomputable abbrev EX (X:Cx) (XP:XPT) (σ:St):XK:=fun c _ H'=>∃ (x:Exc) (Γ:Gv) (F:Fp) (ν:Nu) (C:Addr),X.mg x.cls=some (.ref C)/\c=.ref C/\XP x Γ F ν σ H'
noncomputable def toArg (Γ:Gv):AV->Option OV
 | .v u=>(derS Γ u).map .d
 | .io i=>match Γ[i]? with
  | some (some o)=>some o
  | _=>none
noncomputable def toArgs (Γ:Gv):List AV->Option (List OV)
 | []=>some []
 | a::as=>match toArg Γ a,toArgs Γ as with
  | some o,some os=>some (o::os)
  | _,_=>none
noncomputable def ios:List AV->List Nat
 | []=> []
 | .v _::as=>ios as
 | .io i::as=>i::ios as
noncomputable def putBack:List AV->List (Option OV)->Gv->Option Gv
 | [],_,Γ=>some Γ
 | .v _::as,_::os,Γ=>putBack as os Γ
 | .io i::as,some o::os,Γ=>if i<Γ.length then putBack as os (Γ.set i (some o)) else none
 | _,_,_=>none
theorem mem_ios {as:List AV}{i:Nat}:i∈ios as↔∃ j:Nat,as[j]?=some (.io i):=by
 induction as with
 | nil=>simp[ios]
 | cons a as ih=>
  cases a with
  | v u=>
   rw[ios,ih]
   constructor
   ·rintro⟨j,h⟩; exact⟨j+1,by simpa using h⟩
   ·rintro⟨j,h⟩
    cases j with
    | zero=>simp at h
    | succ j=>exact⟨j,by simpa using h⟩
  | io k=>
   rw[ios,List.mem_cons,ih]
   constructor
   ·rintro (rfl | ⟨j,h⟩)
    ·exact⟨0,rfl⟩
    ·exact⟨j+1,by simpa using h⟩
   ·rintro⟨j,h⟩
    cases j with
    | zero=>simp at h; exact .inl h.symm
    | succ j=>exact .inr ⟨j,by simpa using h⟩
theorem Jd:∀ {as:List AV}{i j k:Nat},(ios as).Nodup->as[j]?=some (.io i)->as[k]?=some (.io i)->j=k
 | [],_,_,_,_,h,_=>by simp at h
 | .v u::as,i,j,k,nd,h1,h2=>by
  cases j with
  | zero=>simp at h1
  | succ j=>
   cases k with
   | zero=>simp at h2
   | succ k=>exact congrArg (·+1) (Jd (as:=as) (i:=i) (by rw[ios] at nd; exact nd) (by simpa using h1) (by simpa using h2))
 | .io m::as,i,j,k,nd,h1,h2=>by
  rw[ios,List.nodup_cons] at nd
  cases j with
  | zero=>
   cases k with
   | zero=>rfl
   | succ k=>
    simp at h1; subst h1
    exact absurd (mem_ios.mpr ⟨k,by simpa using h2⟩) nd.1
  | succ j=>
   cases k with
   | zero=>
    simp at h2; subst h2
    exact absurd (mem_ios.mpr ⟨j,by simpa using h1⟩) nd.1
   | succ k=>exact congrArg (·+1) (Jd (as:=as) (i:=i) nd.2 (by simpa using h1) (by simpa using h2))
section
variable {M0:Addr->Prop} {F:Fp} {Γ:Gv} {ν:Nu} {H:Hp}
theorem AOks.get:∀ {vs:List V}{as:List AV}{args:List OV}{j:Nat}{o:OV},AOks M0 F ν H vs as->toArgs Γ as=some args->args[j]?=some o ->
  ∃ v,vs[j]?=some v/\((∃ u x,as[j]?=some (.v u)/\derS Γ u=some x/\o=.d x/\FOk M0 F ν H v u)∨∃ i,as[j]?=some (.io i)/\ν[i]?=some (some v)/\Γ[i]?=some (some o))
 | _,_,_,j,o,.nil,e,h=>by cases e; simp at h
 | _,_,_,j,o,.v (u:=u) (as:=as) h1 t,e,h=>by
  unfold toArgs at e
  split at e
  ·rename_i o' os e1 e2
   cases e
   cases j with
   | zero=>
    simp at h; subst h
    simp only[toArg,Option.map_eq_some_iff] at e1
    obtain⟨x,ex,rfl⟩:=e1
    exact⟨_,rfl,.inl ⟨u,x,rfl,ex,rfl,h1⟩⟩
   | succ j=>
    obtain⟨v,ev,q⟩:=AOks.get (j:=j) t e2 (by simpa using h)
    exact⟨v,by simpa using ev,by simpa using q⟩
  ·cases e
 | _,_,_,j,o,.io (i:=i) (as:=as) h1 t,e,h=>by
  unfold toArgs at e
  split at e
  ·rename_i o' os e1 e2
   cases e
   cases j with
   | zero=>
    simp at h; subst h
    simp only[toArg] at e1
    split at e1
    ·rename_i q
     cases e1
     exact⟨_,rfl,.inr ⟨i,rfl,h1,q⟩⟩
    ·cases e1
   | succ j=>
    obtain⟨v,ev,q⟩:=AOks.get (j:=j) t e2 (by simpa using h)
    exact⟨v,by simpa using ev,by simpa using q⟩
  ·cases e
theorem AOks.len:∀ {vs:List V}{as:List AV},AOks M0 F ν H vs as->vs.length=as.length
 | _,_,.nil=>rfl
 | _,_,.v _ t=>by rw[List.length_cons,List.length_cons,AOks.len t]
 | _,_,.io _ t=>by rw[List.length_cons,List.length_cons,AOks.len t]
theorem qL:∀ {as:List AV}{args:List OV},toArgs Γ as=some args->args.length=as.length
 | [],_,e=>by cases e; rfl
 | a::as,_,e=>by
  unfold toArgs at e
  split at e
  ·rename_i e1 e2
   cases e
   rw[List.length_cons,List.length_cons,qL e2]
  ·cases e
noncomputable def cM (M0:Addr->Prop) (F:Fp) (as:List AV):Addr->Prop:=fun a=>M0 a∨∃ i,i∉ios as/\a∈F i
noncomputable def cF (F:Fp) (as:List AV):Fp:=fun j=>match as[j]? with
 | some (.io i)=>F i
 | _=> []
theorem zb6 {as:List AV}{j i:Nat}(h:as[j]?=some (.io i)):cF F as j=F i:=by unfold cF; rw[h]
theorem Z8 {as:List AV}{j:Nat}{a:Addr}(h:a∈cF F as j):∃ i,as[j]?=some (.io i)/\a∈F i:=by
 unfold cF at h
 split at h
 ·rename_i i e; exact⟨i,e,h⟩
 ·cases h
theorem cMM {as:List AV}:MM (cM M0 F as) (cF F as)=MM M0 F:=by
 funext a
 apply propext
 constructor
 ·rintro ((h | ⟨i,_,h⟩) | ⟨j,h⟩)
  ·exact .inl h
  ·exact .inr ⟨i,h⟩
  ·obtain⟨i,_,h⟩:=Z8 h; exact .inr ⟨i,h⟩
 ·rintro (h | ⟨i,h⟩)
  ·exact .inl (.inl h)
  ·by_cases hi:i∈ios as
   ·obtain⟨j,hj⟩:=mem_ios.mp hi
    exact .inr ⟨j,by rw[zb6 hj]; exact h⟩
   ·exact .inl (.inr ⟨i,hi,h⟩)
theorem v9 {vs:List V}{as:List AV}{args:List OV}(rs:RS M0 F Γ ν H) (oks:AOks M0 F ν H vs as) (e:toArgs Γ as=some args) (nd:(ios as).Nodup):RS (cM M0 F as) (cF F as) (args.map some) (vs.map some) H where
 al0 a h:=by
  rcases h with h | ⟨i,_,h⟩
  ·exact rs.al0 a h
  ·exact rs.al a (.inr ⟨i,h⟩)
 dis0 j a h:=by
  obtain⟨i,hi,ha⟩:=Z8 h
  rintro (h0 | ⟨i',hi',ha'⟩)
  ·exact rs.dis0 i a ha h0
  ·have:=rs.dis _ _ a ha ha'
   subst this
   exact hi' (mem_ios.mpr ⟨j,hi⟩)
 nd j:=by
  unfold cF
  split
  ·exact rs.nd _
  ·exact .nil
 dis j k a h1 h2:=by
  obtain⟨i,hi,ha⟩:=Z8 h1
  obtain⟨i',hi',ha'⟩:=Z8 h2
  have:=rs.dis _ _ a ha ha'
  subst this
  exact Jd nd hi hi'
 at' j o ej:=by
  rw[List.getElem?_map] at ej
  cases q:args[j]? with
  | none=>rw[q] at ej; cases ej
  | some o'=>
   rw[q] at ej
   have eo:o'=o:=by simpa using ej
   subst eo
   obtain⟨v,ev,h⟩:=oks.get e q
   refine⟨v,by rw[List.getElem?_map,ev]; rfl,?_⟩
   rw[cMM]
   rcases h with ⟨u,x,ea,ex,rfl,ok⟩ | ⟨i,ea,en,eg⟩
   ·have:cF F as j= []:=by unfold cF; rw[ea]
    rw[this]
    exact .d (ok.strong rs ex)
   ·rw[zb6 ea]
    obtain⟨v',ev',r⟩:=rs.at' i o' eg
    rw[en] at ev'; cases ev'
    exact r
 emp j h:=by
  unfold cF
  split
  ·rename_i i ea
   exfalso
   have hj:j<args.length:=by rw[qL e]; exact (List.getElem?_eq_some_iff.mp ea).1
   exact h args[j] (by rw[List.getElem?_map,List.getElem?_eq_getElem hj]; rfl)
  ·rfl
 len:=by rw[List.length_map,List.length_map,oks.len,qL e]
theorem jx:∀ {as:List AV}{outs:List (Option OV)}{Γ Γ2:Gv},putBack as outs Γ=some Γ2->(ios as).Nodup->Γ2.length=Γ.length/\(∀ i:Nat,i∉ios as->Γ2[i]?=Γ[i]?)/\∀ j i:Nat,as[j]?=some (.io i)->∃ o,outs[j]?=some (some o)/\Γ2[i]?=some (some o)/\i<Γ.length
 | [],_,Γ,_,e,_=>by
  have:some Γ=some _:=e
  cases this
  exact⟨rfl,fun _ _=>rfl,fun j i h=>by simp at h⟩
 | .v u::as,[],Γ,_,e,_=>by cases e
 | .v u::as,x::os,Γ,Γ2,e,nd=>by
  obtain⟨h0,h1,h2⟩:=jx (as:=as) (outs:=os) (Γ:=Γ) (Γ2:=Γ2) e (by rw[ios] at nd; exact nd)
  refine⟨h0,fun i hi=>h1 i (by rw[ios] at hi; exact hi),fun j i hj=>?_⟩
  cases j with
  | zero=>simp at hj
  | succ j=>
   obtain⟨o,a,b⟩:=h2 j i (by simpa using hj)
   exact⟨o,by simpa using a,b⟩
 | .io k::as,[],Γ,_,e,_=>by cases e
 | .io k::as,none::os,Γ,_,e,_=>by cases e
 | .io k::as,some o::os,Γ,Γ2,e,nd=>by
  rw[putBack] at e
  split at e
  ·rename_i hk
   rw[ios,List.nodup_cons] at nd
   obtain⟨h0,h1,h2⟩:=jx (as:=as) (outs:=os) e nd.2
   rw[List.length_set] at h0
   refine⟨h0,fun i hi=>?_,fun j i hj=>?_⟩
   ·rw[ios,List.mem_cons] at hi
    rw[h1 i (fun z=>hi (.inr z)),List.getElem?_set_ne (fun z=>hi (.inl z.symm))]
   ·cases j with
    | zero=>
     have:k=i:=by simpa using hj
     subst this
     refine⟨o,rfl,?_,hk⟩
     rw[h1 k nd.1,List.getElem?_set_self hk]
    | succ j=>
     obtain⟨o',a,b,c⟩:=h2 j i (by simpa using hj)
     exact⟨o',by simpa using a,b,by simpa using c⟩
  ·cases e
open Classical in
theorem wx {vs:List V}{as:List AV}{args:List OV}{outs:List (Option OV)}{r:OV}{v:V}{Γ2:Gv}{ν0:Nu}{Fc':Fp}{H':Hp}{n:Nat}(rs:RS M0 F Γ ν H) (oks:AOks M0 F ν H vs as) (e:toArgs Γ as=some args) (nd:(ios as).Nodup)
  (rc:RS (cM M0 F as) Fc' (outs++ [some r]) (vs.map some++ [some v]) H') (sc:Stp (cF F as) H Fc' H') (pb:putBack as outs Γ=some Γ2) (hν:ν0 <+: ν) (hn:ν0.length=n) :
  ∃ F',RS M0 F' (Γ2.take n++ [some r]) (ν0++ [some v]) H'/\Stp F H F' H':=by
 obtain⟨p0,p1,p2⟩:=jx pb nd
 have hol:outs.length=as.length:=by have:=rc.len; simp[oks.len] at this; omega
 obtain⟨tl,rfl⟩:=hν
 have hnl:n<=Γ.length:=by have:=rs.len; simp at this; omega
 have htl:(Γ2.take n).length=n:=by rw[List.length_take]; omega
 let F':Fp:=fun i=>if i<n then (if h:∃ j:Nat,as[j]?=some (.io i) then Fc' (Classical.choose h) else F i) else if i=n then Fc' as.length else []
 have f1:∀ (i j:Nat),i<n->as[j]?=some (.io i)->F' i=Fc' j:=fun i j hi hj=>by
  show (if i<n then _ else _)=_
  rw[if_pos hi]
  have hex:∃ j:Nat,as[j]?=some (.io i):=⟨j,hj⟩
  rw[dif_pos hex,Jd nd (Classical.choose_spec hex) hj]
 have f2:∀ (i:Nat),i<n->i∉ios as->F' i=F i:=fun i hi hj=>by
  show (if i<n then _ else _)=_
  rw[if_pos hi,dif_neg]
  rintro hex
  exact hj (mem_ios.mpr hex)
 have f3:F' n=Fc' as.length:=by show (if n<n then _ else _)=_; rw[if_neg (Nat.lt_irrefl _),if_pos rfl]
 have f4:∀ i,n<i->F' i= []:=fun i hi=>by show (if i<n then _ else _)=_; rw[if_neg (by omega),if_neg (by omega)]
 have cls:∀ i a,a∈F' i->(∃ j,i<n/\as[j]?=some (.io i)/\a∈Fc' j)∨(i<n/\i∉ios as/\a∈F i)∨(i=n/\a∈Fc' as.length):=fun i a h=>by
  by_cases hi:i<n
  ·by_cases hj:i∈ios as
   ·obtain⟨j,hj⟩:=mem_ios.mp hj
    rw[f1 i j hi hj] at h
    exact .inl ⟨j,hi,hj,h⟩
   ·rw[f2 i hi hj] at h; exact .inr (.inl ⟨hi,hj,h⟩)
  ·by_cases hj:i=n
   ·subst hj; rw[f3] at h; exact .inr (.inr ⟨rfl,h⟩)
   ·rw[f4 i (by omega)] at h; cases h
 have keepF:∀ i,i∉ios as->∀ a∈F i,H' a=H a:=fun i hi a ha=>by
  obtain⟨us,ea⟩:=rs.laidF ha
  rw[ea]
  refine (sc.keep a _ ea fun j hj=>?_).1
  obtain⟨i',hi',ha'⟩:=Z8 hj
  have:=rs.dis _ _ a ha ha'
  subst this
  exact hi (mem_ios.mpr ⟨j,hi'⟩)
 have st:Stp F H F' H':=⟨fun b o eb nb=>by
  obtain⟨e1,n1⟩:=sc.keep b o eb fun j hj=>let ⟨i,_,ha⟩:=Z8 hj; nb i ha
  refine⟨e1,fun i hi=>?_⟩
  rcases cls i b hi with ⟨j,_,_,h⟩ | ⟨_,_,h⟩ | ⟨_,h⟩
  ·exact n1 j h
  ·exact nb i h
  ·exact n1 _ h,sc.tups,sc.stay⟩
 have sub:∀ b,MM M0 F' b->MM (cM M0 F as) Fc' b:=fun b hb=>by
  rcases hb with hb | ⟨i,hb⟩
  ·exact .inl (.inl hb)
  ·rcases cls i b hb with ⟨j,_,_,h⟩ | ⟨_,hi,h⟩ | ⟨_,h⟩
   ·exact .inr ⟨j,h⟩
   ·exact .inl (.inr ⟨i,hi,h⟩)
   ·exact .inr ⟨_,h⟩
 have conv:∀ {w:V} {o:OV} {A:List Addr},OR (MM (cM M0 F as) Fc') H' w o A->OR (MM M0 F') H' w o A:=fun {w o A} q=>q.go (fun v d x=>x.less fun b hb _=>sub b hb) (fun _ _ e=>e) fun _ _=>rfl
 have out:∀ (j:Nat) (a:Addr),a∈Fc' j->¬ M0 a/\∀ i,i∉ios as->a∉F i:=fun j a ha=>by
  have h:=rc.dis0 j a ha
  exact⟨fun z=>h (.inl z),fun i hi z=>h (.inr ⟨i,hi,z⟩)⟩
 refine⟨F',⟨fun a ha=>sc.stay a (rs.al0 a ha),fun i a ha=>?_,fun i=>?_,fun i k a h1 h2=>?_,fun i o ei=>?_,fun i hi=>?_,by simp[htl,hn]⟩,st⟩
 ·rcases cls i a ha with ⟨j,_,_,h⟩ | ⟨_,hi,h⟩ | ⟨_,h⟩
  ·exact (out j a h).1
  ·exact rs.dis0 i a h
  ·exact (out _ a h).1
 ·by_cases hi:i<n
  ·by_cases hj:i∈ios as
   ·obtain⟨j,hj⟩:=mem_ios.mp hj
    rw[f1 i j hi hj]; exact rc.nd j
   ·rw[f2 i hi hj]; exact rs.nd i
  ·by_cases hj:i=n
   ·subst hj; rw[f3]; exact rc.nd _
   ·rw[f4 i (by omega)]; exact .nil
 ·rcases cls i a h1 with ⟨j,hi,ej,z1⟩ | ⟨hi,ni,z1⟩ | ⟨rfl,z1⟩
  ·rcases cls k a h2 with ⟨j',hk,ej',z2⟩ | ⟨hk,nk,z2⟩ | ⟨rfl,z2⟩
   ·have:=rc.dis _ _ a z1 z2
    subst this
    rw[ej] at ej'; cases ej'; rfl
   ·exact absurd z2 ((out j a z1).2 k nk)
   ·have:=rc.dis _ _ a z1 z2
    subst this
    rw[List.getElem?_eq_none (Nat.le_refl _)] at ej; cases ej
  ·rcases cls k a h2 with ⟨j',hk,ej',z2⟩ | ⟨hk,nk,z2⟩ | ⟨rfl,z2⟩
   ·exact absurd z1 ((out j' a z2).2 i ni)
   ·exact rs.dis _ _ a z1 z2
   ·exact absurd z1 ((out _ a z2).2 i ni)
  ·rcases cls k a h2 with ⟨j',hk,ej',z2⟩ | ⟨hk,nk,z2⟩ | ⟨rfl,z2⟩
   ·have:=rc.dis _ _ a z1 z2
    subst this
    rw[List.getElem?_eq_none (Nat.le_refl _)] at ej'; cases ej'
   ·exact absurd z2 ((out _ a z1).2 k nk)
   ·rfl
 ·by_cases hi:i<n
  ·rw[List.getElem?_append_left (by omega),List.getElem?_take_of_lt hi] at ei
   rw[List.getElem?_append_left (by omega)]
   by_cases hj:i∈ios as
   ·obtain⟨j,hj⟩:=mem_ios.mp hj
    obtain⟨o',eo,eg,_⟩:=p2 j i hj
    rw[eg] at ei
    have eoo:o'=o:=by simpa using ei
    subst eoo
    have hjl:j<as.length:=(List.getElem?_eq_some_iff.mp hj).1
    obtain⟨w,ew,q⟩:=rc.at' j o' (by rw[List.getElem?_append_left (by omega)]; exact eo)
    rw[List.getElem?_append_left (by rw[List.length_map,oks.len]; exact hjl),List.getElem?_map] at ew
    have hal:j<args.length:=by rw[qL e]; exact hjl
    obtain⟨v',ev',hh⟩:=oks.get e (List.getElem?_eq_getElem hal)
    rw[ev'] at ew
    have ew':v'=w:=by simpa using ew
    subst ew'
    rcases hh with ⟨u,x,ea,_⟩ | ⟨i',ea,en,_⟩
    ·rw[hj] at ea; cases ea
    ·rw[hj] at ea; cases ea
     rw[List.getElem?_append_left (by omega)] at en
     exact⟨v',en,by rw[f1 i j hi hj]; exact conv q⟩
   ·rw[p1 i hj] at ei
    obtain⟨w,ew,q⟩:=rs.at' i o ei
    rw[List.getElem?_append_left (by omega)] at ew
    refine⟨w,ew,?_⟩
    rw[f2 i hi hj]
    exact q.go (fun v d x=>zm st rs.al0 x) st.tups (keepF i hj)
  ·have hin:i=n:=by
    have:=(List.getElem?_eq_some_iff.mp ei).1
    simp[htl] at this; omega
   subst hin
   rw[List.getElem?_append_right (by omega),htl] at ei
   have:r=o:=by simpa using ei
   subst this
   refine⟨v,by rw[List.getElem?_append_right (by omega),hn]; simp,?_⟩
   rw[f3]
   obtain⟨w,ew,q⟩:=rc.at' as.length r (by rw[List.getElem?_append_right (by omega),hol]; simp)
   rw[List.getElem?_append_right (by rw[List.length_map,oks.len]; exact Nat.le_refl _),List.length_map,oks.len] at ew
   have:v=w:=by simpa using ew
   subst this
   exact conv q
 ·by_cases hlt:i<n
  ·have nj:i∉ios as:=fun hj=>by
    obtain⟨j,hj⟩:=mem_ios.mp hj
    obtain⟨o',eo,eg,_⟩:=p2 j i hj
    exact hi o' (by rw[List.getElem?_append_left (by omega),List.getElem?_take_of_lt hlt]; exact eg)
   rw[f2 i hlt nj]
   refine rs.emp i fun o eo=>hi o ?_
   rw[List.getElem?_append_left (by omega),List.getElem?_take_of_lt hlt,p1 i nj]; exact eo
  ·by_cases hin:i=n
   ·subst hin
    exact absurd (by rw[List.getElem?_append_right (by omega),htl]; simp) (hi r)
   ·exact f4 i (by omega)
end
noncomputable def fCall (run:List OV->RF) (fl:EM (List AV)):EM OV:=fun Γ=>(fl Γ).bind fun (as,Γ1)=>match toArgs Γ1 as with
 | none=>.bad
 | some args=>if (ios as).Nodup then match run args with
  | .ok r outs=>match putBack as outs Γ1 with
   | some Γ2=>.ok (r,Γ2.take Γ.length)
   | none=>.bad
  | .exc x outs=>match putBack as outs Γ1 with
   | some Γ2=>.exc x (Γ2.take Γ.length)
   | none=>.bad
  | .bad=>.bad
  else .bad
theorem Qm {M0:Addr->Prop}{F:Fp}{Γ:Gv}{ν:Nu}{σ:St}{H:Hp}{run:List OV->RF}{n:Nat}{Q:VK}(rs:RS M0 F Γ ν H) (hrun:∀ args,run args≠ .bad->args.length=n)
  (hp:OPost M0 F ν σ H XP (fun F' Γ' H' o v=>Q v H') (fCall run fl Γ)):APost M0 F ν σ H XP (fun F1 Γ1 ν1 H1 as=>∀ vs,AOks M0 F1 ν1 H1 vs as->spX X.mg n run vs H1 Q (EX X XP σ)) (fl Γ):=by
 unfold fCall at hp
 generalize fl Γ=ra at hp
 cases ra with
 | bad=>exact hp
 | exc x y=>exact hp
 | ok z=>
  obtain⟨as,Γ1⟩:=z
  intro F1 ν1 H1 rs1 hn s1 vs oks
  simp only[R.bind] at hp
  split at hp
  ·exact hp.elim
  ·rename_i args ea
   split at hp
   ·rename_i nd
    have hl:vs.length=n:=by
     rw[oks.len,<- qL ea]
     refine hrun args fun z=>?_
     rw[z] at hp; exact hp.elim
    refine⟨hl,cM M0 F1 as,cF F1 as,args,v9 rs1 oks ea nd,?_⟩
    split at hp
    ·rename_i r outs er
     split at hp
     ·rename_i Γ2 eb
      intro F' v H' rc sc
      obtain⟨F2,rs2,s2⟩:=wx (n:=Γ.length) rs1 oks ea nd rc sc eb hn rs.len
      exact hp F2 H' v rs2 (s1.trans s2)
     ·exact hp.elim
    ·rename_i x outs er
     split at hp
     ·rename_i Γ2 eb
      intro C hC F' H' rc sc
      obtain⟨F2,rs2,s2⟩:=wx (n:=Γ.length) rs1 oks ea nd rc sc eb hn rs.len
      obtain⟨F3,rs3,s3,_⟩:=rs2.dropD
      exact⟨x,_,F3,ν,C,hC,rfl,hp F3 H' rs3 ((s1.trans s2).trans s3)⟩
     ·exact hp.elim
    ·exact hp.elim
   ·exact hp.elim
theorem zbD {x:Str}{k n:Nat}{run:List OV->RF}(px:WR X XP) (kn:Kn X.prog X.w X.K X.mg X.base (CX1 X.prog X.w) x k (spX X.mg n run)) (hr:Room k X.A) (hg:Gl X x) (hrun:∀ args,run args≠ .bad->args.length=n) (hl:SA X XP mp (a::es) fl)
  (hdb:(x==("__debug__" :Str))=false) (he:starEach (a::es) X.env=(false,eval a X.env)::starEach es X.env) (hpl:(backTo pos (starEach es X.env)).any (·.1)=false):SO X XP mp (.Call (.Name x p) (a::es) [] pos) (fCall run fl):=fun M0 F Γ ν σ H Q rs hs hp=>
 zag (E:=EX X XP σ) kn hr hg (fun pins H1 s1 e s' I hx=>px σ pins H1 s1 e s' _ (fun c H' q=>q) I hx) (hl M0 F Γ ν σ H _ rs hs (Qm rs hrun hp)) hdb he hpl
theorem KF {x:Str}{k n:Nat}{run:List OV->RF}(px:WR X XP) (kn:Kn X.prog X.w X.K X.mg X.base (CX1 X.prog X.w) x k (spX X.mg n run)) (hr:Room k X.A) (hg:Gl X x) (hrun:∀ args,run args≠ .bad->args.length=n)
  (hdb:(x==("__debug__" :Str))=false):SO X XP mp (.Call (.Name x p) [] [] pos) (fCall run aNil):=fun M0 F Γ ν σ H Q rs hs hp=>by
 have h:=Qm (X:=X) (n:=n) rs hrun hp F ν H rs (List.prefix_refl _) (.refl _ _) [] .nil
 exact YB kn hr hg (fun pins H1 s1 e s' I hx=>px σ pins H1 s1 e s' _ (fun c H' q=>q) I hx) h hdb
end
end L3
namespace L3
open PySem PySem.Spec PyProof.Rows L2
variable [Cs]
inductive FL where
 | next
 | ret (o:OV)
 | brk
 | cnt
noncomputable abbrev SM:=Gv->R (FL×Gv)
noncomputable def SPost (M0:Addr->Prop) (F:Fp) (ν:Nu) (H:Hp) (XP:XPT) (mp:List Nat) (N:Nat) (io:List Nat) (D:qv) (r:R (FL×Gv)):Prop:=match r with
 | .ok (.next,Γ')=>∀ F' ν' σ' H',RS M0 F' Γ' ν' H'->Stp F H F' H'->Sees mp ν' σ'->σ'.length=N->(∀ i∈io,ν'[i]?=ν[i]?)->D.nx σ' H'
 | .ok (.brk,Γ')=>∀ F' ν' σ' H',RS M0 F' Γ' ν' H'->Stp F H F' H'->Sees mp ν' σ'->σ'.length=N->(∀ i∈io,ν'[i]?=ν[i]?)->D.bk σ' H'
 | .ok (.cnt,Γ')=>∀ F' ν' σ' H',RS M0 F' Γ' ν' H'->Stp F H F' H'->Sees mp ν' σ'->σ'.length=N->(∀ i∈io,ν'[i]?=ν[i]?)->D.ct σ' H'
 | .ok (.ret o,Γ')=>∀ F' ν' v H',RS M0 F' (Γ'++ [some o]) (ν'++ [some v]) H'->Stp F H F' H'->(∀ i∈io,ν'[i]?=ν[i]?)->D.rt v H'
 | .exc x Γ'=>∀ F' ν' σ' H',RS M0 F' Γ' ν' H'->Stp F H F' H'->Sees mp ν' σ'->σ'.length=N->(∀ i∈io,ν'[i]?=ν[i]?)->XP x Γ' F' ν' σ' H'
 | .bad=>False
noncomputable def SS (X:Cx) (XP:XPT) (mp:List Nat) (io:List Nat) (st:Stmt) (f:SM):Prop:=∀ (M0:Addr->Prop) (F:Fp) (Γ:Gv) (ν:Nu) (σ:St) (H:Hp) (D:qv),RS M0 F Γ ν H->Sees mp ν σ->σ.length=X.N.length ->
 SPost M0 F ν H XP mp X.N.length io D (f Γ)->wpS X st D σ H
noncomputable def SB (X:Cx) (XP:XPT) (mp:List Nat) (io:List Nat) (sts:List Stmt) (f:SM):Prop:=∀ (M0:Addr->Prop) (F:Fp) (Γ:Gv) (ν:Nu) (σ:St) (H:Hp) (D:qv),RS M0 F Γ ν H->Sees mp ν σ->σ.length=X.N.length ->
 SPost M0 F ν H XP mp X.N.length io D (f Γ)->wpB X sts D σ H
section
variable {M0:Addr->Prop} {F F1:Fp} {Γ:Gv} {ν ν1:Nu} {σ:St} {H H1:Hp} {XP:XPT} {mp:List Nat} {N:Nat} {io:List Nat} {D D':qv} {r:R (FL×Gv)}
theorem SPost.step (h:SPost M0 F ν H XP mp N io D r) (s1:Stp F H F1 H1) (hn:∀ i∈io,ν1[i]?=ν[i]?):SPost M0 F1 ν1 H1 XP mp N io D r:=by
 cases r with
 | ok z=>
  obtain⟨fl,Γ'⟩:=z
  cases fl with
  | next=>exact fun F' ν' σ' H' a b c d e=>h F' ν' σ' H' a (s1.trans b) c d fun i hi=>(e i hi).trans (hn i hi)
  | brk=>exact fun F' ν' σ' H' a b c d e=>h F' ν' σ' H' a (s1.trans b) c d fun i hi=>(e i hi).trans (hn i hi)
  | cnt=>exact fun F' ν' σ' H' a b c d e=>h F' ν' σ' H' a (s1.trans b) c d fun i hi=>(e i hi).trans (hn i hi)
  | ret o=>exact fun F' ν' v H' a b e=>h F' ν' v H' a (s1.trans b) fun i hi=>(e i hi).trans (hn i hi)
 | exc x Γ'=>exact fun F' ν' σ' H' a b c d e=>h F' ν' σ' H' a (s1.trans b) c d fun i hi=>(e i hi).trans (hn i hi)
 | bad=>exact h
theorem SPost.seq {α:Type}{r:R (α×Gv)}{k:α×Gv->R (FL×Gv)}(hs:Sees mp ν σ) (hl:σ.length=N) (h:SPost M0 F ν H XP mp N io D (r.bind k)):EPost M0 F ν σ H XP (fun F1 Γ1 H1 a=>SPost M0 F1 ν H1 XP mp N io D (k (a,Γ1))) r:=by
 cases r with
 | ok z=>
  obtain⟨a,Γ1⟩:=z
  intro F1 H1 rs1 s1
  have h':SPost M0 F ν H XP mp N io D (k (a,Γ1)):=h
  exact h'.step s1 fun _ _=>rfl
 | exc x Γ'=>exact fun F' H' rs s=>h F' ν σ H' rs s hs hl fun _ _=>rfl
 | bad=>exact h
theorem SPost.seqO {r:R (OV×Gv)}{k:OV×Gv->R (FL×Gv)}(hs:Sees mp ν σ) (hl:σ.length=N) (h:SPost M0 F ν H XP mp N io D (r.bind k)):OPost M0 F ν σ H XP (fun F1 Γ1 H1 o v=>SPost M0 F1 ν H1 XP mp N io D (k (o,Γ1))) r:=by
 cases r with
 | ok z=>
  obtain⟨a,Γ1⟩:=z
  intro F1 H1 v rs1 s1
  have h':SPost M0 F ν H XP mp N io D (k (a,Γ1)):=h
  exact h'.step s1 fun _ _=>rfl
 | exc x Γ'=>exact fun F' H' rs s=>h F' ν σ H' rs s hs hl fun _ _=>rfl
 | bad=>exact h
end
noncomputable def sNext:SM:=fun Γ=>.ok (.next,Γ)
noncomputable def sSeq (f g:SM):SM:=fun Γ=>match f Γ with
 | .ok (.next,Γ1)=>g Γ1
 | r=>r
section
variable {X:Cx} {XP:XPT} {mp io:List Nat} {a b c e tg iter:Expr} {es:List Expr} {pos p p2 pos':Pos} {fa fb fc:EM FV} {ta tb:EM Bool} {na nb:EM (List PyData)} {fo:EM OV} {st:Stmt} {sts body els:List Stmt} {f g:SM}
theorem Kq:SB X XP mp io [] sNext:=fun M0 F Γ ν σ H D rs hs hl hp=>pss_nil.wp (hp F ν σ H rs (.refl _ _) hs hl fun _ _=>rfl)
theorem Ky {M0:Addr->Prop}{F:Fp}{Γ:Gv}{ν:Nu}{H:Hp}{N:Nat}{D:qv}{nx:St->Hp->Prop}(hp:SPost M0 F ν H XP mp N io D (sSeq f g Γ))
  (hn:∀ F1 Γ1 ν1 σ1 H1,RS M0 F1 Γ1 ν1 H1->Sees mp ν1 σ1->σ1.length=N->SPost M0 F1 ν1 H1 XP mp N io D (g Γ1)->nx σ1 H1):SPost M0 F ν H XP mp N io { D with nx:=nx } (f Γ):=by
 unfold sSeq at hp
 generalize f Γ=r at hp
 cases r with
 | ok z=>
  obtain⟨fl,Γ'⟩:=z
  cases fl with
  | next=>exact fun F' ν' σ' H' a b c d e=>hn F' Γ' ν' σ' H' a c d (hp.step b e)
  | brk=>exact hp
  | cnt=>exact hp
  | ret o=>exact hp
 | exc x Γ'=>exact hp
 | bad=>exact hp
theorem Jh (h1:SS X XP mp io st f) (h2:SB X XP mp io sts g):SB X XP mp io (st::sts) (sSeq f g):=fun M0 F Γ ν σ H D rs hs hl hp=>
 (qJ ye qh).wp (h1 M0 F Γ ν σ H _ rs hs hl (Ky hp fun F1 Γ1 ν1 σ1 H1 rs1 hs1 hl1 h=>h2 M0 F1 Γ1 ν1 σ1 H1 D rs1 hs1 hl1 h))
theorem zbJ:SS X XP mp io (.Pass pos) sNext:=fun M0 F Γ ν σ H D rs hs hl hp=>ps_pass.wp (hp F ν σ H rs (.refl _ _) hs hl fun _ _=>rfl)
noncomputable def zeX:SM:=fun _=>.bad
theorem zdX:SS X XP mp io st zeX:=fun M0 F Γ ν σ H D rs hs hl hp=>hp.elim
noncomputable def fD (fa:EM FV):EM OV:=fun Γ=>(fa Γ).bind fun (u,Γ1)=>match derS Γ1 u with
 | some x=>.ok (.d x,Γ1)
 | none=>.bad
theorem RS.newD {M0:Addr->Prop}{F:Fp}{Γ:Gv}{ν:Nu}{H:Hp}{v:V}{x:PyData}(r:RS M0 F Γ ν H) (q:Rep (MM M0 F) H v x):RS M0 F (Γ++ [some (.d x)]) (ν++ [some v]) H:=by
 have he:F Γ.length= []:=r.emp _ fun o e=>by
  rw[List.getElem?_eq_none (Nat.le_refl _)] at e; cases e
 refine⟨r.al0,r.dis0,r.nd,r.dis,fun j o e=>?_,fun j h=>?_,by simp[r.len]⟩
 ·by_cases hj:j<Γ.length
  ·rw[List.getElem?_append_left hj] at e
   obtain⟨w,e1,z⟩:=r.at' j o e
   exact⟨w,by rw[List.getElem?_append_left (by rw[r.len]; exact hj)]; exact e1,z⟩
  ·have hj':j=Γ.length:=by
    have:=(List.getElem?_eq_some_iff.mp e).1
    simp at this; omega
   subst hj'
   rw[List.getElem?_append_right (Nat.le_refl _)] at e
   have:(OV.d x)=o:=by simpa using e
   subst this
   refine⟨v,by rw[List.getElem?_append_right (by rw[r.len]; exact Nat.le_refl _),r.len]; simp,?_⟩
   rw[he]; exact .d q
 ·refine r.emp j fun o e=>h o ?_
  rw[List.getElem?_append_left (List.getElem?_eq_some_iff.mp e).1]; exact e
theorem SE.so (h:SE X XP mp a fa):SO X XP mp a (fD fa):=fun M0 F Γ ν σ H Q rs hs hp=>
 h M0 F Γ ν σ H Q rs hs (hp.seq.mono fun F1 Γ1 H1 u rs1 s1 h1 v hv=>by
  dsimp only at h1
  split at h1
  ·rename_i x e
   exact h1 F1 H1 v (rs1.newD (hv.strong rs1 e)) (.refl _ _)
  ·exact h1.elim)
noncomputable def fMove (i:Nat):EM OV:=fun Γ=>match Γ[i]? with
 | some (some o)=>.ok (o,Γ.set i none)
 | _=>.bad
theorem RS.take {M0:Addr->Prop}{F:Fp}{Γ:Gv}{ν:Nu}{H:Hp}{i:Nat}{o:OV}(r:RS M0 F Γ ν H) (e:Γ[i]?=some (some o)):∃ F' v,ν[i]?=some (some v)/\RS M0 F' (Γ.set i none++ [some o]) (ν++ [some v]) H/\Stp F H F' H:=by
 obtain⟨v,ev,q⟩:=r.at' i o e
 have hi:=(List.getElem?_eq_some_iff.mp e).1
 let F':Fp:=fun j=>if j=i then [] else if j=Γ.length then F i else F j
 have g1:F' i= []:=by show (if i=i then _ else _)=_; rw[if_pos rfl]
 have g2:F' Γ.length=F i:=by show (if Γ.length=i then _ else _)=_; rw[if_neg (by omega),if_pos rfl]
 have g3:∀ j,j≠i->j≠Γ.length->F' j=F j:=fun j h1 h2=>by show (if j=i then _ else _)=_; rw[if_neg h1,if_neg h2]
 have cls:∀ j a,a∈F' j->(j=Γ.length/\a∈F i)∨(j≠i/\j≠Γ.length/\a∈F j):=fun j a h=>by
  by_cases h1:j=i
  ·subst h1; rw[g1] at h; cases h
  ·by_cases h2:j=Γ.length
   ·subst h2; rw[g2] at h; exact .inl ⟨rfl,h⟩
   ·rw[g3 j h1 h2] at h; exact .inr ⟨h1,h2,h⟩
 have st:Stp F H F' H:=jX fun j a h=>by
  rcases cls j a h with ⟨_,h⟩ | ⟨_,_,h⟩
  ·exact⟨_,h⟩
  ·exact⟨_,h⟩
 refine⟨F',v,ev,⟨r.al0,fun j a h=>?_,fun j=>?_,fun j k a h1 h2=>?_,fun j p ej=>?_,fun j h=>?_,by simp[r.len]⟩,st⟩
 ·rcases cls j a h with ⟨_,h⟩ | ⟨_,_,h⟩
  ·exact r.dis0 _ a h
  ·exact r.dis0 _ a h
 ·by_cases h1:j=i
  ·subst h1; rw[g1]; exact .nil
  ·by_cases h2:j=Γ.length
   ·subst h2; rw[g2]; exact r.nd _
   ·rw[g3 j h1 h2]; exact r.nd _
 ·rcases cls j a h1 with ⟨e1,z1⟩ | ⟨n1,m1,z1⟩
  ·rcases cls k a h2 with ⟨e2,z2⟩ | ⟨n2,m2,z2⟩
   ·rw[e1,e2]
   ·exact absurd (r.dis _ _ a z2 z1) n2
  ·rcases cls k a h2 with ⟨e2,z2⟩ | ⟨n2,m2,z2⟩
   ·exact absurd (r.dis _ _ a z1 z2) n1
   ·exact r.dis _ _ a z1 z2
 ·have hsl:(Γ.set i none).length=Γ.length:=by simp
  by_cases hj:j<Γ.length
  ·rw[List.getElem?_append_left (by omega)] at ej
   by_cases hji:j=i
   ·subst hji; rw[List.getElem?_set_self hi] at ej; cases ej
   ·rw[List.getElem?_set_ne (Ne.symm hji)] at ej
    obtain⟨w,ew,z⟩:=r.at' j p ej
    refine⟨w,by rw[List.getElem?_append_left (by rw[r.len]; exact hj)]; exact ew,?_⟩
    rw[g3 j hji (by omega)]
    exact z.go (fun _ _ x=>zm st r.al0 x) st.tups fun _ _=>rfl
  ·have hj':j=Γ.length:=by
    have:=(List.getElem?_eq_some_iff.mp ej).1
    simp at this; omega
   subst hj'
   rw[List.getElem?_append_right (by omega),hsl] at ej
   have:o=p:=by simpa using ej
   subst this
   refine⟨v,by rw[List.getElem?_append_right (by rw[r.len]; exact Nat.le_refl _),r.len]; simp,?_⟩
   rw[g2]
   exact q.go (fun _ _ x=>zm st r.al0 x) st.tups fun _ _=>rfl
 ·by_cases h1:j=i
  ·subst h1; exact g1
  ·by_cases h2:j=Γ.length
   ·subst h2
    exact absurd (by rw[List.getElem?_append_right (by simp)]; simp) (h o)
   ·rw[g3 j h1 h2]
    refine r.emp j fun p ep=>h p ?_
    rw[List.getElem?_append_left (by simpa using (List.getElem?_eq_some_iff.mp ep).1),List.getElem?_set_ne (Ne.symm h1)]; exact ep
theorem zbE {s i:Nat}{x:Str}(hN:X.N[s]?=some x) (hv:Vis X.env.scope x) (hm:mp[s]?=some i) (hd:(x==("__debug__" :Str))=false) (hcd:(x==("__classdict__" :Str))=false) :
  SO X XP mp (.Name x pos) (fMove i):=fun M0 F Γ ν σ H Q rs hs hp=>by
 unfold fMove at hp
 split at hp
 ·rename_i o q
  obtain⟨F',v,e1,rs1,s1⟩:=rs.take q
  exact (z4 hN hv hd hcd).wp ⟨v,hs s i v hm e1,hp F' H v rs1 s1⟩
 ·exact hp.elim
noncomputable def sRet (fo:EM OV):SM:=fun Γ=>(fo Γ).bind fun (o,Γ1)=>.ok (.ret o,Γ1)
theorem zdZ (h:SO X XP mp e fo):SS X XP mp io (.Return (some e) pos) (sRet fo):=fun M0 F Γ ν σ H D rs hs hl hp=>
 (Vx zi).wp (h M0 F Γ ν σ H _ rs hs ((SPost.seqO hs hl hp).mono fun F1 Γ1 H1 o v rs1 s1 h1=>h1 F1 ν v H1 rs1 (.refl _ _) fun _ _=>rfl))
noncomputable def sRetN:SM:=fun Γ=>.ok (.ret (.d .none),Γ)
noncomputable def SOt (XP:XPT) (mp:List Nat) (t:TE) (f:EM OV):Prop:=∀ (M0:Addr->Prop) (F:Fp) (Γ:Gv) (ν:Nu) (σ:St) (H:Hp) (Q:VK),RS M0 F Γ ν H->Sees mp ν σ ->
 OPost M0 F ν σ H XP (fun F' Γ' H' o v=>Q v H') (f Γ)->t σ H Q
theorem SNt.so {t:TE}(h:SNt XP mp t na):SOt XP mp t (fOwn na):=fun M0 F Γ ν σ H Q rs hs hp=>
 h M0 F Γ ν σ H Q rs hs (hp.seq.mono fun F1 Γ1 H1 ds rs1 s1 h1 vs p r n=>by
  obtain⟨r2,s2⟩:=rs1.newO n r
  exact h1 _ _ _ r2 s2)
theorem SNt.sd {t:TE}(h:SNt XP mp t na):SOt XP mp t (fD (fNew na)):=fun M0 F Γ ν σ H Q rs hs hp=>
 h M0 F Γ ν σ H Q rs hs (by
  have hp':OPost M0 F ν σ H XP (fun F' Γ' H' o v=>Q v H') ((na Γ).bind fun (ds,Γ1)=>.ok (.d (.list ds),Γ1)):=by
   have e:fD (fNew na) Γ=(na Γ).bind fun (ds,Γ1)=>.ok (.d (.list ds),Γ1):=by
    unfold fD fNew
    cases na Γ <;> rfl
   rw[<- e]; exact hp
  exact hp'.seq.mono fun F1 Γ1 H1 ds rs1 s1 h1 vs p r n=>by
   have s2:Same H1 (upd H1 p (.lst vs)):=zw n
   exact h1 F1 _ _ ((rs1.same s2).newD (Rep.list zj (fun z=>rs1.al p z n) (r.grow s2.grow))) (.same s2))
noncomputable def sAsg (io:List Nat) (i:Nat) (fo:EM OV):SM:=fun Γ=>(fo Γ).bind fun (o,Γ1)=>if i<Γ1.length/\i∉io then .ok (.next,Γ1.set i (some o)) else .bad
theorem WE {s i:Nat}{t:TE}(hps:PS X st (WG t (Js s))) (hn:mp.Nodup) (hm:mp[s]?=some i) (hsl:s<X.N.length) (h:SOt XP mp t fo):SS X XP mp io st (sAsg io i fo):=fun M0 F Γ ν σ H D rs hs hl hp=>
 hps.wp (h M0 F Γ ν σ H _ rs hs ((SPost.seqO hs hl hp).mono fun F1 Γ1 H1 o v rs1 s1 h1=>by
  dsimp only at h1
  split at h1
  ·rename_i hh
   obtain⟨F2,rs2,s2⟩:=rs1.move hh.1
   exact h1 F2 _ _ H1 rs2 s2 (hs.set hn hm (by rw[hl]; exact hsl)) (by simpa using hl) fun j hj=>by
    rw[List.getElem?_set_ne (fun z=>hh.2 (by rw[z]; exact hj))]
  ·exact h1.elim))
theorem zdW {s i:Nat}{x:Str}(hN:X.N.Nodup) (hi:X.N[s]?=some x) (hx:Loc X.env.scope x) (hf:X.fn x=true∨X.env.scope.names.lookup x=some .local) (hn:mp.Nodup) (hm:mp[s]?=some i) (h:SO X XP mp e fo)
  (hsw:swapsWith e (some (.Name x pos')) pos.line X.env=pure false):SS X XP mp io (.Assign [.Name x pos'] e pos) (sAsg io i fo) :=
 WE (Qy hN hi hx zi hsw hf) hn hm (List.getElem?_eq_some_iff.mp hi).1 h
noncomputable def sAsgT (t:IT) (fa:EM FV):SM:=fun Γ=>(fa Γ).bind fun (u,Γ1)=>match derS Γ1 u with
 | some x=>match tgF t x Γ1 with
  | some Γ2=>.ok (.next,Γ2)
  | none=>.bad
 | none=>.bad
theorem KI {t:IT}(ha:SE X XP mp e fa) (hg:SG X mp (·∈io) tg t) (hsw:swapsWithSole [tg] e pos.line X.env=pure false) (hw:swappedStores [tg] e X.env=pure none)
  (hps:PS X (.Assign [tg] e pos) (WG (wpE X e) (wpG X tg))):SS X XP mp io (.Assign [tg] e pos) (sAsgT t fa):=fun M0 F Γ ν σ H D rs hs hl hp=>
 hps.wp (ha M0 F Γ ν σ H _ rs hs ((SPost.seq hs hl hp).mono fun F1 Γ1 H1 u rs1 s1 h1 v hv=>by
  dsimp only at h1
  split at h1
  ·rename_i x ex
   split at h1
   ·rename_i Γ2 et
    exact hg M0 F1 Γ1 Γ2 ν σ H1 v x _ rs1 hs hl (hv.strong rs1 ex) et fun F2 ν2 σ2 rs2 s2 hs2 hl2 n2 m2=>h1 F2 ν2 σ2 H1 rs2 s2 hs2 hl2 n2
   ·exact h1.elim
  ·exact h1.elim))
noncomputable def sExpr (fa:EM FV):SM:=fun Γ=>(fa Γ).bind fun (_,Γ1)=>.ok (.next,Γ1)
theorem zbI (ha:SE X XP mp e fa) (hsw:swapsWith e none pos.line X.env=pure false):SS X XP mp io (.Expr e pos) (sExpr fa):=fun M0 F Γ ν σ H D rs hs hl hp=>
 (Jg zi hsw).wp (ha M0 F Γ ν σ H _ rs hs ((SPost.seq hs hl hp).mono fun F1 Γ1 H1 u rs1 s1 h1 v hv=>h1 F1 ν σ H1 rs1 (.refl _ _) hs hl fun _ _=>rfl))
noncomputable def sIf (t:EM Bool) (f g:SM):SM:=fun Γ=>(t Γ).bind fun (b,Γ1)=>if b then f Γ1 else g Γ1
theorem zco (hc:ST X XP mp c ta) (ha:SB X XP mp io body f) (hb:SB X XP mp io els g):SS X XP mp io (.If c body els pos) (sIf ta f g):=fun M0 F Γ ν σ H D rs hs hl hp=>
 (zeR qS qh qh).wp (hc M0 F Γ ν σ H _ rs hs ((SPost.seq hs hl hp).mono fun F1 Γ1 H1 b rs1 s1 h1=>by
  cases b with
  | true=>exact Ws (ha M0 F1 Γ1 ν σ H1 D rs1 hs hl h1)
  | false=>exact Wr (hb M0 F1 Γ1 ν σ H1 D rs1 hs hl h1)))
noncomputable def qk (t:IT) (body:SM):List PyData->Gv->R (FL×Gv)
 | [],Γ=>.ok (.next,Γ)
 | d::ds,Γ=>match tgF t d Γ with
  | none=>.bad
  | some Γ1=>match body Γ1 with
   | .ok (.next,Γ2)=>qk t body ds Γ2
   | .ok (.cnt,Γ2)=>qk t body ds Γ2
   | .ok (.brk,Γ2)=>.ok (.next,Γ2)
   | r=>r
noncomputable def sFor (t:IT) (src:EM (List PyData)) (body:SM):SM:=fun Γ=>(src Γ).bind fun (ds,Γ1)=>qk t body ds Γ1
theorem zdY {t:IT}{src:EM (List PyData)}(hpo:PassesOwn (model X.prog X.w) X.A X.env X.xe) (hc:X.calm=true) (hi:SI X XP mp tg iter src) (hg:SG X mp (·∈io) tg t) (hb:SB X XP mp io body f)
  (hf:∀ x,foldedSetIterable iter X.env x=pure x):SS X XP mp io (.For tg iter body [] pos) (sFor t src f):=fun M0 F Γ ν σ H D rs hs hl hp=>by
 refine (Kg hpo hc ZE Wy qh hf).wp (hi M0 F Γ ν σ H _ rs hs ((SPost.seq hs hl hp).mono fun F1 Γ1 H1 ds rs1 s1 h1 J hJ=>?_))
 dsimp only at h1
 refine⟨fun i m σ' H'=>m=ds.length-i/\i<=ds.length/\∃ F' Γ' ν',RS M0 F' Γ' ν' H'/\Stp F1 H1 F' H'/\Sees mp ν' σ'/\σ'.length=X.N.length/\SPost M0 F' ν' H' XP mp X.N.length io D (qk t f (ds.drop i) Γ'),⟨ds.length,by simp,Nat.zero_le _,F1,Γ1,ν,rs1,.refl _ _,hs,hl,h1⟩,?_⟩
 rintro i m σ' H' ⟨rfl,hil,F',Γ',ν',rs',st',hs',hl',hp'⟩
 obtain⟨jgo,jst⟩:=hJ i F' H' st' rs1.al0
 by_cases hlt:i<ds.length
 ·obtain⟨go,yl⟩:=jgo ds[i] (by simp[hlt])
  rw[List.drop_eq_getElem_cons hlt,qk] at hp'
  refine .inr ⟨go,fun σ2 H2=>∃ F2 Γ2 ν2,RS M0 F2 Γ2 ν2 H2/\Stp F1 H1 F2 H2/\Sees mp ν2 σ2/\σ2.length=X.N.length/\SPost M0 F2 ν2 H2 XP mp X.N.length io D (qk t f (ds.drop (i+1)) Γ2),fun σ2 H2 h=>⟨ds.length-(i+1),by omega,rfl,hlt,h⟩,fun x H2 hy=>?_⟩
  obtain⟨s2,rx⟩:=yl x H2 hy
  cases et:tgF t ds[i] Γ' with
  | none=>rw[et] at hp'; exact hp'.elim
  | some Γ2=>
   rw[et] at hp'
   dsimp only at hp'
   refine hg M0 F' Γ' Γ2 ν' σ' H2 x ds[i] _ (rs'.same s2) hs' hl' rx et fun F3 ν3 σ3 rs3 s3 hs3 hl3 n3 m3=>?_
   have sA:Stp F' H' F3 H2:=(Stp.same s2).trans s3
   refine hb M0 F3 Γ2 ν3 σ3 H2 _ rs3 hs3 hl3 ?_
   cases ef:f Γ2 with
   | bad=>rw[ef] at hp'; exact hp'.elim
   | exc xx yy=>
    rw[ef] at hp'
    exact hp'.step sA n3
   | ok z=>
    obtain⟨fl,Γ4⟩:=z
    rw[ef] at hp'
    cases fl with
    | next=>exact fun F4 ν4 σ4 H4 a b c d e=>⟨F4,Γ4,ν4,a,(st'.trans sA).trans b,c,d,hp'.step (sA.trans b) fun i hi=>(e i hi).trans (n3 i hi)⟩
    | cnt=>exact fun F4 ν4 σ4 H4 a b c d e=>⟨F4,Γ4,ν4,a,(st'.trans sA).trans b,c,d,hp'.step (sA.trans b) fun i hi=>(e i hi).trans (n3 i hi)⟩
    | brk=>exact fun F4 ν4 σ4 H4 a b c d e=>hp' F4 ν4 σ4 H4 a (sA.trans b) c d fun i hi=>(e i hi).trans (n3 i hi)
    | ret o=>exact fun F4 ν4 v4 H4 a b e=>hp' F4 ν4 v4 H4 a (sA.trans b) fun i hi=>(e i hi).trans (n3 i hi)
 ·have e:i=ds.length:=by omega
  subst e
  rw[List.drop_length,qk] at hp'
  exact .inl ⟨jst (Nat.le_refl _),hp' F' ν' σ' H' rs' (.refl _ _) hs' hl' fun _ _=>rfl⟩
theorem JD {M0:Addr->Prop}{F:Fp}{Γ:Gv}{ν:Nu}{H:Hp}{i:Nat}{xs:List OV}(rs:RS M0 F Γ ν H) (e:Γ[i]?=some (some (.l xs))):∃ a vs A,ν[i]?=some (some (.ref a))/\H a=some (.lst vs)/\ORL (MM M0 F) H vs xs A/\F i=a::A/\A.Nodup:=by
 obtain⟨v,ev,q⟩:=rs.at' i _ e
 have nd:=rs.nd i
 generalize hA:F i=A at q
 rw[hA] at nd
 cases q with
 | l ea qa=>exact⟨_,_,_,ev,ea,qa,rfl,(List.nodup_cons.mp nd).2⟩
theorem kO {M0:Addr->Prop}{F:Fp}{Γ:Gv}{ν:Nu}{H:Hp}{i:Nat}{xs xs':List OV}{a:Addr}{vs vs':List V}(rs:RS M0 F Γ ν H) (e:Γ[i]?=some (some (.l xs))) (en:ν[i]?=some (some (.ref a))) (eh:H a=some (.lst vs))
  (h:∀ A,ORL (MM M0 F) H vs xs A->ORL (MM M0 F) H vs' xs' A):∃ F',RS M0 F' (Γ.set i (some (.l xs'))) ν (upd H a (.lst vs'))/\Stp F H F' (upd H a (.lst vs')) :=
 rs.mut (xs':=xs') (vs:=vs') e en fun us A eu qa eF=>by
  rw[eh] at eu; cases eu
  have nd:=rs.nd i
  rw[eF] at nd
  exact⟨A,fun _ h=>h,(List.nodup_cons.mp nd).2,h A qa⟩
noncomputable def isOwn (Γ:Gv) (i:Nat):Bool:=match Γ[i]? with
 | some (some (.l _))=>true
 | _=>false
theorem vj {Γ:Gv}{i:Nat}(h:isOwn Γ i=true):∃ xs,Γ[i]?=some (some (.l xs)):=by
 unfold isOwn at h
 split at h
 ·rename_i xs e; exact⟨xs,e⟩
 ·cases h
structure NmK (X:Cx) (mp:List Nat) (s i:Nat) (x:Str):Prop where
 hN:X.N[s]?=some x
 hv:Vis X.env.scope x
 hm:mp[s]?=some i
 hd:(x==("__debug__" :Str))=false
 hcd:(x==("__classdict__" :Str))=false
noncomputable def sApp (i:Nat) (fa:EM FV):SM:=fun Γ=>if isOwn Γ i then (fa Γ).bind fun (u,Γ1)=>match derS Γ1 u,Γ1[i]? with
 | some x,some (some (.l xs))=>if xs.length<1000000 then .ok (.next,Γ1.set i (some (.l (xs++ [.d x])))) else .bad
 | _,_=>.bad
 else .bad
theorem zdV {s i:Nat}{x:Str}(n:NmK X mp s i x) (ha:SE X XP mp a fa) (hst:starEach [a] X.env= [(false,eval a X.env)]) (hline:(p2.endLine==pos.line)=true) :
  SS X XP mp io (.Expr (.Call (.Attribute (.Name x p) "append" p2) [a] [] pos) pos') (sApp i fa):=fun M0 F Γ ν σ H D rs hs hl hp=>by
 unfold sApp at hp
 split at hp
 ·rename_i hw
  obtain⟨xs0,e0⟩:=vj hw
  obtain⟨a0,vs0,A0,en0,eh0,q0,_,_⟩:=JD rs e0
  refine (Jg (kW PySem.F.plainAttrs_list PySem.F.slot_list_append PySem.F.type_list_append Qv (z4 n.hN n.hv n.hd n.hcd) (zo zi pa_nil hst) rfl (by rw[hst]; rfl) hline hst rfl) rfl).wp ⟨.ref a0,hs s i _ n.hm en0,.inl ⟨rfl,_,SqL.of eh0⟩,?_⟩
  refine ha M0 F Γ ν σ H _ rs hs ((SPost.seq hs hl hp).mono fun F1 Γ1 H1 u rs1 s1 h1 v hv=>?_)
  dsimp only at h1
  split at h1
  ·rename_i y xs ey ex
   split at h1
   ·rename_i hz
    obtain⟨a1,vs1,A1,en1,eh1,q1,_,_⟩:=JD rs1 ex
    rw[en0] at en1
    cases en1
    refine⟨a0,vs1,v,rfl,rfl,eh1,by have:=sizeLine_eq; rw[q1.length]; omega,?_⟩
    obtain⟨F2,rs2,s2⟩:=kO rs1 ex en0 eh1 fun A qa=>qa.snoc (hv.strong rs1 ey)
    exact h1 F2 ν σ _ rs2 s2 hs hl fun _ _=>rfl
   ·exact h1.elim
  ·exact h1.elim
 ·exact hp.elim
noncomputable def sSet (i:Nat) (fi fv:EM FV):SM:=fun Γ=>(fv Γ).bind fun (u,Γ1)=>if isOwn Γ1 i then (fi Γ1).bind fun (w,Γ2)=>match derS Γ2 u,derf Γ2 w,Γ2[i]? with
 | some x,some (.int k),some (some (.l xs))=>match ixN xs.length k with
  | some j=>match xs[j]? with
   | some (.d _)=>.ok (.next,Γ2.set i (some (.l (xs.set j (.d x)))))
   | _=>.bad
  | none=>.bad
 | _,_,_=>.bad
 else .bad
theorem zd0 {s i:Nat}{x:Str}(n:NmK X mp s i x) (hi:SE X XP mp b fb) (hv:SE X XP mp a fa) (hsw:swapsWithSole [.Subscript (.Name x p) b p2] a pos.line X.env=pure false) (hw:swappedStores [.Subscript (.Name x p) b p2] a X.env=pure none)
  (hps:∀ {te:TE} {g:TG},PE X a te->PG X (.Subscript (.Name x p) b p2) g->PS X (.Assign [.Subscript (.Name x p) b p2] a pos) (WG te g)) (hpg:∀ {to ti:TE} {t:zam},PE X (.Name x p) to->PE X b ti->zcx X t->PG X (.Subscript (.Name x p) b p2) (zey to ti t)) :
  SS X XP mp io (.Assign [.Subscript (.Name x p) b p2] a pos) (sSet i fb fa):=fun M0 F Γ ν σ H D rs hs hl hp=>by
 refine (hps zi (hpg (z4 n.hN n.hv n.hd n.hcd) zi Kz)).wp (hv M0 F Γ ν σ H _ rs hs ((SPost.seq hs hl hp).mono fun F1 Γ1 H1 u rs1 s1 h1 v ov=>?_))
 dsimp only at h1
 split at h1
 ·rename_i hw
  obtain⟨xs0,e0⟩:=vj hw
  obtain⟨a0,vs0,A0,en0,eh0,q0,_,_⟩:=JD rs1 e0
  refine⟨.ref a0,hs s i _ n.hm en0,?_⟩
  refine hi M0 F1 Γ1 ν σ H1 _ rs1 hs ((SPost.seq hs hl h1).mono fun F2 Γ2 H2 w rs2 s2 h2 vi oi=>?_)
  dsimp only at h2
  split at h2
  ·rename_i y k xs ey ek ex
   split at h2
   ·rename_i j ej
    split at h2
    ·rename_i z ez
     obtain⟨a1,vs1,A1,en1,eh1,q1,_,_⟩:=JD rs2 ex
     rw[en0] at en1
     cases en1
     cases oi.weak rs2 ek
     refine⟨a0,vs1,k,j,rfl,rfl,eh1,by rw[q1.length]; exact ej,?_⟩
     obtain⟨F3,rs3,s3⟩:=kO rs2 ex en0 eh1 fun A qa=>qa.setD ((ov.stp s2 rs1.al0).strong rs2 ey) ez
     exact h2 F3 ν σ _ rs3 s3 hs hl fun _ _=>rfl
    ·exact h2.elim
   ·exact h2.elim
  ·exact h2.elim
 ·exact h1.elim
noncomputable def derfs (Γ:Gv):List FV->Option (List PyData)
 | []=>some []
 | u::us=>match derf Γ u,derfs Γ us with
  | some x,some xs=>some (x::xs)
  | _,_=>none
theorem FOks.weak {M0:Addr->Prop}{F:Fp}{Γ:Gv}{ν:Nu}{H:Hp}(rs:RS M0 F Γ ν H):∀ {vs:List V}{us:List FV}{ds:List PyData},FOks M0 F ν H vs us->derfs Γ us=some ds->RepL zA H vs ds
 | _,_,_,.nil,e=>by cases e; exact .nil
 | _,_,_,.cons h t,e=>by
  unfold derfs at e
  split at e
  ·rename_i e1 e2
   cases e
   exact .cons (h.weak rs e1) (FOks.weak rs t e2)
  ·cases e
noncomputable def fCallW (run:List OV->RF) (fl:EM (List FV)):EM FV:=fun Γ=>(fl Γ).bind fun (us,Γ1)=>match derfs Γ1 us with
 | none=>.bad
 | some ds=>match run (ds.map .d) with
  | .ok (.d x) _=>if noL x then .ok (.dat x,Γ1) else .bad
  | _=>.bad
end
end L3
namespace L2
open PySem PySem.Spec PyProof.Rows
variable [Cs]
section
variable {X:Cx} {pins:List (Addr×Obj)} {σ:List (Option V)} {H:Hp} {s:Shared} {h':Heap}
theorem Inv.turnedL {t':Nat}{ch:List Addr}(I:Inv X pins σ H s) (k:∀ b o,b∉ch->s.heap.get? b=some o->h'.get? b=some o) (there:∀ b o,b∈ch->s.heap.get? b=some o->∃ o',h'.get? b=some o') (hf:∀ b∈ch,ZL X pins H b):Inv X pins σ H { s with heap:=h',toks:=t' }:=by
 have nit:∀ b u,H b=some u->b∉ch:=fun b u e z=>by rw[(hf b z).1] at e; cases e
 refine I.step (g':=s.gens) (d':=s.drawn) (ch:=ch) (fun b hb=>?_) (fun b o _ _ hc e _=>k b o hc e) (fun b o _ _ hc e _=>⟨o.slots,k b o hc e⟩) (fun _ _ _ _ n=>n)
  (fun b o hc e=>⟨o,k b o hc e⟩) (fun _ _ e=>e) (fun _ _ _ e=>e) (fun b ps e=>⟨#[],by rw[e]; simp⟩) (fun m hm=>?_) (fun b u e=>?_) I.bare
 ·obtain⟨f0,f1,f2,f3,f4,f5⟩:=hf b hb
  exact⟨f3,f1,f4,f5⟩
 ·obtain⟨o,es,ep,ho,r⟩:=hm
  exact⟨o,es,ep,k _ o (fun z=>(hf _ z).2.1 rfl) ho,r⟩
 ·refine (I.hok b u e).stay (fun c v hc q=>k c v ?_ q) (fun _ q=>q) fun _ _ q=>q
  rcases hc with z | z
  ·rw[z]; exact nit b u e
  ·exact nit c _ z
end
noncomputable def Ite (K:PySem.W.Frag) (a:Addr):It :=
 ⟨fun i H=>∃ xs x,SqL K H a xs/\xs[i]?=some x,fun i H x H'=>∃ p y,H p=none/\H'=upd H p (.tup [.int i,y])/\x=.ref p/\∀ xs,SqL K H a xs->xs[i]?=some y,fun i H=>∃ xs,SqL K H a xs/\xs.length<=i⟩
theorem Yq {P:Program}{w:World}{K:PySem.W.Frag}{elts:List Expr}{x1:Nat}{pos:Pos}(a e it:Addr) (hei:e≠it):WT P w K (.Tuple elts x1 pos) (Ite K a) [e,it] e (fun i h=>(∃ old,IsEnum h e it i old)/\h.IsListIter it a i) where
 mem:=by simp
 obj:=fun i h st b hb=>by
  obtain⟨⟨old,he⟩,hit⟩:=st
  rcases List.mem_cons.mp hb with rfl | hb
  ·exact⟨_,he,fun v z=>by cases z⟩
  ·have eb:b=it:=by simpa using hb
   subst eb
   obtain⟨o,e,c,d⟩:=hit
   exact⟨o,e,fun v z=>by rw[d] at z; cases z⟩
 keep:=fun i h h' st k=>by
  obtain⟨⟨old,he⟩,hit⟩:=st
  exact⟨⟨old,k e (by simp) _ he⟩,hit.at fun o q=>k it (by simp) o q⟩
 item:=by
  intro X hP hw hK hc i pins s σ H E I hf st hg
  subst hP hw hK
  obtain⟨⟨old,he⟩,hit⟩:=st
  obtain⟨xs,x,hq,hx⟩:=hg
  obtain⟨its,rv,p,hz⟩:=I.list hq
  obtain⟨u,hu,ru⟩:=rv.get hx
  have helt:e<s.heap.objs.size:=Heap.lt_size he
  have hilt:it<s.heap.objs.size:=by obtain⟨_,q,_⟩:=hit; exact Heap.lt_size q
  refine wpAny_pyNext_enum_item he hit p.isList (x:=u) (by simpa using hu) hei fun h1 ho hit1 hT hsz hk=>⟨.ref s.heap.objs.size,rfl,wpAny_letOwnedTupleGo_enum ho fun h2 he2 hs2=>?_⟩
  have keep2:∀ b o,b≠e->b≠it->s.heap.get? b=some o->h2.get? b=some o:=fun b o h1' h2' q=>(hs2.2 b h1').trans (hk b o h1' h2' q)
  have hit2:h2.IsListIter it a (i+1):=hit1.at fun o q=>(hs2.2 it (Ne.symm hei)).trans q
  have I1:Inv X pins σ H { s with heap:=h2,toks:=s.toks+1 }:=I.turnedL (ch:= [e,it]) (fun b o hb q=>keep2 b o (fun z=>hb (by simp[z])) (fun z=>hb (by simp[z])) q) (fun b o hb q=>by
   rcases List.mem_cons.mp hb with rfl | hb
   ·exact⟨_,he2⟩
   ·have eb:b=it:=by simpa using hb
    subst eb
    obtain⟨o',q',_⟩:=hit2
    exact⟨o',q'⟩) hf
  have hTn:H s.heap.objs.size=none:=I.hok.fresh (Nat.le_refl _)
  have hT2:h2.get? s.heap.objs.size=some { cls:=.type "tuple",data:=.seq #[.int i s.toks,u] }:=(hs2.2 _ (Nat.ne_of_gt helt)).trans hT
  have I2:Inv X pins σ (upd H s.heap.objs.size (.tup [.int i,x])) { s with heap:=h2,toks:=s.toks+1 }:=I1.track I.sz hTn (Ne.symm (Nat.ne_of_lt I.lt)) (fun y c q=>by
    obtain⟨v,ob,hob,_⟩:=I.cell y c q
    exact Nat.ne_of_lt (Heap.lt_size hob)) (fun q hq'=>Nat.ne_of_lt (Heap.lt_size (I.pin q hq').1))
   ⟨by show 2<=sizeLine; decide,[.int i s.toks,u],.cons ⟨_,rfl⟩ (.cons ru .nil),⟨_,hT2,rfl,_,rfl⟩⟩
  refine⟨.ref s.heap.objs.size,_,I2,rfl,⟨_,x,hTn,rfl,rfl,fun ys hy=>by rw[I.list_inj hy hq]; exact hx⟩,⟨⟨u,by simpa using he2⟩,hit2⟩,fun b hb=>?_⟩
  rw[ze]
  ·exact (hf b hb).1
  ·rcases List.mem_cons.mp hb with rfl | hb
   ·exact Nat.ne_of_lt helt
   ·have eb:b=it:=by simpa using hb
    subst eb; exact Nat.ne_of_lt hilt
 done:=by
  intro X hP hw hK hc i pins s σ H E I hf st hg
  subst hP hw hK
  obtain⟨⟨old,he⟩,hit⟩:=st
  obtain⟨xs,hq,hx⟩:=hg
  obtain⟨its,rv,p,hz⟩:=I.list hq
  obtain⟨f0,f1,f2,f3,f4,f5⟩:=hf it (by simp)
  have hl:=rv.length
  exact wpAny_pyNext_enum_end (I.ok.hd hc) he hit p.isList (by simp; omega) fun h1 eb=>⟨rfl,I.turned (t':=s.toks) (fun b o hb q=>eb b o hb q) f0 f1 f3 f4 f5⟩
 self:=fun _ _ _ _ _ st h=>by
  obtain⟨⟨old,he⟩,_⟩:=st
  exact wpAny_pyIter_enum he h
theorem boot_enumW:bootBuiltins "enumerate" =some (.type "enumerate"):=by decide +kernel
section
variable {X:Cx}
noncomputable def zeA (K:PySem.W.Frag) (tl:TE):TI:=fun σ H R=>tl σ H fun x H1=>∃ a,x=.ref a/\(∃ xs,SqL K H1 a xs)/\R (Ite K a) H1
theorem za9 {elts:List Expr}{x1:Nat}{pt:Pos}{l:Expr}{p pos:Pos}(hg:Gl X "enumerate") (hm:X.mg "enumerate" =none) (hst:starEach [l] X.env= [(false,eval l X.env)]) :
  PI X (.Tuple elts x1 pt) (.Call (.Name "enumerate" p) [l] [] pos) (zeA X.K (wpE X l)):=by
 intro pins s σ H R I h
 have h':KO (wpE X l) zd6 σ H (fun vs H1=>∃ v,vs= [v]/\∃ a,v=.ref a/\(∃ xs,SqL X.K H1 a xs)/\R (Ite X.K a) H1):=wpE.mono h fun v H1 q=>⟨v,rfl,q⟩
 refine Call_ (Zl I hg hm boot_enumW (PyProof.Rows.callWith_type1 (thn ((zo zi pa_nil hst) pos pins s σ H _ I h') fun us s1 ⟨vs,H1,I1,r1,q1⟩=>?_) hst rfl))
 obtain⟨v,rfl,a,rfl,⟨xs,hq⟩,q⟩:=q1
 obtain⟨u,rfl,ru⟩:=jz r1
 cases ru
 obtain⟨its,rv,pl,hz⟩:=I1.list hq
 refine call_enumerate_list pl.isList fun h1 he hit hsz hk=>?_
 refine wpAny_pyIter_enum he ?_
 have I2:Inv X pins σ H1 { s1 with heap:=h1 }:=I1.kept (t':=s1.toks) hk
 refine⟨s1.heap.objs.size+1,[s1.heap.objs.size+1,s1.heap.objs.size],_,_,H1,rfl,I2,Yq a _ _ (Nat.succ_ne_self _),⟨⟨_,he⟩,hit⟩,fun b hb=>?_,q⟩
 rcases List.mem_cons.mp hb with rfl | hb
 ·exact I1.fpOk (Nat.le_succ _) (I1.hok.fresh (Nat.le_succ _))
 ·have eb:b=s1.heap.objs.size:=by simpa using hb
  subst eb
  exact I1.fpOk (Nat.le_refl _) (I1.hok.fresh (Nat.le_refl _))
end
end L2
namespace L3
open PySem PySem.Spec PyProof.Rows L2
variable [Cs]
noncomputable def jc (ds:List PyData):List PyData:=ds.zipIdx.map fun p=>PyData.tuple [.int p.2,p.1]
theorem wF {ds:List PyData}{i:Nat}{d:PyData}(h:(jc ds)[i]?=some d):∃ x,ds[i]?=some x/\d=.tuple [.int i,x]:=by
 unfold jc at h
 rw[List.getElem?_map,List.getElem?_zipIdx] at h
 cases e:ds[i]? with
 | none=>rw[e] at h; cases h
 | some x=>rw[e] at h; simp at h; exact⟨x,rfl,h.symm⟩
theorem yV (ds:List PyData):(jc ds).length=ds.length:=by simp[jc]
noncomputable def fEnum (fa:EM FV):EM (List PyData):=fun Γ=>(fa Γ).bind fun (u,Γ1)=>match derS Γ1 u with
 | some (.list ds)=>.ok (jc ds,Γ1)
 | _=>.bad
theorem zaP {M0:Addr->Prop}{F:Fp}{K:PySem.W.Frag}{H1:Hp}{l:Addr}{ds:List PyData}{vs:List V}(e:H1 l=some (.lst vs)) (n:¬ MM M0 F l) (r:RepL (MM M0 F) H1 vs ds):JI M0 F (Ite K l) (jc ds) H1:=fun i F' H' s h0=>by
 have e':H' l=some (.lst vs):=(s.keep l _ e fun j hj=>n (.inr ⟨j,hj⟩)).1
 refine⟨fun d hd=>?_,fun hl=>⟨vs,SqL.of e',by rw[yV] at hl; rw[r.length]; exact hl⟩⟩
 obtain⟨x,hx,rfl⟩:=wF hd
 obtain⟨v,hv,rv⟩:=r.get' hx
 refine⟨⟨vs,v,SqL.of e',hv⟩,fun z H2 ⟨p,y,np,e2,ez,hy⟩=>?_⟩
 subst e2 ez
 have:=hy vs (SqL.of e')
 rw[hv] at this; cases this
 exact⟨zw np,.tuple zj (.cons (.int _) (.cons ((zm s h0 rv).grow (zw np).grow) .nil))⟩
section
variable {X:Cx} {XP:XPT} {mp:List Nat} {a:Expr} {p pos:Pos} {fa:EM FV}
theorem zbv {x:Str}{elts:List Expr}{x1:Nat}{pt:Pos}(B:BiK X x (.type "enumerate")) (ex:x= "enumerate") (ha:SE X XP mp a fa) (hst:starEach [a] X.env= [(false,eval a X.env)]):SI X XP mp (.Tuple elts x1 pt) (.Call (.Name x p) [a] [] pos) (fEnum fa):=fun M0 F Γ ν σ H R rs hs hp=>by
 subst ex
 exact (za9 B.gl B.mg hst).wp (ha.run rs hs hp fun F1 Γ1 H1 u v rs1 s1 o1 h1=>by
  dsimp only at h1
  split at h1
  ·rename_i ds eu
   obtain⟨l,vs,rfl,e,n,r⟩:=(o1.strong rs1 eu).lst_inv
   exact⟨l,rfl,⟨vs,SqL.of e⟩,h1 F1 H1 rs1 (.refl _ _) _ (zaP e n r)⟩
  ·exact h1.elim)
end
end L3
namespace L2
open PySem PySem.Spec PyProof.Rows
variable [Cs]
structure zej (M:Addr->Prop) (H:Hp) (b c:Addr) (cells:List Int) (i l t s:Int):Prop where
 mb:M b
 hb:H b=some (.lst [.ref c,.int i,.int l,.int t,.int s])
 hc:Rep M H (.ref c) (.list (cells.map PyData.int))
 hi:0<=i
noncomputable def BoxAt (M:Addr->Prop) (H:Hp) (b:Addr):Prop:=∃ c cells i l t s,zej M H b c cells i l t s
theorem BoxAt.mem {M:Addr->Prop}{H:Hp}{b:Addr}(B:BoxAt M H b):M b:=let ⟨_,_,_,_,_,_,B⟩:=B; B.mb
theorem BoxAt.lst {M:Addr->Prop}{H:Hp}{b:Addr}(B:BoxAt M H b):∃ xs,H b=some (.lst xs):=let ⟨_,_,_,_,_,_,B⟩:=B; ⟨_,B.hb⟩
noncomputable def KH (K:PySem.W.Frag):Sp:=fun vs H Q _=>∃ (a:Addr) (ns:List Int),vs= [.ref a]/\SqL K H a (ns.map V.int)/\ns.length<=63/\∀ b H',Same H H'->H b=none->H' b≠none->BoxAt (fun a=>a=b) H' b->Q (.ref b) H'
section
variable {X:Cx} {M:Addr->Prop} {Γ:Ge} {σ:St} {H:Hp} {D:qv} {sts:List Stmt} {e e1:Expr} {p pos pos':Pos} {x:Str} {k:Nat} {b:Addr} {n:Int} {Q:VK}
end
theorem wg {n i:Nat}{z:Ent}(e:(List.replicate n none:Ge)[i]?=some (some z)):False:=by
 rw[List.getElem?_replicate] at e
 split at e
 ·cases e
 ·cases e
theorem RS.blank {M:Addr->Prop}{σ:St}{H:Hp}(n:Nat) (al:Al M H):RS M (List.replicate n none) σ H:=⟨al,fun i d e=>(wg e).elim,fun i d e=>(wg e).elim⟩
section
variable {X:Cx} {H:Hp} {D:qv} {sts:List Stmt} {p pos pos' p2:Pos} {x:Str} {k:Nat} {Q:VK}
theorem zef {a:Addr}{ns:List Int}{N:List Str}(hN:X.N.Nodup) (kb:Kn X.prog X.w X.K X.mg X.base CX0 "_law_box" k (KH X.K)) (hr:Room k X.A) (hS:SqL X.K H a (ns.map V.int)) (hlen:ns.length<=63)
  (kk:∀ b σ' H',Same H H'->H b=none->BoxAt (fun a=>a=b) H' b->RS (fun a=>a=b) ((List.replicate X.N.length none).set 1 (some (.v (.ref b)))) σ' H'->σ'.length=X.N.length->wpB X sts D σ' H')
  (hNe:X.N=N) (h0:N[0]?=some ("_law_script" :Str)) (hi:X.N[1]?=some x:=by rfl) (hv0:Vis X.env.scope "_law_script" :=by first | exact Or.inl rfl | exact Or.inr (Or.inl rfl) | exact Or.inr (Or.inr rfl)) (hx:Loc X.env.scope x:=by first | exact Or.inl rfl | exact Or.inr rfl)
  (hf:X.fn x=true∨X.env.scope.names.lookup x=some .local:=by first | exact .inl rfl | exact .inr rfl | assumption) (hg:Gl X "_law_box" :=by rfl)
  (hs:starEach [.Name "_law_script" p2] X.env= [(false,eval (.Name "_law_script" p2) X.env)]:=by rfl) (hpl:(backTo p (starEach [] X.env)).any (·.1)=false:=by rfl) {p3:Pos} :
  wpB X (.Assign [.Name x pos'] (.Call (.Name "_law_box" p3) [.Name "_law_script" p2] [] p) pos::sts) D (start N [.ref a]) H:=by
 have hl:1<N.length:=by rw[<- hNe]; exact (List.getElem?_eq_some_iff.mp hi).1
 have hst:(start N [V.ref a]).length=N.length:=WF (by simp; omega)
 refine zff 1 (Q:=fun v H'=>∃ b,v=.ref b/\Same H H'/\H b=none/\BoxAt (fun a=>a=b) H' b) hN (zb1 kb hr hg zeO ((zo (z4 (by rw[hNe]; exact h0) hv0) pa_nil hs).wp ⟨.ref a,by simp[start],a,ns,rfl,hS,hlen,fun b H' s' nb _ hB=>⟨b,rfl,s',nb,hB⟩⟩) (by decide) hs hpl) (fun v H1 ⟨b,ev,s1,nb,hB⟩=>?_) hi hx rfl hf
 subst ev
 refine kk b _ H1 s1 nb hB ((RS.blank X.N.length (fun c hc=>?_)).setV (by rw[hst]; exact hl)) (by rw[List.length_set,hst,hNe])
 subst hc
 obtain⟨xs,hx⟩:=hB.lst
 rw[hx]
 exact fun z=>nomatch z
end
end L2
set_option maxHeartbeats 4000000
namespace L2
open PySem PySem.Spec PyProof.Rows
variable [Cs]
theorem IntsAre.of:∀ {ns:List Int}{us:List Value},Vals (ns.map V.int) us->IntsAre us ns
 | [],_,.nil=>.nil
 | n::ns,_,.cons ⟨t,e⟩ r=>by subst e; exact .cons n t (IntsAre.of r)
section
variable {X:Cx}
end
end L2
namespace L3
open PySem PySem.Spec PyProof.Rows L2
variable [Cs]
noncomputable def Zk:List PyData->Option (List Int)
 | []=>some []
 | .int b::r=>(Zk r).map (b::·)
 | _=>none
theorem Ju (ns:List Int):Zk (ns.map .int)=some ns:=by
 induction ns with
 | nil=>rfl
 | cons b r ih=>simp[Zk,ih]
section
variable {X:Cx} {XP:XPT} {mp:List Nat} {a:Expr} {p pos:Pos} {fa:EM FV}
end
end L3
set_option maxHeartbeats 4000000
namespace L3
open PySem PySem.Spec PyProof.Rows L2
variable [Cs]
section
variable {X:Cx} {XP:XPT} {mp:List Nat} {a b:Expr} {p p2 pos:Pos} {fa fb:EM FV}
noncomputable def V6 (fa:EM FV) (fl fh:EM (Option Int)):EM FV:=fun Γ=>(fa Γ).bind fun (u,Γ1)=>(fl Γ1).bind fun (lo,Γ2)=>(fh Γ2).bind fun (hi,Γ3)=>match derS Γ3 u with
 | some (.tuple ds)=>if HT.sIx ds.length 0 lo=0/\HT.sIx ds.length ds.length hi=ds.length then .bad else .ok (.dat (.tuple (j6 ds lo hi)),Γ3)
 | _=>.bad
theorem zbm {lo hi:Option Expr}{fl fh:EM (Option Int)}(ha:SE X XP mp a fa) (hl:SOp X XP mp lo fl) (hh:SOp X XP mp hi fh):SE X XP mp (.Subscript a (.Slice lo hi none p2) pos) (V6 fa fl fh):=fun M0 F Γ ν σ H Q rs hs hp=>by
 obtain⟨tl,pl,kl⟩:=hl
 obtain⟨th,ph,kh⟩:=hh
 refine (ZD zdR zi pl ph).wp (ha.run rs hs hp fun F1 Γ1 H1 u v rs1 s1 o1 h1=>?_)
 refine kl M0 F1 Γ1 ν σ H1 _ rs1 hs (h1.seq.mono fun F2 Γ2 H2 lo rs2 s2 h2=>?_)
 refine kh M0 F2 Γ2 ν σ H2 _ rs2 hs (h2.seq.mono fun F3 Γ3 H3 hi rs3 s3 h3=>?_)
 dsimp only at h3
 split at h3
 ·rename_i ds e
  split at h3
  ·exact h3.elim
  ·rename_i hw
   have o3:=((o1.stp s2 rs1.al0).stp s3 rs2.al0)
   obtain⟨l,vs,rfl,el,rl⟩:=(o3.strong rs3 e).tup_inv
   exact⟨l,vs,rfl,SqT.of el,by rw[rl.length]; exact hw,fun p n=>h3 F3 _ (rs3.same (zw n)) (.same (zw n)) _ (Rep.tuple zj ((vB rl lo hi).grow (zw n).grow))⟩
 ·exact h3.elim
end
end L3
set_option maxHeartbeats 4000000
namespace Tab
open PySem PySem.SetTable
noncomputable def stp (m i:Nat):Nat:=(i*5+1) % (m+1)
noncomputable def it (m:Nat):Nat->Nat->Nat
 | 0,i=>i
 | n+1,i=>it m n (stp m i)
noncomputable def live (m:Nat) (owner:Array (Option Nat)):List Nat:=(List.range (m+1)).filterMap fun j=>owner.getD j none
end Tab
set_option maxHeartbeats 4000000
namespace Tab
open PySem PySem.SetTable
theorem Jo {α:Type}:∀ {l:List α}{n:Nat}(h:n<l.length),(l[n]::l.eraseIdx n).Perm l
 | x::l,0,_=>.refl _
 | x::l,n+1,h=>((List.Perm.swap x (l[n]'(by simpa using h)) _)).trans ((Jo (l:=l) (n:=n) (by simpa using h)).cons x)
theorem yd {α:Type}(next:Nat->Nat):∀ (fuel k:Nat) (left:List α) (out:Array α),left.length<=fuel->(pickOrder.go next fuel k left out).toList.Perm (out.toList++left)
 | 0,k,left,out,h=>by
  have:left= []:=List.length_eq_zero_iff.mp (by omega)
  subst this
  rw[pickOrder.go,List.append_nil]
 | fuel+1,k,left,out,h=>by
  rw[pickOrder.go]
  cases left with
  | nil=>simp
  | cons x l=>
   have hlt:next k % (x::l).length<(x::l).length:=Nat.mod_lt _ (by simp)
   rw[List.getElem?_eq_getElem hlt]
   dsimp only
   refine (yd next fuel (k+1) _ _ ?_).trans ?_
   ·rw[List.length_eraseIdx_of_lt hlt]; omega
   ·rw[Array.toList_push,List.append_assoc]
    exact List.Perm.append_left _ (Jo hlt)
theorem Yg {α:Type}(next:Nat->Nat) (xs:Array α):(pickOrder next xs).toList.Perm xs.toList:=by
 have:=yd next xs.size 0 xs.toList #[] (by simp)
 simpa [pickOrder] using this
section
variable {prog:Program} {w:World} {A:Around} {E:Value->Shared->Prop} {s:Shared}
theorem zeG {es:Array (Int×Value)}(h:ElemsOf (intKind prog w) es.toList):∀ e∈es.toList,∃ n t,e.2=.int n t:=fun e he=>by
 obtain⟨⟨k,hk,_⟩,_⟩:=h e he
 obtain⟨t,ht⟩:=Value.isInt_shape hk
 exact⟨k,t,ht⟩
theorem Km {l:List Addr}{Q:Bool->Shared->Prop}(h:∀ b∈l,∃ S n,s.heap.SetOf (intKind prog w) b S n) (hQ:Q true s):wpAny (model prog w) A (setsQuiet l) Q E s:=by
 unfold setsQuiet
 refine wpAny_bind ?_
 refine wpAny_forIn_list _ (fun rest b s'=>b=(none,())/\s'=s/\∀ x∈rest,∃ S n,s.heap.SetOf (intKind prog w) x S n) _ ?_ ?_ l _ ⟨rfl,rfl,h⟩
 ·rintro a rest b s' ⟨rfl,rfl,hh⟩
  obtain⟨S,n,o,es,ep,t,ho,hex,hd,hel,hmem,hb,hf,hn⟩:=hh a List.mem_cons_self
  refine wpAny_bind (wpAny_setEntries_of ho hd hf ?_)
  refine wpAny_bind (wpAny_forIn_array' _ (fun (rest:List (Int×Value)) b s''=>b=(none,())/\s''=s'/\∀ e∈rest,∃ n t,e.2=.int n t) _ ?_ ?_ es _ ⟨rfl,rfl,zeG hel⟩)
  ·rintro⟨hh2,x⟩ rest b s'' ⟨rfl,rfl,hi⟩
   obtain⟨n,t,e⟩:=hi _ List.mem_cons_self
   dsimp only at e
   subst e
   exact wpAny_pure ⟨rfl,rfl,fun e he=>hi e (List.mem_cons_of_mem _ he)⟩
  ·rintro b s'' ⟨rfl,rfl,_⟩
   exact wpAny_pure ⟨rfl,rfl,fun x hx=>hh x (List.mem_cons_of_mem _ hx)⟩
 ·rintro b s' ⟨rfl,rfl,_⟩
  exact wpAny_pure hQ
theorem VA {a:Addr}{o:Obj}{es:Array (Int×Value)}{ep:Nat}{t:SetTable}{Q':Array (Int×Value)->Shared->Prop}(ho:s.heap.get? a=some o) (hd:o.data=.set es ep t) (hf:t.fits es.size=true)
  (hc:(w.params.followText "set-order" ||(t.led&&t.plain)||decide (es.size<=1))=true) (hq:∀ es',es'.toList.Perm es.toList->Q' es' s):wpAny (model prog w) A (setWalk a) Q' E s:=by
 unfold setWalk setsByText
 refine wpAny_bind (wpAny_setState_of ho hd hf ?_)
 refine wpAny_bind (wpAny_bind (wpAny_askSetting (wpAny_pure ?_)))
 show wpAny _ _ (if w.params.followText "set-order" =true then _ else _) _ _ _
 by_cases hT:w.params.followText "set-order" =true
 ·rw[if_pos hT]
  exact wpAny_bind (wpAny_askSetting (wpAny_pure (hq _ (Yg _ _))))
 ·rw[if_neg hT]
  have hT':w.params.followText "set-order" =false:=by simpa using hT
  rw[hT',Bool.false_or,Bool.or_eq_true,Bool.and_eq_true,decide_eq_true_eq] at hc
  split
  ·rename_i hdr
   exfalso
   change (!t.plain&&decide (es.size>1))=true at hdr
   rw[Bool.and_eq_true,decide_eq_true_eq] at hdr
   rcases hc with ⟨_,hp⟩ | hz
   ·rw[hp] at hdr; exact absurd hdr.1 (by decide)
   ·omega
  ·show wpAny _ _ ((if (!t.led&&decide (es.size>1))=true then unsupported "set:maker-not-led" else pure PUnit.unit) >>= fun _=>pure es) _ _ _
   rw[if_neg]
   ·exact wpAny_bind (wpAny_pure (wpAny_pure (hq es (.refl _))))
   ·intro z
    rw[Bool.and_eq_true,decide_eq_true_eq] at z
    rcases hc with ⟨hl,_⟩ | hz
    ·rw[hl] at z; exact absurd z.1 (by decide)
    ·omega
theorem walk_of {a:Addr}{o:Obj}{es:Array (Int×Value)}{ep:Nat}{t:SetTable}{others:List Addr}{Q:Array (Int×Value)->Shared->Prop}(ho:s.heap.get? a=some o) (hd:o.data=.set es ep t) (hf:t.fits es.size=true)
  (hl:∀ b∈a::others,∃ S n,s.heap.SetOf (intKind prog w) b S n) (h:∀ es',es'.toList.Perm es.toList->Q es' s):wpAny (model prog w) A (setWalkUnseen a others none) Q E s:=by
 unfold setWalkUnseen setsByText
 refine wpAny_bind (wpAny_setState_of ho hd hf ?_)
 dsimp only
 refine wpAny_bind (wpAny_bind (wpAny_askSetting (wpAny_pure ?_)))
 show wpAny _ _ (if (w.params.followText "set-order" ||t.led&&t.plain||decide (es.size<=1))=true then _ else _) _ _ _
 split
 ·rename_i hc
  exact VA ho hd hf hc h
 ·refine wpAny_bind (Km hl ?_)
  simp only[Bool.not_true,Bool.false_eq_true,if_false]
  exact wpAny_bind (wpAny_rule (wpAny_pure (h es (.refl _))))
inductive Keys (prog:Program) (w:World):List (Int×Value)->List Int->Prop
 | nil:Keys prog w [] []
 | cons {k:Int} {t:Tok} {es ks}:Keys prog w es ks->Keys prog w (((intKind prog w).hash k,.int k t)::es) (k::ks)
theorem Keys.mem {es:List (Int×Value)}{ks:List Int}(h:Keys prog w es ks) (k:Int):(∃ e∈es,(intKind prog w).is k e.2=true)↔k∈ks:=by
 induction h with
 | nil=>simp
 | @cons k' t es ks _ ih=>
  constructor
  ·rintro⟨e,he,hk⟩
   rcases List.mem_cons.mp he with rfl | he
   ·have hk2:Value.isInt k (.int k' t)=true:=hk
    obtain⟨t2,e2⟩:=Value.isInt_shape hk2
    injection e2 with e3
    rw[<- e3]; exact List.mem_cons_self
   ·exact List.mem_cons_of_mem _ (ih.mp ⟨e,he,hk⟩)
  ·intro hk
   rcases List.mem_cons.mp hk with rfl | hk
   ·exact⟨_,List.mem_cons_self,intKind_is _ _ _ _⟩
   ·obtain⟨e,he,h2⟩:=ih.mpr hk
    exact⟨e,List.mem_cons_of_mem _ he,h2⟩
theorem Keys.length {es:List (Int×Value)}{ks:List Int}(h:Keys prog w es ks):es.length=ks.length:=by
 induction h with
 | nil=>rfl
 | cons _ ih=>simp[ih]
noncomputable def dedup (ks:List Int):List Int:=ks.foldl PyProof.Rows.step_dedup []
end
end Tab
set_option maxHeartbeats 4000000
namespace Tab
open PySem PySem.SetTable
section
variable {prog:Program} {w:World} {A:Around} {E:Value->Shared->Prop} {s:Shared}
structure Has (prog:Program) (w:World) (h:Heap) (r:Addr) (ks:List Int) (d m:Nat) (o:Obj) (es:Array (Int×Value)) (ep:Nat) (t:SetTable):Prop where
 get:h.get? r=some o
 ex:o.ExactSet
 dt:o.data=.set es ep t
 el:ElemsOf (intKind prog w) es.toList
 key:Keys prog w es.toList ks
 nd:ks.Nodup
 fits:t.fits es.size=true
 dm:t.dummies.size<=d
 mke:m<=t.mask
 sm:es.size<scanBound
theorem Has.setOf {h:Heap}{r:Addr}{ks:List Int}{d m:Nat}{o:Obj}{es:Array (Int×Value)}{ep:Nat}{t:SetTable}(x:Has prog w h r ks d m o es ep t):h.SetOf (intKind prog w) r (fun k=>decide (k∈ks)) ks.length :=
 ⟨o,es,ep,t,x.get,x.ex,x.dt,x.el,fun k=>by rw[decide_eq_true_eq]; exact (x.key.mem k).symm,x.sm,x.fits,by rw[<- x.key.length]; simp⟩
theorem Keys.eraseIdx:∀ {es:List (Int×Value)}{ks:List Int}(i:Nat),Keys prog w es ks->Keys prog w (es.eraseIdx i) (ks.eraseIdx i)
 | _,_,i,.nil=>by simp; exact .nil
 | _,_,0,.cons h=>h
 | _,_,i+1,.cons h=>.cons (h.eraseIdx i)
theorem Keys.find:∀ {es:List (Int×Value)}{ks:List Int}{i:Nat}{k:Int},Keys prog w es ks->es.findIdx? (fun e=>(intKind prog w).is k e.2)=some i->ks[i]?=some k:=by
 intro es ks i k h e
 obtain⟨hi,hp,_⟩:=List.findIdx?_eq_some_iff_getElem.mp e
 have H:∀ {es:List (Int×Value)} {ks:List Int} (i:Nat) (hi:i<es.length),Keys prog w es ks->(intKind prog w).is k es[i].2=true->ks[i]?=some k:=by
  intro es ks i hi h
  induction h generalizing i with
  | nil=>simp at hi
  | @cons k' t es ks h ih=>
   intro hk
   cases i with
   | zero=>
    have hk2:Value.isInt k (.int k' t)=true:=hk
    obtain⟨t2,e2⟩:=Value.isInt_shape hk2
    injection e2 with e3
    rw[e3]; rfl
   | succ i=>exact ih i (by simpa using hi) hk
 exact H i hi h hp
end
end Tab
set_option maxHeartbeats 4000000
namespace Tab
open PySem PySem.SetTable
section
variable {prog:Program} {w:World} {A:Around} {E:Value->Shared->Prop} {s:Shared}
end
end Tab
set_option maxHeartbeats 4000000
namespace Tab
open PySem PySem.SetTable
section
variable {prog:Program} {w:World} {A:Around} {E:Value->Shared->Prop} {s:Shared}
end
end Tab
set_option maxHeartbeats 4000000
namespace L2
open PySem PySem.Spec PyProof.Rows
variable [Cs]
theorem Vl (ns:List Int):(List.range ns.length).map (fun i=>ns.getD i 0)=ns:=by
 apply List.ext_getElem
 ·simp
 ·intro i h1 h2
  simp at h1
  simp[h1]
theorem Jr (ns:List Int):firstMet (fun i=>ns.getD i 0) ns.length=Tab.dedup ns:=by
 unfold firstMet Tab.dedup
 rw[Vl]
section
variable {X:Cx}
theorem wE (ns:List Int):(Tab.dedup ns).length<=ns.length:=by
 have h1:∀ (l acc:List Int),(l.foldl PyProof.Rows.step_dedup acc).length<=acc.length+l.length:=by
  intro l
  induction l with
  | nil=>intro acc; simp
  | cons x l ih=>
   intro acc
   rw[List.foldl_cons]
   refine Nat.le_trans (ih _) ?_
   rw[PyProof.Rows.step_length,List.length_cons]
   split <;> omega
 have:=h1 ns []
 simpa [Tab.dedup] using this
end
end L2
namespace L3
open PySem PySem.Spec PyProof.Rows L2
variable [Cs]
section
variable {X:Cx} {XP:XPT} {mp:List Nat} {a b:Expr} {fa fb:EM FV}
end
end L3
namespace L2
open PySem PySem.Spec PyProof.Rows
theorem JQ (n:Nat):sliceRange ((n:Int)-1) (-1) (-1)=(List.range n).map fun k=>n-1-k:=by
 unfold sliceRange
 have h1:¬ ((-1:Int)>0):=by decide
 have hc:(if (-1:Int)>0 then (if (n:Int)-1< -1 then (-1-((n:Int)-1)+ -1-1) / -1 else 0) else (if (n:Int)-1> -1 then ((n:Int)-1- -1- -1-1) / (- -1) else 0)).toNat=n:=by
  rw[if_neg h1]
  split
  ·have:((n:Int)-1- -1- -1-1) / (- -1)=n:=by
    have e:(- -1:Int)=1:=by decide
    rw[e,Int.ediv_one]; omega
   rw[this]; rfl
  ·omega
 simp only[hc]
 apply List.map_congr_left
 intro k hk
 have:=List.mem_range.mp hk
 omega
theorem J6 (its:List Value):slicePick its.toArray none none (some (-1))=its.reverse.toArray:=by
 unfold slicePick
 have hb:sliceBounds none none (some (-1)) its.toArray.size=((its.length:Int)-1,-1,-1):=by
  simp[sliceBounds]
 rw[hb]
 simp only[JQ]
 congr 1
 rw[List.filterMap_map]
 have:∀ (l:List Nat),(∀ k∈l,k<its.length)->l.filterMap ((fun x=>its.toArray[x]?)∘fun k=>its.length-1-k)=l.filterMap fun k=>its.reverse[k]?:=by
  intro l hl
  induction l with
  | nil=>rfl
  | cons k l ih=>
   have hk:=hl k (by simp)
   have e:((fun x=>its.toArray[x]?)∘fun k=>its.length-1-k) k=its.reverse[k]?:=by
    simp only[Function.comp,List.getElem?_toArray]
    rw[List.getElem?_reverse hk]
   rw[List.filterMap_cons,List.filterMap_cons,e,ih fun j hj=>hl j (List.mem_cons_of_mem _ hj)]
 rw[this _ fun k hk=>List.mem_range.mp hk]
 have key:∀ (xs:List Value),(List.range xs.length).filterMap (fun k=>xs[k]?)=xs:=by
  intro xs
  induction xs with
  | nil=>rfl
  | cons x xs ih=>
   rw[List.length_cons,List.range_succ_eq_map,List.filterMap_cons]
   simp only[List.getElem?_cons_zero,List.filterMap_map]
   congr 1
 have:=key its.reverse
 rwa [List.length_reverse] at this
section
variable {X:Cx} {e:Expr} {te:TE} {st:Expr} {ts:TO} {pos p2:Pos}
noncomputable def tRev (K:PySem.W.Frag) (te:TE) (ts:TO):TE:=fun σ H Q=>te σ H fun x H1=>ts σ H1 fun k H2=>k=some (-1)/\∃ a xs,x=.ref a/\SqL K H2 a xs/\∀ p,H2 p=none->Q (.ref p) (upd H2 p (.lst xs.reverse))
theorem zdl (he:PE X e te) (hst:PO X (some st) ts):PE X (.Subscript e (.Slice none none (some st) p2) pos) (tRev X.K te ts):=by
 intro pins s σ H Q I h
 refine Subscript_ (thn (he pins s σ H _ I h) fun v s1 ⟨x,H1,I1,r1,q1⟩=>?_)
 refine wpAny_Slice ?_
 rw[evalPart_none]
 refine wpAny_pure (wpAny_pure ?_)
 refine thn (hst pins s1 σ H1 _ I1 q1) fun vs s3 ⟨k,H3,I3,ps,q3⟩=>?_
 obtain⟨rfl,a,xs,rfl,hx,q⟩:=q3
 have I4:Inv X pins σ H3 { s3 with heap:=s3.heap.push { cls:=.type "slice",data:=.fields #[.none,.none,vs] } }:=I3.kept (t':=s3.toks) fun b ob q=>Heap.get?_push_of_some _ q
 have hs:(s3.heap.push { cls:=.type "slice",data:=.fields #[.none,.none,vs] }).IsSliceOf s3.heap.objs.size .none .none vs:=Heap.IsSliceOf.new ..
 show wpAny (model X.prog X.w) X.A (subscriptTail e (.Slice none none (some st) p2) v (.ref s3.heap.objs.size)) (EP X pins σ Q) X.xe { s3 with heap:=s3.heap.push { cls:=.type "slice",data:=.fields #[.none,.none,vs] } }
 cases r1
 obtain⟨its,r,ht,hz⟩:=I4.list hx
 have hlen:=r.length
 refine tail_any (ops:= [.ref a,.ref s3.heap.objs.size]) ht.isList.typeIs slot_list_getitem.lookup ?_ (by with_unfolding_all rfl)
 refine wpAny_getItem_list_slice ht.isList hs .none .none ps (by simp) ?_ (by rw[List.size_toArray] <;> omega)
 rw[J6]
 refine⟨.ref _,_,I4.laid (t':=s3.toks) (o:=.lst xs.reverse) (fun b ob q=>Heap.get?_push_of_some _ q) (Nat.le_refl _) ?_,rfl,q _ (I4.hok.fresh (Nat.le_refl _))⟩
 exact⟨by rw[List.length_reverse]; exact hz,_,0,r.reverse,Heap.get?_push_size _ rfl⟩
end
end L2
namespace L2
open PySem PySem.Spec PyProof.Rows
variable [Cs]
section
variable {X:Cx}
end
end L2
namespace L3
open PySem PySem.Spec PyProof.Rows L2
variable [Cs]
section
variable {X:Cx} {XP:XPT} {mp:List Nat} {a st:Expr} {p p2 pos:Pos} {fa fs:EM FV}
noncomputable def Y7 (fa:EM FV) (fs:EM (Option Int)):EM (List PyData):=fun Γ=>(fa Γ).bind fun (u,Γ1)=>(fs Γ1).bind fun (k,Γ2)=>if k=some (-1) then match derL Γ2 u with
 | some ds=>.ok (ds.reverse,Γ2)
 | none=>.bad
 else .bad
theorem vC {M:Addr->Prop}{H:Hp}:∀ {vs:List V}{ds:List PyData},RepL M H vs ds->RepL M H vs.reverse ds.reverse
 | _,_,.nil=>.nil
 | _,_,.cons h t=>by
  rw[List.reverse_cons,List.reverse_cons]
  exact (vC t).append (.cons h .nil)
theorem zbz {fs:EM (Option Int)}(ha:SE X XP mp a fa) (hk:SOp X XP mp (some st) fs):SN X XP mp (.Subscript a (.Slice none none (some st) p2) pos) (Y7 fa fs):=fun M0 F Γ ν σ H Q rs hs hp=>by
 obtain⟨tk,pk,kk⟩:=hk
 refine (zdl zi pk).wp (ha.run rs hs hp fun F1 Γ1 H1 u v rs1 s1 o1 h1=>?_)
 refine kk M0 F1 Γ1 ν σ H1 _ rs1 hs (h1.seq.mono fun F2 Γ2 H2 k rs2 s2 h2=>?_)
 dsimp only at h2
 split at h2
 ·rename_i hk1
  split at h2
  ·rename_i ds e
   obtain⟨l,vs,rfl,el,rl⟩:=(o1.stp s2 rs1.al0).list rs2 e
   exact⟨hk1,l,vs,rfl,SqL.of el,fun p n=>h2 F2 H2 rs2 (.refl _ _) _ p (vC rl) n⟩
  ·exact h2.elim
 ·exact h2.elim
end
end L3
namespace L3
open PySem PySem.Spec PyProof.Rows L2
variable [Cs]
noncomputable def v0 (Γ:Gv):Gv:=Γ.map (Option.map fun o=>OV.d o.view)
section
variable {M0:Addr->Prop} {F F':Fp} {Γ Γ':Gv} {ν ν':Nu} {H H':Hp}
theorem RS.looks (rs:RS M0 F Γ ν H):RS zA (fun _=> []) (v0 Γ) ν H where
 al0 a h:=h.elim
 dis0 i a h:=by cases h
 nd i:=.nil
 dis i j a h:=by cases h
 at' i o e:=by
  unfold v0 at e
  rw[List.getElem?_map] at e
  cases q:Γ[i]? with
  | none=>rw[q] at e; cases e
  | some z=>
   cases z with
   | none=>rw[q] at e; cases e
   | some o'=>
    rw[q] at e
    have eo:OV.d o'.view=o:=by simpa using e
    subst eo
    obtain⟨v,ev,r⟩:=rs.at' i o' q
    refine⟨v,ev,.d (r.weak.less fun b hb _=>?_)⟩
    rcases hb with hb | ⟨i,hb⟩
    ·exact hb
    ·cases hb
 emp i h:=rfl
 len:=by unfold v0; rw[List.length_map]; exact rs.len
end
section
variable {X:Cx} {XP:XPT} {mp io:List Nat} {a b c e tg iter:Expr} {es:List Expr} {pos p p2 pos':Pos} {fa fb fc:EM FV} {ta tb:EM Bool} {na nb:EM (List PyData)} {fo:EM OV} {st:Stmt} {sts body els:List Stmt} {f g:SM}
noncomputable def zcc:EM FV:=fun _=>.bad
noncomputable def Wl (ta:EM Bool):EM Bool:=fun Γ=>match ta (v0 Γ) with
 | .ok (b,_)=>.ok (b,Γ)
 | _=>.bad
theorem zbk:SE X XP mp a zcc:=fun M0 F Γ ν σ H Q rs hs hp=>hp.elim
theorem zbK (ha:ST X XP mp a ta):ST X XP mp a (Wl ta):=fun M0 F Γ ν σ H Q rs hs hp=>
 ha zA (fun _=> []) (v0 Γ) ν σ H Q rs.looks hs (by
  unfold Wl at hp
  cases e:ta (v0 Γ) with
  | bad=>rw[e] at hp; exact hp.elim
  | exc x y=>rw[e] at hp; exact hp.elim
  | ok z=>
   obtain⟨u,Γ1⟩:=z
   rw[e] at hp
   intro F' H' rc sc
   have sm:Same H H':=fun b o e=>(sc.keep b o e fun _ h=>nomatch h).1
   exact hp F H' (rs.same sm) (.same sm))
end
theorem ORL.snocO {M:Addr->Prop}{H:Hp}{v:V}{o:OV}{B:List Addr}(q:OR M H v o B):∀ {vs:List V}{os:List OV}{A:List Addr},ORL M H vs os A->ORL M H (vs++ [v]) (os++ [o]) (A++B)
 | _,_,_,.nil=>by simpa using ORL.cons q .nil
 | _,_,_,.cons r t=>by rw[List.append_assoc]; exact .cons r (ORL.snocO q t)
section
variable {M0:Addr->Prop} {F F':Fp} {Γ Γ':Gv} {ν ν':Nu} {H H':Hp}
theorem RS.join {i:Nat}{xs:List OV}{o:OV}{v:V}{a:Addr}{vs:List V}(r:RS M0 F (Γ++ [some o]) (ν++ [some v]) H) (e:Γ[i]?=some (some (.l xs))) (en:ν[i]?=some (some (.ref a))) (eh:H a=some (.lst vs)) :
  vs.length=xs.length/\∃ F',RS M0 F' (Γ.set i (some (.l (xs++ [o])))) ν (upd H a (.lst (vs++ [v])))/\Stp F H F' (upd H a (.lst (vs++ [v]))):=by
 have hl:ν.length=Γ.length:=by have:=r.len; simp at this; exact this
 have hi:=(List.getElem?_eq_some_iff.mp e).1
 obtain⟨a1,vs1,A,en1,eh1,qa,eF,nd⟩:=JD r (by rw[List.getElem?_append_left hi]; exact e)
 rw[List.getElem?_append_left (by omega),en] at en1
 cases en1
 rw[eh] at eh1
 cases eh1
 refine⟨qa.length,?_⟩
 obtain⟨u,eu,qo⟩:=r.at' Γ.length o (by rw[List.getElem?_append_right (Nat.le_refl _)]; simp)
 have euv:u=v:=by
  rw[List.getElem?_append_right (by omega),hl] at eu
  simpa using eu.symm
 subst euv
 have ha:a∈F i:=by rw[eF]; exact List.mem_cons_self
 have hne:∀ j,j≠i->∀ b∈F j,b≠a:=fun j hj b hb z=>by subst z; exact hj (r.dis _ _ _ hb ha)
 have hnA:∀ b∈A,b≠a:=fun b hb z=>by
  subst z
  have:=r.nd i
  rw[eF] at this
  exact (List.nodup_cons.mp this).1 hb
 let F':Fp:=fun j=>if j=i then F i++F Γ.length else if j<Γ.length then F j else []
 have hFi:F' i=F i++F Γ.length:=by show (if i=i then _ else _)=_; rw[if_pos rfl]
 have hFj:∀ j,j≠i->j<Γ.length->F' j=F j:=fun j h1 h2=>by show (if j=i then _ else _)=_; rw[if_neg h1,if_pos h2]
 have hFo:∀ j,j≠i->¬ j<Γ.length->F' j= []:=fun j h1 h2=>by show (if j=i then _ else _)=_; rw[if_neg h1,if_neg h2]
 have sub:∀ j b,b∈F' j->(j=i/\(b∈F i∨b∈F Γ.length))∨(j≠i/\j<Γ.length/\b∈F j):=fun j b h=>by
  by_cases h1:j=i
  ·subst h1; rw[hFi] at h; exact .inl ⟨rfl,List.mem_append.mp h⟩
  ·by_cases h2:j<Γ.length
   ·rw[hFj j h1 h2] at h; exact .inr ⟨h1,h2,h⟩
   ·rw[hFo j h1 h2] at h; cases h
 have s:Stp F H F' (upd H a (.lst (vs++ [u]))):=⟨fun b ob e nb=>⟨by
   rw[ze (fun z=>by subst z; exact nb i ha)]; exact e,fun j h=>by
   rcases sub j b h with ⟨_,h | h⟩ | ⟨_,_,h⟩ <;> exact nb _ h⟩,fun b xs e=>by
   rw[ze (fun z=>by subst z; rw[eh] at e; cases e)]; exact e,fun b h=>by
   by_cases z:b=a
   ·subst z; rw[zj]; exact fun z=>nomatch z
   ·rw[ze z]; exact h⟩
 have hin:∀ b,b∈F Γ.length->b∉F i:=fun b h1 h2=>by have:=r.dis _ _ b h1 h2; omega
 refine⟨F',⟨fun b h=>s.stay b (r.al0 b h),fun j b h=>?_,fun j=>?_,fun j k b h1 h2=>?_,fun j p ep=>?_,fun j h=>?_,by simp[hl]⟩,s⟩
 ·rcases sub j b h with ⟨_,h | h⟩ | ⟨_,_,h⟩ <;> exact r.dis0 _ b h
 ·by_cases h1:j=i
  ·subst h1; rw[hFi]
   exact List.nodup_append.mpr ⟨r.nd _,r.nd _,fun x hx y hy z=>by subst z; exact hin _ hy hx⟩
  ·by_cases h2:j<Γ.length
   ·rw[hFj j h1 h2]; exact r.nd _
   ·rw[hFo j h1 h2]; exact .nil
 ·rcases sub j b h1 with ⟨e1,z1⟩ | ⟨n1,l1,z1⟩
  ·rcases sub k b h2 with ⟨e2,z2⟩ | ⟨n2,l2,z2⟩
   ·rw[e1,e2]
   ·rcases z1 with z1 | z1
    ·exact absurd (r.dis _ _ b z2 z1) n2
    ·have:=r.dis _ _ b z2 z1; omega
  ·rcases sub k b h2 with ⟨e2,z2⟩ | ⟨n2,l2,z2⟩
   ·rcases z2 with z2 | z2
    ·exact absurd (r.dis _ _ b z1 z2) n1
    ·have:=r.dis _ _ b z1 z2; omega
   ·exact r.dis _ _ b z1 z2
 ·by_cases hj:j=i
  ·subst hj
   rw[List.getElem?_set_self hi] at ep
   cases ep
   refine⟨.ref a,en,?_⟩
   rw[hFi,eF,List.cons_append]
   exact .l zj (ORL.snocO (qo.go (fun _ _ x=>zm s r.al0 x) s.tups fun b hb=>ze (hne _ (by omega) b hb)) (qa.go (fun _ _ x=>zm s r.al0 x) s.tups fun b hb=>ze (hnA b hb)))
  ·rw[List.getElem?_set_ne (Ne.symm hj)] at ep
   have hjl:j<Γ.length:=(List.getElem?_eq_some_iff.mp ep).1
   obtain⟨w,e1,q⟩:=r.at' j p (by rw[List.getElem?_append_left hjl]; exact ep)
   rw[List.getElem?_append_left (by omega)] at e1
   exact⟨w,e1,by rw[hFj j hj hjl]; exact q.go (fun _ _ x=>zm s r.al0 x) s.tups fun b hb=>ze (hne j hj b hb)⟩
 ·by_cases hj:j=i
  ·subst hj; rw[List.getElem?_set_self hi] at h; exact absurd rfl (h _)
  ·by_cases h2:j<Γ.length
   ·rw[hFj j hj h2]
    refine r.emp j fun p ep=>h p ?_
    rw[List.getElem?_append_left h2] at ep
    rw[List.getElem?_set_ne (Ne.symm hj)]; exact ep
   ·exact hFo j hj h2
theorem RS.clear (r:RS M0 F Γ ν H) (j:Nat) (w:Option V):∃ F',RS M0 F' (Γ.set j none) (ν.set j w) H/\Stp F H F' H:=by
 have sub:∀ k b,b∈zC F j [] k->k≠j/\b∈F k:=fun k b h=>by
  by_cases hk:k=j
  ·subst hk; rw[zd] at h; cases h
  ·rw[zh hk] at h; exact⟨hk,h⟩
 have s:Stp F H (zC F j []) H:=jX fun k b h=>⟨k,(sub k b h).2⟩
 refine⟨zC F j [],⟨r.al0,fun k b h=>r.dis0 k b (sub k b h).2,fun k=>?_,fun k l b h1 h2=>r.dis k l b (sub k b h1).2 (sub l b h2).2,fun k o e=>?_,fun k h=>?_,by simp[r.len]⟩,s⟩
 ·by_cases hk:k=j
  ·subst hk; rw[zd]; exact .nil
  ·rw[zh hk]; exact r.nd k
 ·have hk:k≠j:=fun z=>by
   subst z
   have hl:=(List.getElem?_eq_some_iff.mp e).1
   rw[List.getElem?_set_self (by simpa using hl)] at e; cases e
  rw[List.getElem?_set_ne (Ne.symm hk)] at e |-
  obtain⟨v,e1,q⟩:=r.at' k o e
  exact⟨v,e1,by rw[zh hk]; exact q.go (fun _ _ x=>zm s r.al0 x) s.tups fun _ _=>rfl⟩
 ·by_cases hk:k=j
  ·subst hk; exact zd
  ·rw[zh hk]
   refine r.emp k fun o e=>h o ?_
   rw[List.getElem?_set_ne (Ne.symm hk)]; exact e
end
section
variable {M0:Addr->Prop} {F F':Fp} {Γ Γ':Gv} {ν ν':Nu} {H H':Hp}
end
end L3
namespace L3
open PySem PySem.Spec PyProof.Rows L2
variable [Cs]
section
variable {X:Cx} {XP:XPT} {mp io:List Nat} {a b c e tg iter:Expr} {es:List Expr} {pos p p2 pos' p3:Pos} {fa fb fc:EM FV} {ta tb:EM Bool} {na nb:EM (List PyData)} {fo:EM OV} {st:Stmt} {sts body els:List Stmt} {f g:SM}
end
section
variable {X:Cx} {XP:XPT} {mp io:List Nat} {a b c e tg iter:Expr} {es:List Expr} {pos p p2 pos' p3 py pc pf:Pos} {fa fb fc:EM FV} {ta tb:EM Bool} {na nb:EM (List PyData)} {fo:EM OV} {st:Stmt} {sts body els:List Stmt} {f g:SM}
end
end L3
namespace L3
open PySem PySem.Spec PyProof.Rows L2
variable [Cs]
noncomputable def Qz (x:Str):SM:=fun Γ=>.exc ⟨x,.none⟩ Γ
noncomputable def zen (X:Cx) (XP:XPT):Prop:=∀ (x:Exc) (Γ:Gv) (F:Fp) (ν:Nu) (σ:St) (H:Hp),XP x Γ F ν σ H->∀ C,X.mg x.cls=some (.ref C)->∀ pins s,Inv X pins σ H s->∀ h' ea args,Heap.MadeExcOf s.heap h' ea (.ref C) args->X.xe (.ref ea) { s with heap:=h' }
section
variable {X:Cx} {XP:XPT} {mp io:List Nat} {x:Str} {C:Addr} {np cpos pos cp:Pos} {z:Str} {cj:Nat}
theorem KJ (k:yA X x C) (hcalm:X.calm=true) (rz:zen X XP):SS X XP mp io (.Raise (some (.Call (.Name x np) [.Constant (.str z) cj cp] [] cpos)) none pos) (Qz x):=fun M0 F Γ ν σ H D rs hs hl hp=>
 zah k hcalm fun pins s I h' ea args hm=>rz ⟨x,.none⟩ Γ F ν σ H (hp F ν σ H rs (.refl _ _) hs hl fun _ _=>rfl) C k.mg pins s I h' ea args hm
end
theorem HC.rep {M:Addr->Prop}{H:Hp}(v:HC):Rep M H v.V v.D:=by
 cases v with
 | s z=>exact .str z
 | b c=>exact .bool c
noncomputable def jp (c:Str):List (Str×Nat×Nat×HC)->Option (Nat×Nat×HC)
 | []=>none
 | (x,t,j,v)::r=>if x=c then some (t,j,v) else jp c r
structure HdN (X:Cx) (L:Str->Addr->Prop) (mp:List Nat) (hd:ExceptHandler) (x:Str) (C:Addr) (t j:Nat) (v:HC):Prop where
 k:HdK X hd C t v
 e:yA X x C
 l:L x C
 m:mp[t]?=some j
inductive HdNs (X:Cx) (L:Str->Addr->Prop) (mp:List Nat):List ExceptHandler->List (Str×Nat×Nat×HC)->List (Addr×Nat×HC)->Prop
 | nil:HdNs X L mp [] [] []
 | cons {hd:ExceptHandler} {hs:List ExceptHandler} {x:Str} {C:Addr} {t j:Nat} {v:HC} {ns:List (Str×Nat×Nat×HC)} {zs:List (Addr×Nat×HC)}:HdN X L mp hd x C t j v->HdNs X L mp hs ns zs->HdNs X L mp (hd::hs) ((x,t,j,v)::ns) ((C,t,v)::zs)
theorem HdNs.ks {X:Cx}{L:Str->Addr->Prop}{mp:List Nat}:∀ {hs:List ExceptHandler}{ns:List (Str×Nat×Nat×HC)}{zs:List (Addr×Nat×HC)},HdNs X L mp hs ns zs->vY X hs zs
 | _,_,_,.nil=>.nil
 | _,_,_,.cons h t=>.cons h.k t.ks
theorem HdNs.found {X:Cx}{L:Str->Addr->Prop}{mp:List Nat}{c:Str}{t j:Nat}{v:HC}:∀ {hs:List ExceptHandler}{ns:List (Str×Nat×Nat×HC)}{zs:List (Addr×Nat×HC)},HdNs X L mp hs ns zs->jp c ns=some (t,j,v)->∃ C,yA X c C/\L c C/\mp[t]?=some j
 | _,_,_,.nil,e=>by cases e
 | _,_,_,.cons (x:=x) (C:=C) h r,e=>by
  unfold jp at e
  split at e
  ·rename_i q
   subst q
   cases e
   exact⟨C,h.e,h.l,h.m⟩
  ·exact r.found e
theorem HdNs.pick {X:Cx}{L:Str->Addr->Prop}{mp:List Nat}(mr:∀ x C y C2,L x C->L y C2->(mroIn X.K C).contains (.ref C2)=decide (x=y)){c:Str}{C:Addr}(hc:L c C){t j:Nat}{v:HC} :
  ∀ {hs:List ExceptHandler} {ns:List (Str×Nat×Nat×HC)} {zs:List (Addr×Nat×HC)},HdNs X L mp hs ns zs->jp c ns=some (t,j,v)->JH X.K C zs=some (t,v)
 | _,_,_,.nil,e=>by cases e
 | _,_,_,.cons (x:=x) (C:=C2) h r,e=>by
  unfold jp at e
  unfold JH
  rw[mr c C x C2 hc h.l]
  split at e
  ·rename_i q
   subst q
   cases e
   rw[if_pos (by simp)]
  ·rename_i q
   rw[if_neg (by simpa using fun z=>q z.symm)]
   exact r.pick mr hc e
theorem HdNs.lt {X:Cx}{L:Str->Addr->Prop}{mp:List Nat}{c:Str}{t j:Nat}{v:HC}:∀ {hs:List ExceptHandler}{ns:List (Str×Nat×Nat×HC)}{zs:List (Addr×Nat×HC)},HdNs X L mp hs ns zs->jp c ns=some (t,j,v)->t<X.N.length
 | _,_,_,.nil,e=>by cases e
 | _,_,_,.cons h r,e=>by
  unfold jp at e
  split at e
  ·cases e
   obtain⟨_,_,_,_,_,_,_,_,_,_,q,_⟩:=h.k.ex
   exact (List.getElem?_eq_some_iff.mp q).1
  ·exact r.lt e
noncomputable def vE (io:List Nat) (b:SM) (hs:List (Str×Nat×Nat×HC)):SM:=fun Γ=>match b Γ with
 | .exc x Γ1=>match jp x.cls hs with
  | some (_,j,v)=>if j<Γ1.length/\j∉io then .ok (.next,Γ1.set j (some (.d v.D))) else .bad
  | none=>.bad
 | r=>r
noncomputable def XPt (X:Cx) (zs:List (Addr×Nat×HC)) (D:qv):XPT:=fun x _ _ _ σ H=>∃ C t v,X.mg x.cls=some (.ref C)/\PySem.W.excIn X.K C bmV "ValueError.__new__" =true/\JH X.K C zs=some (t,v)/\D.nx (σ.set t (some v.V)) H
section
variable {X:Cx} {XP:XPT} {mp io:List Nat} {L:Str->Addr->Prop} {hs:List ExceptHandler} {ns:List (Str×Nat×Nat×HC)} {zs:List (Addr×Nat×HC)} {f:SM} {body:List Stmt} {hd:ExceptHandler} {pos:Pos}
theorem zdt (hst:X.stack=X.env::X.outer) (hfr:X.env.frame=some X.env.locals) (hN:X.N.Nodup) (hh:vY X hs zs) (pins:List (Addr×Obj)) (D:qv):WR (X.tried pins (KU X pins D hs)) (XPt X zs D):=fun σ pins' H s e s' E h I hc=>by
 have ok:X.Ok:=⟨I.ok.mod,I.ok.kind,I.ok.glob,I.ok.blt,I.ok.above,I.ok.inj,I.ok.has,I.ok.cab,I.ok.hd,I.ok.frames,I.ok.stk,I.ok.exf,I.ok.bs,I.ok.bsz,I.ok.noex,I.ok.exfs,I.ok.funs,I.ok.frf⟩
 refine zcO (I.untried ok) hst hfr hN hh hc fun c H' q=>?_
 obtain⟨x,Γ,F,ν,C,h1,rfl,C',t,v,h2,h3,h4,h5⟩:=h c H' q
 have h1':X.mg x.cls=some (.ref C):=h1
 rw[h2] at h1'
 cases h1'
 exact⟨_,t,v,rfl,h3,h4,h5⟩
theorem zd1 (hn:mp.Nodup) (hh:HdNs X L mp (hd::hs) ns zs) (mr:∀ x C y C2,L x C->L y C2->(mroIn X.K C).contains (.ref C2)=decide (x=y)) (exL:∀ x C,L x C->X.mg x=some (.ref C)/\PySem.W.excIn X.K C bmV "ValueError.__new__" =true)
  (hb:∀ pins D,SB (X.tried pins (KU X pins D (hd::hs))) (XPt X zs D) mp io body f):SS X XP mp io (.Try body (hd::hs) [] [] pos) (vE io f ns):=fun M0 F Γ ν σ H D rs hs0 hsl hp=>by
 refine zeh fun pins=>hb pins D M0 F Γ ν σ H D rs hs0 hsl ?_
 unfold vE at hp
 generalize f Γ=r at hp
 cases r with
 | bad=>exact hp
 | ok z=>
  obtain⟨fl,Γ'⟩:=z
  cases fl <;> exact hp
 | exc x Γ1=>
  dsimp only at hp
  intro F' ν' σ' H' rs' s' hs' hl' hio
  split at hp
  ·rename_i t j v ep
   split at hp
   ·rename_i hj
    obtain⟨C,k,hcL,hmj⟩:=hh.found ep
    refine⟨C,t,v,(exL _ _ hcL).1,(exL _ _ hcL).2,hh.pick mr hcL ep,?_⟩
    obtain⟨F2,rs2,s2⟩:=rs'.setD (i:=j) (d:=v.D) (v:=v.V) (HC.rep v) hj.1
    have hl'':σ'.length=X.N.length:=hl'
    refine hp F2 _ _ H' rs2 (s'.trans s2) (hs'.set hn hmj (by rw[hl'']; exact hh.lt ep)) (by rw[List.length_set]; exact hl') fun l hl2=>?_
    rw[List.getElem?_set_ne (fun z=>hj.2 (by rw[z]; exact hl2))]
    exact hio l hl2
   ·exact hp.elim
  ·exact hp.elim
end
end L3
namespace Tab
open PySem PySem.Spec PyProof.Rows
noncomputable abbrev qG (led:Bool):Obj:={ cls:=.type "set",dict:=none,data:=.set #[] 0 (.fresh 0 0 led) }
section
variable {prog:Program} {w:World} {A:Around} {E:Value->Shared->Prop} {s:Shared}
set_option maxHeartbeats 3200000 in
theorem set_tuple {a:Addr}{vs:Array Value}{ns:List Int}{Q:Value->Shared->Prop}(hd:A.handled=none) (ht:s.heap.IsTuple a vs) (hv:IntsAre vs.toList ns) (hsz:vs.size+1<scanBound)
  (k:∀ (h2:Heap) (tk:Nat),h2.SetOf (intKind prog w) s.heap.objs.size (fun z=>(firstMet (fun i=>ns.getD i 0) vs.size).any (·==z)) (firstMet (fun i=>ns.getD i 0) vs.size).length ->
   (∀ b o,b<s.heap.objs.size->s.heap.get? b=some o->h2.get? b=some o)->Q (.ref s.heap.objs.size) { s with heap:=h2,toks:=tk }) :
  wpAny (model prog w) A (call (.type "set") [.ref a]) Q E s:=by
 obtain⟨c0,t0,m0⟩:=F.called_set.mro
 have m1:=F.called_set.made
 have m2:=F.called_set.sub
 have m3:=F.called_set.notType
 have m4:=F.called_set.canCreate
 have m5:=F.typeCall_set_1 (.ref a)
 refine wpAny_call (codeAny_of_tree ?_)
 show wpAny _ _ (callAny (.type "set") ⟨[.ref a],[]⟩) _ _ s
 refine wpAny_pure ⟨Code.quiet_builtin _ (by decide +kernel),codeAny_builtin F.entry_type_call ?_⟩
 rw[Around.under_plain (weight_type_call_type "set" [.ref a] []) rfl]
 repeat (any_goals (first | assumption | wp_step))
 refine codeAny_mono (code_set_new_1 (.ref a) (E:=E) (Q₁:=fun z z1=>∃ led:Bool,z=.ref s.heap.objs.size/\z1={ s with heap:=s.heap.push (qG led) }) fun led=>⟨led,rfl,rfl⟩) fun r z1 hr=>?_
 cases r with
 | error e=>exact hr
 | ok fl=>
  cases fl with
  | next=>exact hr.elim
  | brk=>exact hr.elim
  | cont=>exact hr.elim
  | ret z=>
   obtain⟨led,rfl,rfl⟩:=hr
   have g0:(s.heap.push (qG led)).get? s.heap.objs.size=some (qG led):=Heap.get?_push_size _ rfl
   have g1:Shared.TypeIs { s with heap:=s.heap.push (qG led) } (.ref s.heap.objs.size) "set" :=⟨_,g0,rfl⟩
   have g2:=F.called_set.init.lookup
   have g3:=F.called_set.init.bind (.ref s.heap.objs.size)
   repeat (any_goals (first | assumption | wp_step))
   refine codeAny_mono (codeAny_call_builtin (R:=wants (fun r z2=>r=.none/\∃ h2 tk,z2={ s with heap:=h2,toks:=tk } /\
     h2.SetOf (intKind prog w) s.heap.objs.size (fun z=>(firstMet (fun i=>ns.getD i 0) vs.size).any (·==z)) (firstMet (fun i=>ns.getD i 0) vs.size).length /\
     ∀ b o,b<s.heap.objs.size->s.heap.get? b=some o->h2.get? b=some o) E) F.called_set.init.plain F.entry_set_init (check_set_init_1 g1 ?_)) fun r2 z2 hr2=>?_
   ·have ht1:=ht.push (qG led)
    obtain⟨ot,e1,e2,nt,e3⟩:=ht
    have hlt:=Heap.lt_size e1
    cases ot with
    | mk oc od odt osl=>
     dsimp only at e2 e3
     subst e2 e3
     have e1':(s.heap.push (qG led)).get? a=some { cls:=.type "tuple",dict:=od,data:=.seq vs nt,slots:=osl }:=Heap.get?_push_of_some _ e1
     have f1:=F.sub_tuple_set
     have f2:=F.sub_tuple_frozenset
     have f3:(Value.type "tuple" ==Value.type "dict")=false:=by decide
     unfold Builtin.«set.__init__» noKeywords Builtin.Frozenset.updateFrom
     generalize hpi:pyIter=pI
     wp_walk
     subst hpi
     refine wpAny_pyIter_tuple ht1 (wpAny_bind (wpAny_runValue ?_))
     have sz1:(s.heap.push (qG led)).objs.size=s.heap.objs.size+1:=Heap.size_push ..
     have n1:a≠(s.heap.push (qG led)).objs.size:=by rw[sz1]; exact Nat.ne_of_lt (Nat.lt_succ_of_lt hlt)
     have n2:s.heap.objs.size∉ [(s.heap.push (qG led)).objs.size,a]:=fun z=>by
      rcases List.mem_cons.mp z with z | z
      ·rw[sz1] at z; exact absurd z (Nat.ne_of_lt (Nat.lt_succ_self _))
      ·have:s.heap.objs.size=a:=by simpa using z
       exact absurd this.symm (Nat.ne_of_lt hlt)
     have n3:A.in1.in1.in1.handled=none:=by simp[hd]
     refine codeAny_set_update_loopS ((Walks.tuple n3 _ a n1 vs).toS) s.heap.objs.size n2 (fun i=>ns.getD i 0) (fun i v q=>IntsAre.int_at hv i v (by rw[Array.getElem?_toList]; exact q)) hsz (vs.size-0) 0 _ rfl (Nat.zero_le _)
      ⟨⟨_,Heap.get?_push_size _ rfl,rfl,rfl⟩,ht1.push _⟩ ?u ?v
     case u=>
      have g4:=Heap.get?_push_of_some (h:=s.heap.push (qG led)) { cls:=.type "tuple_iterator",data:=.fields #[.ref a,.int 0 0] } g0
      exact SetOf_congr ((setObjOf_fresh (knd:=intKind prog w) led).setOf g4 (by unfold scanBound; omega)) (fun _=>rfl) rfl
     case v=>
      intro z2 hm hS
      have q1:=hm.gens
      have q2:=hm.drawn
      have q3:=hm.os
      have q4:=hm.heap
      cases z2 with
      | mk h2 gg gd gt go=>
       dsimp only at q1 q2 q3 q4 hS
       subst q1 q2 q3
       show wpAny _ _ _ _ _ _
       refine wpAny_pure ?_
       show wpAny _ _ (ret Value.none) _ _ _
       refine wpAny_pure ⟨rfl,h2,gt,rfl,hS,fun b o hb e=>q4 b o (fun z=>?_) (Heap.get?_push_of_some _ (Heap.get?_push_of_some _ e))⟩
       rcases List.mem_cons.mp z with z | z
       ·exact absurd z (Nat.ne_of_lt hb)
       ·have:b=(s.heap.push (qG led)).objs.size:=by simpa using z
        rw[sz1] at this; omega
   ·cases r2 with
    | error e=>exact hr2
    | ok fl2=>
     cases fl2 with
     | next=>exact hr2.elim
     | brk=>exact hr2.elim
     | cont=>exact hr2.elim
     | ret r=>
      obtain⟨rfl,h2,tk,rfl,hS,hk⟩:=hr2
      repeat (any_goals (first | assumption | wp_step))
      exact k h2 tk hS hk
end
end Tab
namespace L2
open PySem PySem.Spec PyProof.Rows
variable [Cs]
section
variable {X:Cx}
theorem Jn:qB X (.type "range") (fun xs H Q=>∃ n:Int,xs= [.int n]/\∀ p,H p=none->Q (.ref p) (upd H p (.rng 0 n))):=by
 intro pins s σ H xs us Q I r h
 obtain⟨n,rfl,q⟩:=h
 obtain⟨u,rfl,ru⟩:=jz r
 obtain⟨t,rfl⟩:=ru
 exact call_range_1 ⟨.ref s.heap.objs.size,upd H s.heap.objs.size (.rng 0 n),I.laid (o:=.rng 0 n) (fun b o e=>Heap.get?_push_of_some _ e) (Nat.le_refl _) (show ∃ t u v,_ from ⟨s.toks,t,s.toks+1,Heap.get?_push_size _ rfl⟩),rfl,q _ (I.hok.fresh (Nat.le_refl _))⟩
theorem JX:∀ {n:Nat}{k:Nat}{its:List Value},its.length=n->(∀ (i:Nat) (v:Value),its[i]?=some v->∃ t,v=Value.int ((k:Int)+(i:Int)) t)->Vals ((List.range n).map fun (i:Nat)=>V.int ((k:Int)+(i:Int))) its
 | 0,k,[],_,_=>.nil
 | n+1,k,v::its,hl,h=>by
  obtain⟨t,e⟩:=h 0 v rfl
  rw[List.range_succ_eq_map,List.map_cons,List.map_map]
  refine .cons ⟨t,e⟩ ?_
  have ih:=JX (n:=n) (k:=k+1) (its:=its) (by simpa using hl) fun i w hw=>by
   obtain⟨t,e⟩:=h (i+1) w (by simpa using hw)
   exact⟨t,by rw[e]; congr 1; omega⟩
  have em:((fun i:Nat=>V.int ((k:Int)+(i:Int)))∘Nat.succ)=fun i:Nat=>V.int (((k+1:Nat):Int)+(i:Int)):=by
   funext i
   show V.int _=V.int _
   congr 1
   simp only[Nat.succ_eq_add_one]
   omega
  rw[em]; exact ih
theorem J0 (hc:X.calm=true):qB X (.type "list") (fun xs H Q=>∃ p,∃ n:Nat,xs= [.ref p]/\H p=some (.rng 0 (n:Int))/\n<=1000000/\∀ l,H l=none->Q (.ref l) (upd H l (.lst ((List.range n).map fun (i:Nat)=>V.int (i:Int))))):=by
 intro pins s σ H xs us Q I r h
 obtain⟨p,n,rfl,hp,hn,q⟩:=h
 obtain⟨u,rfl,ru⟩:=jz r
 cases ru
 obtain⟨t,u,v,e⟩:=I.hok p _ hp
 have hsm:=small_one (a:=0) (b:=(n:Int)) (by decide) (by decide) (by omega) (by omega)
 have hrs:Builtin.Range.rangeSize 0 (n:Int) 1=(n:Int):=by rw[rangeSize_one]; split <;> omega
 refine call_list_range (I.ok.hd hc) (show IsRange s.heap p 0 (n:Int) 1 t u v from e) hsm hrs (by omega) fun h' tk acc c' hk hS hacc=>?_
 have hv:Vals ((List.range n).map fun (i:Nat)=>V.int (i:Int)) acc.toList:=by
  have:=JX (n:=n) (k:=0) (its:=acc.toList) (by simpa using hacc.1) fun i w hw=>by
   obtain⟨t,e⟩:=hacc.2 i w (by simpa using hw)
   have z:(0:Int)+(i:Int)*1=((0:Nat):Int)+(i:Int):=by omega
   exact⟨t,by rw[e,z]⟩
  simpa using this
 have hz:n<=sizeLine:=by have:=sizeLine_eq; omega
 exact⟨.ref s.heap.objs.size,_,I.laid (t':=tk) (o:=.lst ((List.range n).map fun (i:Nat)=>V.int (i:Int))) hk (Nat.le_refl _) (show _/\∃ its m,_ from ⟨by simpa using hz,acc.toList,c',hv,by simpa using hS⟩),rfl,q _ (I.hok.fresh (Nat.le_refl _))⟩
theorem zaI {l:Expr}{p pos:Pos}(hc:X.calm=true) (hg:Gl X "set") (hm:X.mg "set" =none) (hst:starEach [l] X.env= [(false,eval l X.env)]){pins:List (Addr×Obj)}{s:Shared}{σ:St}{H:Hp}{R:List Int->Hp->Prop}(I:Inv X pins σ H s)
  (h:wpE X l σ H (fun v H1=>∃ a ns,v=.ref a/\SqT X.K H1 a (List.map V.int ns)/\ns.length<=60/\R ns H1)) :
  wpAny (model X.prog X.w) X.A (eval (.Call (.Name "set" p) [l] [] pos) X.env) (fun u s'=>∃ (r:Addr) (ns:List Int) (H1:Hp),u=.ref r/\Inv X pins σ H1 s'/\ns.length<=60/\s'.heap.SetOf (intKind X.prog X.w) r (fun k=>(Tab.dedup ns).any (·==k)) (Tab.dedup ns).length/\R ns H1) X.xe s:=by
 have h':KO (wpE X l) zd6 σ H (fun vs H1=>∃ v,vs= [v]/\∃ a ns,v=.ref a/\SqT X.K H1 a (List.map V.int ns)/\ns.length<=60/\R ns H1):=wpE.mono h fun v H1 q=>⟨v,rfl,q⟩
 refine Call_ (Zl I hg hm wo (PyProof.Rows.callWith_type1 (thn ((zo zi pa_nil hst) pos pins s σ H _ I h') fun us s1 ⟨vs,H1,I1,r1,q1⟩=>?_) hst rfl))
 obtain⟨v,rfl,a,ns,rfl,hq,hn,q⟩:=q1
 obtain⟨u,rfl,ru⟩:=jz r1
 cases ru
 obtain⟨its,rv,pl,hz⟩:=I1.tuple hq
 have hlen:=rv.length
 rw[List.length_map] at hlen
 have hsz:its.toArray.size=ns.length:=by rw[List.size_toArray]; exact hlen.symm
 refine Tab.set_tuple (I1.ok.hd hc) (show s1.heap.IsTuple a its.toArray from pl) (IntsAre.of rv) (by rw[hsz]; have:scanBound=4096:=rfl; omega) fun h2 tk hS hk=>?_
 rw[hsz,Jr] at hS
 exact⟨s1.heap.objs.size,ns,H1,rfl,I1.kept (t':=tk) fun b o e=>hk b o (Heap.lt_size e) e,hn,hS,q⟩
theorem Vr {a:Expr}{p1 p2 q1 q2:Pos}(hc:X.calm=true) (hgl:Gl X "len") (hml:X.mg "len" =none) (hgs:Gl X "set") (hms:X.mg "set" =none) (hsa:starEach [a] X.env= [(false,eval a X.env)]) :
  PE X (.Call (.Name "len" p1) [.Call (.Name "set" p2) [a] [] q2] [] q1) (fun σ H Q=>wpE X a σ H fun v H1=>∃ l ns,v=.ref l/\SqT X.K H1 l (List.map V.int ns)/\ns.length<=60/\Q (.int (Tab.dedup ns).length) H1):=by
 intro pins s σ H Q I h
 refine wpAny_Call_Name_kw (Zl I hgl hml PySem.boot_len ?_)
 refine PyProof.Rows.callWith_builtin1 (E:=X.xe) ?_ rfl rfl
 show wpAny _ _ (spliced ((false,eval (.Call (.Name "set" p2) [a] [] q2) X.env)::backTo q1 (starEach [] X.env))) _ _ s
 refine Calls.spliced_cons ?_
 refine thn (zaI hc hgs hms hsa (R:=fun ns H1=>Q (.int (Tab.dedup ns).length) H1) I h) fun v s1 ⟨r1,ns,H1,e1,I1,hn,hS1,q⟩=>?_
 subst e1
 refine Calls.spliced_nil ?_
 obtain⟨o3,es3,ep3,t3,hg3,hx3,hd3,_,_,hb3,hf3,hn3⟩:=hS1
 have hsb:scanBound=4096:=rfl
 have hdl:=wE ns
 obtain⟨hh,gg,gd,gt,go⟩:=s1
 refine call_len_set hg3 hx3 hd3 hf3 (by omega) ?_
 refine⟨.int (Tab.dedup ns).length,H1,I1.kept (t':=gt+1+1) fun b o e=>e,⟨gt+1,?_⟩,q⟩
 rw[hn3]
end
end L2
namespace L3
open PySem PySem.Spec PyProof.Rows L2
variable [Cs]
section
variable {X:Cx} {XP:XPT} {mp:List Nat} {a b:Expr} {p1 p2 q1 q2:Pos} {fa fb:EM FV}
noncomputable def Jp (fa:EM FV):EM FV:=fun Γ=>(fa Γ).bind fun (u,Γ1)=>match derS Γ1 u with
 | some (.tuple ds)=>match Zk ds with
  | some ns=>if ns.length<=60 then .ok (.dat (.int (Tab.dedup ns).length),Γ1) else .bad
  | none=>.bad
 | _=>.bad
theorem jh {M:Addr->Prop}{H:Hp}:∀ {vs:List V}{ds:List PyData}{ns:List Int},RepL M H vs ds->Zk ds=some ns->vs=ns.map V.int
 | _,_,_,.nil,e=>by cases e; rfl
 | _,_,_,.cons (ds:=ds) (d:=d) r t,e=>by
  cases d with
  | int i=>
   unfold Zk at e
   cases q:Zk ds with
   | none=>rw[q] at e; cases e
   | some ms=>
    rw[q] at e
    cases e
    cases r
    rw[List.map_cons,jh t q]
  | _=>cases e
theorem zbo (hc:X.calm=true) (hgl:Gl X "len") (hml:X.mg "len" =none) (hgs:Gl X "set") (hms:X.mg "set" =none) (ha:SE X XP mp a fa) (hsa:starEach [a] X.env= [(false,eval a X.env)]) :
  SE X XP mp (.Call (.Name "len" p1) [.Call (.Name "set" p2) [a] [] q2] [] q1) (Jp fa):=fun M0 F Γ ν σ H Q rs hs hp=>by
 refine (Vr hc hgl hml hgs hms hsa).wp (ha.run rs hs hp fun F1 Γ1 H1 u v rs1 s1 o1 h1=>?_)
 dsimp only at h1
 split at h1
 ·rename_i ds ed
  split at h1
  ·rename_i ns en
   split at h1
   ·rename_i hn
    obtain⟨l,vs,rfl,el,r⟩:=(o1.strong rs1 ed).tup_inv
    have hv:=jh r en
    subst hv
    exact⟨l,ns,rfl,SqT.of el,hn,h1 F1 H1 rs1 (.refl _ _) _ (Rep.int _)⟩
   ·exact h1.elim
  ·exact h1.elim
 ·exact h1.elim
noncomputable def Y8 (fa:EM FV):EM (List PyData):=fun Γ=>(fa Γ).bind fun (u,Γ1)=>match derf Γ1 u with
 | some (.int n)=>if 0<=n/\n<=1000000 then .ok (zG n.toNat,Γ1) else .bad
 | _=>.bad
theorem Ym {M:Addr->Prop}{H:Hp}(n:Nat):RepL M H ((List.range n).map fun (i:Nat)=>V.int (i:Int)) (zG n):=by
 unfold zG
 generalize List.range n=l
 induction l with
 | nil=>exact .nil
 | cons x l ih=>exact .cons (.int _) ih
theorem zbC {x y:Str}(hc:X.calm=true) (B:BiK X x (.type "list")) (B2:BiK X y (.type "range")) (ha:SE X XP mp a fa) (hst:starEach [a] X.env= [(false,eval a X.env)]):SN X XP mp (.Call (.Name x p1) [.Call (.Name y p2) [a] [] q2] [] q1) (Y8 fa):=fun M0 F Γ ν σ H Q rs hs hp=>by
 refine (qz (J0 hc) B.gl B.mg B.bt (zo (qz Jn B2.gl B2.mg B2.bt (zo zi pa_nil hst) B2.n B2.d hst rfl) pa_nil rfl) B.n B.d rfl rfl).wp (ha.run rs hs hp fun F1 Γ1 H1 u v rs1 s1 o1 h1=>?_)
 dsimp only at h1
 split at h1
 ·rename_i n en
  split at h1
  ·rename_i hn
   cases o1.weak rs1 en
   refine⟨n,rfl,fun p hp1=>?_⟩
   have sm:Same H1 (upd H1 p (.rng 0 n)):=zw hp1
   refine⟨p,n.toNat,rfl,by rw[zj]; congr 2; omega,by omega,fun l hl=>?_⟩
   exact h1 F1 _ (rs1.same sm) (.same sm) _ l (Ym n.toNat) hl
  ·exact h1.elim
 ·exact h1.elim
end
end L3
namespace L2
open PySem PySem.Spec PyProof.Rows
variable [Cs]
section
variable {X:Cx}
end
end L2
namespace L3
open PySem PySem.Spec PyProof.Rows L2
variable [Cs]
section
variable {X:Cx} {XP:XPT} {mp io:List Nat} {a e:Expr} {p p1 p2 q1 q2 pos px py ps:Pos} {fa:EM FV}
theorem Sees.again {ν:Nu}{σ:St}{s i:Nat}{v:V}(h:Sees mp ν σ) (hm:mp[s]?=some i) (hv:ν[i]?=some (some v)) (hs:s<σ.length):Sees mp ν (σ.set s (some v)):=fun s' j w e1 e2=>by
 by_cases hj:s=s'
 ·subst hj
  rw[hm] at e1
  cases e1
  rw[hv] at e2
  cases e2
  rw[List.getElem?_set_self hs]
 ·rw[List.getElem?_set_ne hj]; exact h s' j w e1 e2
end
end L3
namespace L2
open PySem PySem.Spec PyProof.Rows
variable [Cs]
section
variable {X:Cx}
end
end L2
namespace L3
open PySem PySem.Spec PyProof.Rows L2
variable [Cs]
section
variable {X:Cx} {XP:XPT} {mp:List Nat} {a b c e:Expr} {es:List Expr} {pos p p2:Pos} {fa fb fc:EM FV}
noncomputable def zcN:List Str->Str
 | []=>Str.empty
 | x::r=>x++zcN r
theorem Vz (x:Str):x++Str.empty=x:=by
 show Str.append x Str.empty=x
 cases x; simp[Str.append,Str.empty]
noncomputable def ke:EM (List Str):=fun Γ=>.ok ([],Γ)
noncomputable def SJ (X:Cx) (XP:XPT) (mp:List Nat) (es:List Expr) (f:EM (List Str)):Prop:=∀ (M0:Addr->Prop) (F:Fp) (Γ:Gv) (ν:Nu) (σ:St) (H:Hp) (acc:Str) (Q:Str->Hp->Prop),RS M0 F Γ ν H->Sees mp ν σ->acc.length+10000*es.length<=10000000 ->
 EPost M0 F ν σ H XP (fun F' Γ' H' ys=>Q (acc++zcN ys) H') (f Γ)->∀ pins s,Inv X pins σ H s->Joins (model X.prog X.w) X.A X.xe (evalEach es X.env) acc (fun out s1=>out.length<=sizeLine/\∃ H',Inv X pins σ H' s1/\Q out H') s
theorem zdP:SJ X XP mp [] ke:=fun M0 F Γ ν σ H acc Q rs hs hz hp pins s I=>by
 have:=hp F H rs (.refl _ _)
 unfold zcN at this
 rw[Vz] at this
 exact⟨by have:=sizeLine_eq; omega,H,I,this⟩
end
end L3
namespace L2
open PySem PySem.Spec PyProof.Rows PySem.Builtin PySem.Builtin.Str
variable [Cs]
theorem QF (x y:Str):(Txt.split x y).length<=x.length+2:=by
 unfold Txt.split
 split
 ·simp
 ·split
  ·simp
  ·have e1:=StrLaws.occ_length_le x y 0 x.length (x.length+1)
   rw[length_partsBetween]; omega
section
variable {X:Cx}
end
section
variable {X:Cx}
end
end L2
namespace L2
open PySem PySem.Spec PyProof.Rows
variable [Cs]
noncomputable def ItK:Bool->Heap->Addr->Addr->Nat->Prop
 | true,h,i,l,k=>h.IsTupleIter i l k
 | false,h,i,l,k=>h.IsListIter i l k
noncomputable def SqK:Bool->Heap->Addr->Array Value->Prop
 | true,h,l,xs=>h.IsTuple l xs
 | false,h,l,xs=>h.IsList l xs
noncomputable def itN:Bool->String
 | true=> "tuple_iterator"
 | false=> "list_iterator"
theorem ItK.obj {tp:Bool}{h:Heap}{i l:Addr}{k:Nat}(x:ItK tp h i l k):∃ o,h.get? i=some o/\o.cls=.type (itN tp)/\o.data=.fields #[.ref l,.int k 0]:=by
 cases tp <;> exact x
theorem ItK.of {tp:Bool}{h:Heap}{i l:Addr}{k:Nat}(x:∃ o,h.get? i=some o/\o.cls=.type (itN tp)/\o.data=.fields #[.ref l,.int k 0]):ItK tp h i l k:=by
 cases tp <;> exact x
theorem ItK.at {tp:Bool}{h h':Heap}{i l:Addr}{k:Nat}(x:ItK tp h i l k) (e:∀ o,h.get? i=some o->h'.get? i=some o):ItK tp h' i l k:=by
 obtain⟨o,a,b,c⟩:=x.obj
 exact .of ⟨o,e o a,b,c⟩
theorem SqK.at {tp:Bool}{h h':Heap}{l:Addr}{xs:Array Value}(x:SqK tp h l xs) (e:∀ o,h.get? l=some o->h'.get? l=some o):SqK tp h' l xs:=by
 cases tp
 ·obtain⟨o,a,b⟩:=id x; exact⟨o,e o a,b⟩
 ·obtain⟨o,a,b⟩:=id x; exact⟨o,e o a,b⟩
section
variable {prog:Program} {w:World} {A:Around} {E:Value->Shared->Prop} {s:Shared}
end
noncomputable def SqV (tp:Bool) (H:Hp) (a:Addr) (xs:List V):Prop:=match tp with
 | true=>H a=some (.tup xs)
 | false=>H a=some (.lst xs)
theorem SqV.inj {H:Hp}{tp:Bool}{a:Addr}{xs ys:List V}(h:SqV tp H a xs) (h':SqV tp H a ys):xs=ys:=by
 cases tp with
 | false=>have:=Eq.trans (Eq.symm h) h'; cases this; rfl
 | true=>have:=Eq.trans (Eq.symm h) h'; cases this; rfl
theorem SqV.ne {H:Hp}{tp:Bool}{a c:Addr}{xs:List V}(h:SqV tp H a xs) (e:H c=none):a≠c:=fun z=>by
 subst z
 cases tp with
 | false=>have h:H a=some (.lst xs):=h; rw[e] at h; cases h
 | true=>have h:H a=some (.tup xs):=h; rw[e] at h; cases h
section
variable {X:Cx}
end
end L2
namespace L2
open PySem PySem.Spec PyProof.Rows
variable [Cs]
noncomputable def V5 (w:World) (l:List (Str×Nat×Addr)) (ep:Nat):Obj:={ cls:=.type "dict",data:=.dict (l.map fun p=>(⟨PySem.PyData.keyHash w.params p.1,.str p.1 p.2.1,.ref p.2.2⟩:DictEntry)).toArray ep }
inductive GRows (mg:Str->Option Value):List (Str×Nat×Addr)->List (Str×Str)->Prop
 | nil:GRows mg [] []
 | cons {k f:Str} {t:Nat} {a:Addr} {l kf}:mg f=some (.ref a)->GRows mg l kf->GRows mg ((k,t,a)::l) ((k,f)::kf)
structure GD (w:World) (K:PySem.W.Frag) (mg:Str->Option Value) (x:Str) (kf:List (Str×Str)):Prop where
 ex:∃ (D:Addr) (ep:Nat) (l:List (Str×Nat×Addr)),mg x=some (.ref D)/\(D==sysModules)=false/\K.lookup D=some (V5 w l ep)/\GRows mg l kf/\(kf.map (·.1)).Nodup
theorem GRows.keys {mg:Str->Option Value}{l:List (Str×Nat×Addr)}{kf:List (Str×Str)}(h:GRows mg l kf):l.map (·.1)=kf.map (·.1):=by
 induction h with
 | nil=>rfl
 | cons _ _ ih=>simp[ih]
theorem GRows.find {mg:Str->Option Value}{l:List (Str×Nat×Addr)}{kf:List (Str×Str)}(h:GRows mg l kf) (k:Str):match kf.lookup k with
  | some f=>∃ a,mg f=some (.ref a)/\valueAt (l.map fun p=>(p.1,Value.ref p.2.2)) k=some (.ref a)
  | none=>valueAt (l.map fun p=>(p.1,Value.ref p.2.2)) k=none:=by
 induction h with
 | nil=>rfl
 | @cons k' f t a l kf hm hr ih=>
  rw[List.lookup_cons]
  by_cases e:k=k'
  ·subst e
   simp only[beq_self_eq_true]
   exact⟨a,hm,by simp[valueAt]⟩
  ·have e1:(k==k')=false:=by simpa using e
   rw[e1]
   have e2:valueAt (((k',t,a)::l).map fun p=>(p.1,Value.ref p.2.2)) k=valueAt (l.map fun p=>(p.1,Value.ref p.2.2)) k:=by
    unfold valueAt
    rw[List.map_cons,List.find?_cons_of_neg (by simpa using Ne.symm e)]
   rw[e2]; exact ih
theorem vA {P:Program}{w:World}:∀ (l:List (Str×Nat×Addr)),Pairs (PySem.strKind P w) (l.map fun p=>(⟨PySem.PyData.keyHash w.params p.1,.str p.1 p.2.1,.ref p.2.2⟩:DictEntry)) (l.map fun p=>(p.1,Value.ref p.2.2))
 | []=>.nil
 | p::r=>.cons (by simp[PySem.strKind,Value.isStrOf]) rfl (vA r)
theorem zaF {P:Program}{w:World}{h:Heap}{D:Addr}{ep:Nat}{l:List (Str×Nat×Addr)}(hd:h.get? D=some (V5 w l ep)) (nd:(l.map (·.1)).Nodup):h.DictOf (PySem.strKind P w) D (l.map fun p=>(p.1,Value.ref p.2.2)):=by
 refine⟨_,_,ep,hd,⟨rfl,rfl,rfl⟩,rfl,?_,by simpa using vA l,?_⟩
 ·intro e he
  simp only[List.mem_toArray,List.mem_map] at he
  obtain⟨p,hp,rfl⟩:=he
  exact⟨p.1,by simp[PySem.strKind,Value.isStrOf],rfl⟩
 ·rw[List.map_map]; exact nd
section
variable {X:Cx}
theorem zbL {x r:Str}{kf:List (Str×Str)}{i:Nat}{e:Expr}{p1 p2 q1 q2:Pos}(g:GD X.w X.K X.mg x kf) (hg:Gl X x) (hdb:(x==("__debug__" :Str))=false) (hs:∀ ov iv,subscripted e false ov iv=operate [ov,iv] (getItem ov iv)) (hN:X.N.Nodup) (hi:X.N[i]?=some r) (hx:Loc X.env.scope r)
  (hsw:swapsWith (.Subscript (.Name x p1) e q1) (some (.Name r p2)) q2.line X.env=pure false) (hf:X.fn r=true∨X.env.scope.names.lookup r=some .local) :
  PS X (.Assign [.Name r p2] (.Subscript (.Name x p1) e q1) q2) (fun D σ H=>wpE X e σ H fun v H1=>∃ (a f:Str) (b:Addr),v=.str a/\kf.lookup a=some f/\(X.mg f=some (.ref b)->D.nx (σ.set i (some (.ref b))) H1)/\X.mg f=some (.ref b)):=by
 have hpe:PE X (.Subscript (.Name x p1) e q1) (fun σ H Q=>wpE X e σ H fun v H1=>∃ (a f:Str) (b:Addr),v=.str a/\kf.lookup a=some f/\X.mg f=some (.ref b)/\Q (.ref b) H1):=by
  intro pins s σ H Q I h
  obtain⟨D,ep,l,h1,h2,h3,h4,h5⟩:=g.ex
  refine Subscript_ (jo I hg h1 (thn (h pins s I) fun iv s2 ⟨y,H2,I2,ry,a,f,b,ey,ef,eb,q⟩=>?_) hdb)
  subst ey
  obtain⟨t,rfl⟩:=ry
  have hd:=zaF (P:=X.prog) (I2.kIn D _ h3) (by rw[h4.keys]; exact h5)
  have hfd:=h4.find a
  rw[ef] at hfd
  obtain⟨b',eb',ev⟩:=hfd
  rw[eb] at eb'; cases eb'
  refine tail_any (ops:= [.ref D,.str a t]) hd.typeIs PySem.F.slot_dict_getitem.lookup ?_ (hs _ _)
  exact wpAny_getItem_of (knd:=PySem.strKind X.prog X.w) (k:=a) (by simp[PySem.strKind,Value.isStrOf]) hd.mapOf ev ⟨.ref b,H2,I2.tok _,rfl,q⟩
 intro pins s σ H D I h
 exact Qy hN hi hx hpe hsw hf pins s σ H D I (h.mono fun v H1 ⟨a,f,b,e1,e2,q,e3⟩=>⟨a,f,b,e1,e2,e3,q e3⟩)
end
end L2
namespace L2
open PySem PySem.Spec PyProof.Rows
variable [Cs]
end L2
namespace L3
open PySem PySem.Spec PyProof.Rows L2
variable [Cs]
section
variable {X:Cx} {XP:XPT} {mp io:List Nat} {a b c e:Expr} {es:List Expr} {pos p p2:Pos} {fa fb fc:EM FV}
theorem RS.unset {M0:Addr->Prop}{F:Fp}{Γ:Gv}{ν:Nu}{H:Hp}{i:Nat}(r:RS M0 F Γ ν H) (h:∀ o,Γ[i]?≠some (some o)):RS M0 F Γ (ν.set i none) H :=
 ⟨r.al0,r.dis0,r.nd,r.dis,fun j o e=>by
  obtain⟨w,e1,z⟩:=r.at' j o e
  refine⟨w,?_,z⟩
  rw[List.getElem?_set_ne (fun q=>h o (by rw[q]; exact e))]
  exact e1,r.emp,by rw[List.length_set]; exact r.len⟩
theorem Sees.unset {ν:Nu}{σ:St}{s i:Nat}{v:V}(h:Sees mp ν σ) (hn:mp.Nodup) (hm:mp[s]?=some i):Sees mp (ν.set i none) (σ.set s (some v)):=fun t j w e1 e2=>by
 by_cases hj:j=i
 ·subst hj
  have hs:t=s:=(List.getElem?_inj (List.getElem?_eq_some_iff.mp e1).1 hn).mp (e1.trans hm.symm)
  subst hs
  rw[List.getElem?_set_self'] at e2
  cases q:ν[j]? with
  | none=>rw[q] at e2; cases e2
  | some z=>rw[q] at e2; cases e2
 ·rw[List.getElem?_set_ne (Ne.symm hj)] at e2
  have hts:s≠t:=fun z=>by subst z; rw[hm] at e1; cases e1; exact hj rfl
  rw[List.getElem?_set_ne hts]
  exact h t j w e1 e2
noncomputable def zck (io:List Nat) (kf:List (Str×Str)) (run:Str->List OV->RF) (i:Nat) (fe:EM FV) (fl:EM (List AV)):SM:=fun Γ=>(fe Γ).bind fun (u,Γ1)=>match derf Γ1 u with
 | some (.str k)=>match kf.lookup k with
  | some f=>if i∈io∨(Γ1[i]?.join).isSome=true then .bad else (fCall (run f) fl Γ1).bind fun (o,Γ2)=>.ok (.ret o,Γ2)
  | none=>.bad
 | _=>.bad
theorem zbh {s i k n:Nat}{r x:Str}{kf:List (Str×Str)}{run:Str->List OV->RF}{fl:EM (List AV)}{p1 p3 q1 q2 q3 q4:Pos}(g:GD X.w X.K X.mg x kf) (hg:Gl X x) (hdb:(x==("__debug__" :Str))=false)
  (px:WR X XP) (kn:∀ key f,kf.lookup key=some f->Kn X.prog X.w X.K X.mg X.base (CX1 X.prog X.w) f k (spX X.mg n (run f))/\∀ args,run f args≠ .bad->args.length=n) (hr:Room k X.A)
  (he:SE X XP mp e fa) (hps:PS X (.Assign [.Name r p2] (.Subscript (.Name x p1) e q1) q2) (fun D σ H=>wpE X e σ H fun v H1=>∃ (a f:Str) (b:Addr),v=.str a/\kf.lookup a=some f/\(X.mg f=some (.ref b)->D.nx (σ.set s (some (.ref b))) H1)/\X.mg f=some (.ref b)))
  (hN:X.N[s]?=some r) (hv:Vis X.env.scope r) (hd:(r==("__debug__" :Str))=false) (hcd:(r==("__classdict__" :Str))=false) (hn:mp.Nodup) (hm:mp[s]?=some i)
  (hl:SA X XP mp (a::es) fl) (hst:starEach (a::es) X.env=(false,eval a X.env)::starEach es X.env) (hpl:(backTo q3 (starEach es X.env)).any (·.1)=false) :
  SB X XP mp io [.Assign [.Name r p2] (.Subscript (.Name x p1) e q1) q2,.Return (some (.Call (.Name r p3) (a::es) [] q3)) q4] (zck io kf run i fa fl):=fun M0 F Γ ν σ H D rs hs hl0 hp=>by
 refine (qJ hps (ZF (Vx zi))).wp ?_
 refine he M0 F Γ ν σ H _ rs hs ((SPost.seq hs hl0 hp).mono fun F1 Γ1 H1 u rs1 s1 h1 v hv1=>?_)
 dsimp only at h1
 split at h1
 ·rename_i key ek
  have r1:=hv1.weak rs1 ek
  cases r1
  split at h1
  ·rename_i f ef
   split at h1
   ·exact h1.elim
   ·rename_i hh
    obtain⟨kn1,hrun⟩:=kn key f ef
    obtain⟨b,fd,ps,_,hb,_⟩:=kn1.ex
    have hio:i∉io:=fun z=>hh (.inl z)
    have hΓ:∀ o,Γ1[i]?≠some (some o):=fun o z=>hh (.inr (by rw[z]; rfl))
    have rs2:=rs1.unset hΓ
    have hs2:Sees mp (ν.set i none) (σ.set s (some (.ref b))):=hs.unset hn hm
    have hlen:(σ.set s (some (.ref b)):St).length=X.N.length:=by rw[List.length_set]; exact hl0
    refine⟨key,f,b,rfl,ef,fun _=>?_,hb⟩
    refine YA (E:=EX X XP (σ.set s (some (.ref b)))) kn1 hb hr hN hv hd hcd ?_ (fun pins H1 s1 e s' I hx=>px _ pins H1 s1 e s' _ (fun c H' q=>q) I hx) (hl M0 F1 Γ1 (ν.set i none) (σ.set s (some (.ref b))) H1 _ rs2 hs2 (Qm rs2 hrun ?_)) hst hpl
    ·have:s<σ.length:=by rw[hl0]; exact (List.getElem?_eq_some_iff.mp hN).1
     rw[List.getElem?_set_self this]
    ·have h1':SPost M0 F1 (ν.set i none) H1 XP mp X.N.length io D ((fCall (run f) fl Γ1).bind fun (o,Γ2)=>.ok (.ret o,Γ2)):=h1.step (.refl _ _) fun j hj=>by
      rw[List.getElem?_set_ne (fun z=>hio (by rw[z]; exact hj))]
     exact (SPost.seqO hs2 hlen h1').mono fun F3 Γ3 H3 o v rs3 s3 h3=>h3 F3 _ v H3 rs3 (.refl _ _) fun _ _=>rfl
  ·exact h1.elim
 ·exact h1.elim
end
end L3
namespace L3
open PySem PySem.Spec PyProof.Rows L2
variable [Cs]
section
variable {M0:Addr->Prop} {F F':Fp} {Γ Γ':Gv} {ν ν':Nu} {H H':Hp}
theorem RS.pair {o:OV}{v u:V}{x:PyData}{p:Addr}(r:RS M0 F (Γ++ [some o]) (ν++ [some v]) H) (n:H p=none) (qx:Rep (MM M0 F) H u x) :
  RS M0 F (Γ++ [some (.t [.d x,o])]) (ν++ [some (.ref p)]) (upd H p (.tup [u,v]))/\Stp F H F (upd H p (.tup [u,v])):=by
 have hl:ν.length=Γ.length:=by have:=r.len; simp at this; exact this
 have hp:∀ i,p∉F i:=fun i h=>by
  obtain⟨vs,e⟩:=r.laidF h
  rw[n] at e; cases e
 obtain⟨w,ew,q⟩:=r.at' Γ.length o (by rw[List.getElem?_append_right (Nat.le_refl _)]; simp)
 have ewv:w=v:=by
  rw[List.getElem?_append_right (by omega),hl] at ew
  simpa using ew.symm
 subst ewv
 have s:Stp F H F (upd H p (.tup [u,w])):=.same (zw n)
 have hF:zC F Γ.length (F Γ.length)=F:=by
  funext j
  by_cases hj:j=Γ.length
  ·subst hj; exact zd
  ·exact zh hj
 have keep:∀ j,∀ a∈F j,upd H p (.tup [u,w]) a=H a:=fun j a ha=>ze (fun e=>hp j (by rw[<- e]; exact ha))
 have q2:ORL (MM M0 F) (upd H p (.tup [u,w])) [u,w] [.d x,o] (F Γ.length):=by
  have:=ORL.cons (A:= []) (.d (zm s r.al0 qx)) (ORL.cons (q.go (fun _ _ x=>zm s r.al0 x) s.tups (keep _)) ORL.nil)
  rw[List.append_nil,List.nil_append] at this; exact this
 have r1:=r.put (i:=Γ.length) (o:=.t [.d x,o]) (v:=.ref p) (A:=F Γ.length) (H':=upd H p (.tup [u,w])) (by rw[hF]; exact s) (fun j _=>keep j)
  (fun a h=>s.stay a (r.al0 a h)) (fun a ha h=>r.dis0 _ a ha h) (r.nd _) (fun j hj a ha h=>hj (r.dis _ _ a h ha)) (by simp) (by rw[hF]; exact .t zj q2)
 rw[hF] at r1
 have e1:(Γ++ [some o]).set Γ.length (some (OV.t [.d x,o]))=Γ++ [some (.t [.d x,o])]:=by
  rw[List.set_append_right _ _ (Nat.le_refl _)]; simp
 have e2:(ν++ [some w]).set Γ.length (some (V.ref p))=ν++ [some (.ref p)]:=by
  rw[<- hl,List.set_append_right _ _ (Nat.le_refl _)]; simp
 rw[e1,e2] at r1
 exact⟨r1,s⟩
theorem zd8 {i:Nat}{xs:List OV}(rs:RS M0 F Γ ν H) (e:Γ[i]?=some (some (.t xs))):∃ a vs,ν[i]?=some (some (.ref a))/\H a=some (.tup vs)/\ORL (MM M0 F) H vs xs (F i):=by
 obtain⟨v,ev,q⟩:=rs.at' i _ e
 generalize F i=A at q
 cases q with
 | t ea qa=>exact⟨_,_,ev,ea,qa⟩
end
section
variable {X:Cx} {XP:XPT} {mp io:List Nat} {a b c e:Expr} {es:List Expr} {pos p p2 pos' p3:Pos} {fa fb fc:EM FV} {fo:EM OV} {kx:Nat}
noncomputable def Jq (fa:EM FV) (fo:EM OV):EM OV:=fun Γ=>(fa Γ).bind fun (u,Γ1)=>match derS Γ1 u with
 | some x=>(fo Γ1).bind fun (o,Γ2)=>.ok (.t [.d x,o],Γ2)
 | none=>.bad
theorem zbG (ha:SE X XP mp a fa) (h:SO X XP mp b fo) (h1:starEach [a,b] X.env=(false,eval a X.env)::starEach [b] X.env) (h2:starEach [b] X.env= [(false,eval b X.env)]):SO X XP mp (.Tuple [a,b] kx pos) (Jq fa fo):=fun M0 F Γ ν σ H Q rs hs hp=>by
 refine (Vs (zo zi (zo zi pa_nil h2) h1)).wp ?_
 refine ha M0 F Γ ν σ H _ rs hs (hp.seq.mono fun F1 Γ1 H1 u rs1 s1 h1 v hv=>?_)
 dsimp only at h1
 split at h1
 ·rename_i x ex
  have rx:=hv.strong rs1 ex
  refine h M0 F1 Γ1 ν σ H1 _ rs1 hs ?_
  cases q:fo Γ1 with
  | bad=>rw[q] at h1; exact h1.elim
  | exc x y=>rw[q] at h1; exact h1
  | ok z=>
   obtain⟨o,Γ2⟩:=z
   rw[q] at h1
   intro F2 H2 w rs2 s2
   refine⟨by show 2<=sizeLine; decide,fun p n=>?_⟩
   obtain⟨r3,s3⟩:=rs2.pair n (zm s2 rs1.al0 rx)
   exact h1 F2 _ _ r3 (s2.trans s3)
 ·exact h1.elim
end
end L3
namespace L2
open PySem PySem.Spec PyProof.Rows
section
variable {β:Type}
noncomputable def K9 (ds:List (Str×β)) (x:Str):Option β:=(ds.find? fun p=>decide (p.1=x)).map (·.2)
noncomputable def J3 (ds:List (Str×β)) (x:Str) (y:β):List (Str×β):=if (ds.any fun p=>decide (p.1=x))=true then ds.map (fun p=>if p.1=x then (p.1,y) else p) else ds++ [(x,y)]
noncomputable def Y2 (ds:List (Str×β)) (x:Str):List (Str×β):=ds.filter fun p=>decide (p.1≠x)
theorem vo (ds:List (Str×β)) (x:Str) (y:β):(J3 ds x y).length<=ds.length+1:=by
 unfold J3
 split
 ·rw[List.length_map]; omega
 ·rw[List.length_append,List.length_cons,List.length_nil]; omega
end
theorem inr_eq {x y:Str}:((Sum.inr x:Key)=Sum.inr y)↔x=y:=⟨fun h=>by injection h,fun h=>by rw[h]⟩
theorem YM (x:Str):∀ (ks:List (Str×V)),((ks.map kK).any fun p=>decide (p.1=(.inr x:Key)))=ks.any fun p=>decide (p.1=x)
 | []=>rfl
 | p::r=>by
  rw[List.map_cons,List.any_cons,List.any_cons,YM x r]
  congr 1
  exact decide_eq_decide.mpr inr_eq
theorem zbd (ks:List (Str×V)) (x:Str) (v:V):Vy (ks.map kK) (.inr x) v=(J3 ks x v).map kK:=by
 unfold Vy J3
 rw[YM]
 split
 ·rw[List.map_map,List.map_map]
  refine List.map_congr_left fun p _=>?_
  show (if (kK p).1=Sum.inr x then _ else _)=kK (if p.1=x then _ else _)
  by_cases h:p.1=x
  ·rw[if_pos (show (kK p).1=Sum.inr x from inr_eq.mpr h),if_pos h]; rfl
  ·rw[if_neg (show ¬ (kK p).1=Sum.inr x from fun z=>h (inr_eq.mp z)),if_neg h]
 ·rw[List.map_append]; rfl
variable [Cs]
inductive KR (M:Addr->Prop) (H:Hp):List (Str×V)->List (Str×PyData)->Prop
 | nil:KR M H [] []
 | cons {x:Str} {v:V} {d:PyData} {ks:List (Str×V)} {ds:List (Str×PyData)}:Rep M H v d->KR M H ks ds->KR M H ((x,v)::ks) ((x,d)::ds)
section
variable {M M':Addr->Prop} {H H':Hp}
theorem KR.of:∀ {ks:List (Str×V)}{ds:List (Str×PyData)},ks.map (·.1)=ds.map (·.1)->RepL M H (ks.map (·.2)) (ds.map (·.2))->KR M H ks ds
 | [],[],_,_=>.nil
 | [],_::_,h,_=>by simp at h
 | _::_,[],h,_=>by simp at h
 | (x,v)::ks,(y,d)::ds,h,r=>by
  simp only[List.map_cons,List.cons.injEq] at h
  obtain⟨rfl,h⟩:=h
  simp only[List.map_cons] at r
  cases r with
  | cons r t=>exact .cons r (KR.of h t)
theorem KR.keys:∀ {ks:List (Str×V)}{ds:List (Str×PyData)},KR M H ks ds->ks.map (·.1)=ds.map (·.1)
 | _,_,.nil=>rfl
 | _,_,.cons _ t=>by rw[List.map_cons,List.map_cons,t.keys]
theorem KR.vals:∀ {ks:List (Str×V)}{ds:List (Str×PyData)},KR M H ks ds->RepL M H (ks.map (·.2)) (ds.map (·.2))
 | _,_,.nil=>.nil
 | _,_,.cons r t=>.cons r t.vals
theorem KR.length {ks:List (Str×V)}{ds:List (Str×PyData)}(h:KR M H ks ds):ks.length=ds.length:=by have:=congrArg List.length h.keys; simpa using this
theorem KR.map (hr:∀ v d,Rep M H v d->Rep M' H' v d):∀ {ks:List (Str×V)}{ds:List (Str×PyData)},KR M H ks ds->KR M' H' ks ds
 | _,_,.nil=>.nil
 | _,_,.cons r t=>.cons (hr _ _ r) (t.map hr)
theorem KR.any (x:Str):∀ {ks:List (Str×V)}{ds:List (Str×PyData)},KR M H ks ds->(ks.any fun p=>decide (p.1=x))=ds.any fun p=>decide (p.1=x)
 | _,_,.nil=>rfl
 | _,_,.cons _ t=>by rw[List.any_cons,List.any_cons,t.any x]
theorem KR.repl {x:Str}{v:V}{d:PyData}(r:Rep M H v d):∀ {ks:List (Str×V)}{ds:List (Str×PyData)},KR M H ks ds->KR M H (ks.map fun p=>if p.1=x then (p.1,v) else p) (ds.map fun p=>if p.1=x then (p.1,d) else p)
 | _,_,.nil=>.nil
 | _,_,.cons (x:=y) q t=>by
  rw[List.map_cons,List.map_cons]
  by_cases h:y=x
  ·rw[if_pos h,if_pos h]; exact .cons r (t.repl r)
  ·rw[if_neg h,if_neg h]; exact .cons q (t.repl r)
theorem KR.append:∀ {ks ks':List (Str×V)}{ds ds':List (Str×PyData)},KR M H ks ds->KR M H ks' ds'->KR M H (ks++ks') (ds++ds')
 | _,_,_,_,.nil,s=>s
 | _,_,_,_,.cons r t,s=>.cons r (t.append s)
theorem KR.put {ks:List (Str×V)}{ds:List (Str×PyData)}(x:Str){v:V}{d:PyData}(h:KR M H ks ds) (r:Rep M H v d):KR M H (J3 ks x v) (J3 ds x d):=by
 unfold J3
 rw[h.any x]
 split
 ·exact h.repl r
 ·exact h.append (.cons r .nil)
theorem KR.drop (x:Str):∀ {ks:List (Str×V)}{ds:List (Str×PyData)},KR M H ks ds->KR M H (Y2 ks x) (Y2 ds x)
 | _,_,.nil=>.nil
 | _,_,.cons (x:=y) q t=>by
  unfold Y2
  rw[List.filter_cons,List.filter_cons]
  by_cases h:y=x
  ·rw[if_neg (by simp[h]),if_neg (by simp[h])]; exact t.drop x
  ·rw[if_pos (by simp[h]),if_pos (by simp[h])]; exact .cons q (t.drop x)
theorem KR.val (x:Str):∀ {ks:List (Str×V)}{ds:List (Str×PyData)},KR M H ks ds->(K9 ks x).isSome=(K9 ds x).isSome/\∀ d,K9 ds x=some d->∃ v,K9 ks x=some v/\Rep M H v d
 | _,_,.nil=>⟨rfl,fun d e=>by cases e⟩
 | _,_,.cons (x:=y) (v:=v) q t=>by
  have ih:=t.val x
  unfold K9 at *
  rw[List.find?_cons,List.find?_cons]
  by_cases h:y=x
  ·rw[decide_eq_true (show (y,v).1=x from h)]
   exact⟨rfl,fun d e=>by cases e; exact⟨v,rfl,q⟩⟩
  ·rw[decide_eq_false (show ¬ (y,v).1=x from h)]; exact ih
theorem KR.get:∀ {ks:List (Str×V)}{ds:List (Str×PyData)}{i:Nat}{p:Str×PyData},KR M H ks ds->ds[i]?=some p->∃ v,ks[i]?=some (p.1,v)/\Rep M H v p.2
 | _,_,_,_,.nil,e=>by simp at e
 | _,_,0,_,.cons r _,e=>by simp at e; subst e; exact⟨_,rfl,r⟩
 | _,_,i+1,p,.cons _ t,e=>by
  obtain⟨v,h1,h2⟩:=KR.get (i:=i) (p:=p) t (by simpa using e)
  exact⟨v,by simpa using h1,h2⟩
theorem Rep.dict_inv {v:V}{kv:List (PyData×PyData)}(r:Rep M H v (.dict kv)):∃ a,v=.ref a/\¬ M a/\((∃ ks ds,Rd H a (.dK (ks.map kK))/\kv=ds.map dK/\KR M H ks ds)∨∃ dx c fs ds,H a=some (.ins (Cs.adr c) dx fs)/\kv=(.none,.str c)::ds.map dK/\KR M H fs ds):=by
 cases r with
 | dict e n k q=>exact⟨_,rfl,n,.inl ⟨_,_,e,rfl,.of k q⟩⟩
 | inst e n k q=>exact⟨_,rfl,n,.inr ⟨_,_,_,_,e,rfl,.of k q⟩⟩
end
noncomputable def unD:List (PyData×PyData)->Option (List (Str×PyData))
 | []=>some []
 | (.str x,d)::r=>(unD r).map ((x,d)::·)
 | _=>none
theorem zbR (ds:List (Str×PyData)):unD (ds.map dK)=some ds:=by
 induction ds with
 | nil=>rfl
 | cons p r ih=>simp[unD,dK,ih]
section
variable {X:Cx} {pins:List (Addr×Obj)} {σ:St} {H:Hp} {s:Shared} {a b:Addr} {kvs more:List (Key×V)} {A:Around} {E:Value->Shared->Prop}
end
section
variable {X:Cx} {o e:Expr} {apos cpos:Pos} {td te:TE}
end
theorem StrsAre.of:∀ {ss:List Str}{us:List Value},Vals (ss.map V.str) us->StrsAre us ss
 | [],_,.nil=>.nil
 | n::ns,_,.cons ⟨t,e⟩ r=>by subst e; exact .cons n t (StrsAre.of r)
section
variable {X:Cx}
end
section
variable {prog:Program} {w:World} {A:Around} {E:Value->Shared->Prop} {s:Shared}
end
section
variable {X:Cx}
end
end L2
namespace L2
open PySem PySem.Spec PyProof.Rows
variable [Cs]
section
variable {X:Cx} {pins:List (Addr×Obj)} {σ:St} {H:Hp} {s:Shared} {a:Addr} {kvs:List (Key×V)}
theorem Inv.ghost {o o':HO}(I:Inv X pins σ H s) (e:H a=some o) (hn:∀ xs,o≠ .tup xs) (hno:∀ b,o≠ .own b) (hnt:∀ ps,o≠ .tbl ps) (hf:∀ ob u,X.H₀ a≠some (.frz ob u)) (new:ObjOk X.prog X.w (upd H a o') s.heap a o'):Inv X pins σ (upd H a o') s where
 ok:=I.ok
 os:=I.os
 bare:=I.bare
 base:={
  keep:=I.base.keep
  slot:=I.base.slot
  free:=fun b ob e' n hx=>by
   have:=I.base.free b ob e' n hx
   rw[ze (fun z=>by subst z; rw[e] at this; cases this)]; exact this
  there:=I.base.there
  tups:=fun b xs e'=>by
   have:=I.base.tups b xs e'
   rw[ze (fun z=>by subst z; rw[e] at this; exact hn xs (Option.some.inj this))]; exact this
  frzs:=fun b ob u e'=>by
   rw[ze (fun z=>by subst z; exact hf ob u e')]; exact I.base.frzs b ob u e'
  tbls:=fun b ps e'=>by
   obtain⟨mo,this⟩:=I.base.tbls b ps e'
   exact⟨mo,by rw[ze (fun z=>by subst z; rw[e] at this; exact hnt _ (Option.some.inj this))]; exact this⟩ }
 loc:=I.loc
 cell:=I.cell
 free:=by rw[ze (fun z=>by have:=I.free; rw[z,e] at this; cases this)]; exact I.free
 freeC:=fun x c e'=>by
  have:=I.freeC x c e'
  rw[ze (fun z=>by rw[z,e] at this; cases this)]; exact this
 pin:=fun p h=>by
  obtain⟨e1,n,r⟩:=I.pin p h
  exact⟨e1,by rw[ze (fun z=>by rw[z,e] at n; cases n)]; exact n,r⟩
 hok:=fun b u q=>by
  by_cases hb:b=a
  ·subst hb; rw[zj] at q; cases q; exact new
  ·rw[ze hb] at q
   exact (I.hok b u q).stay (fun c v _ r=>r) (fun c r=>by rw[ze (fun z=>by subst z; rw[e] at r; exact hno _ (Option.some.inj r))]; exact r) fun c xs r=>by rw[ze (fun z=>by subst z; rw[e] at r; exact hn _ (Option.some.inj r))]; exact r
 len:=I.len
noncomputable def Fz (X:Cx) (H Hf:Hp) (a:Addr) (o:Obj) (kvs:List (Key×V)):Prop:=Hf a=some (.frz o (.dK kvs))/\(Hf=H∨(H a=some (.dK kvs)/\Hf=upd H a (.frz o (.dK kvs))/\∀ ob u,X.H₀ a≠some (.frz ob u)))
theorem Inv.thaw {o:Obj}{H':Hp}(I:Inv X pins σ H s) (e:H a=some (.frz o (.dK kvs))) (hf:∀ ob u,X.H₀ a≠some (.frz ob u)):Inv X pins σ (upd H a (.dK kvs)) s:=by
 obtain⟨_,z,hd,vs,rel,dd⟩:=(show ObjOk X.prog X.w H s.heap a (.frz o (.dK kvs)) from I.hok a _ e)
 exact I.ghost e (fun _ z=>nomatch z) (fun _ z=>nomatch z) (fun _ z=>nomatch z) hf ⟨z,hd,vs,rel,dd⟩
theorem zaf {e:Expr}{Q:VK}(h:wpE X e σ H fun v H'=>Q v H'∨∃ a kvs o,H' a=some (.frz o (.dK kvs))/\(∀ ob u,X.H₀ a≠some (.frz ob u))/\Q v (upd H' a (.dK kvs))):wpE X e σ H Q:=fun pins s I=>
 thn (h pins s I) fun u s' ⟨v,H',I',r,q⟩=>by
  rcases q with q | ⟨a,kvs,o,e,hf,q⟩
  ·exact⟨v,H',I',r,q⟩
  ·exact⟨v,_,I'.thaw (H':=H') e hf,r,q⟩
end
section
variable {X:Cx} {tg:Expr}
end
section
variable {X:Cx} {tg o:Expr} {apos cpos:Pos}
end
end L2
namespace L3
open PySem PySem.Spec PyProof.Rows L2
variable [Cs]
noncomputable def Eqv (H H':Hp):Prop:=∀ b o,H b=some o->H' b=some o∨∃ kvs,(o=.dK kvs∨∃ ob,o=.frz ob (.dK kvs))/\Rd H' b (.dK kvs)
section
variable {M0 M:Addr->Prop} {F F':Fp} {Γ Γ':Gv} {ν:Nu} {H H' Hf:Hp} {X:Cx} {a:Addr} {o:Obj} {kvs:List (Key×V)}
theorem Eqv.refl (H:Hp):Eqv H H:=fun _ _ e=>.inl e
theorem Eqv.rd (h:Eqv H H'){b:Addr}{kvs:List (Key×V)}(r:Rd H b (.dK kvs)):Rd H' b (.dK kvs):=by
 rcases r with e | ⟨ob,e⟩
 ·rcases h b _ e with z | ⟨k,z | ⟨ob,z⟩,r⟩
  ·exact .inl z
  ·cases z; exact r
  ·cases z
 ·rcases h b _ e with z | ⟨k,z | ⟨ob',z⟩,r⟩
  ·exact .inr ⟨_,z⟩
  ·cases z
  ·cases z; exact r
theorem Eqv.of (h:Eqv H H'){b:Addr}{o:HO}(e:H b=some o) (h1:∀ kvs,o≠ .dK kvs) (h2:∀ ob kvs,o≠ .frz ob (.dK kvs)):H' b=some o:=by
 rcases h b _ e with z | ⟨k,z | ⟨ob,z⟩,r⟩
 ·exact z
 ·exact absurd z (h1 k)
 ·exact absurd z (h2 ob k)
theorem Eqv.stay (h:Eqv H H'){b:Addr}(n:H b≠none):H' b≠none:=by
 cases q:H b with
 | none=>exact absurd q n
 | some o=>
  rcases h b _ q with z | ⟨k,_,z | ⟨ob,z⟩⟩ <;> rw[z] <;> exact fun w=>nomatch w
mutual
theorem Rep.eqv (h:Eqv H H'):∀ {v:V}{d:PyData},Rep M H v d->Rep M H' v d
 | _,_,.none=>.none
 | _,_,.bool b=>.bool b
 | _,_,.int i=>.int i
 | _,_,.str x=>.str x
 | _,_,.list e n r=>.list (h.of e (fun _ z=>nomatch z) (fun _ _ z=>nomatch z)) n (RepL.eqv h r)
 | _,_,.tuple e r=>.tuple (h.of e (fun _ z=>nomatch z) (fun _ _ z=>nomatch z)) (RepL.eqv h r)
 | _,_,.dict e n k r=>.dict (h.rd e) n k (RepL.eqv h r)
 | _,_,.inst e n k r=>.inst (h.of e (fun _ z=>nomatch z) (fun _ _ z=>nomatch z)) n k (RepL.eqv h r)
theorem RepL.eqv (h:Eqv H H'):∀ {vs:List V}{ds:List PyData},RepL M H vs ds->RepL M H' vs ds
 | _,_,.nil=>.nil
 | _,_,.cons r t=>.cons (Rep.eqv h r) (RepL.eqv h t)
end
theorem RS.eqv (r:RS M0 F Γ ν H) (h:Eqv H H') (hF:∀ i,∀ a∈F i,H' a=H a):RS M0 F Γ ν H' :=
 ⟨fun a ha=>h.stay (r.al0 a ha),r.dis0,r.nd,r.dis,fun i o e=>let ⟨v,e1,q⟩:=r.at' i o e; ⟨v,e1,q.go (fun _ _ x=>Rep.eqv h x) (fun b xs e=>h.of e (fun _ z=>nomatch z) (fun _ _ z=>nomatch z)) (hF i)⟩,r.emp,r.len⟩
theorem zcX (z:Fz X H Hf a o kvs):Eqv H Hf:=by
 obtain⟨e,rfl | ⟨e1,rfl,_⟩⟩:=z
 ·exact .refl _
 ·intro b u eb
  by_cases hb:b=a
  ·subst hb
   rw[e1] at eb; cases eb
   exact .inr ⟨kvs,.inl rfl,.inr ⟨o,zj⟩⟩
  ·exact .inl (by rw[ze hb]; exact eb)
theorem vM (e:H a=some (.frz o (.dK kvs))):Eqv H (upd H a (.dK kvs)):=fun b u eb=>by
 by_cases hb:b=a
 ·subst hb
  rw[e] at eb; cases eb
  exact .inr ⟨kvs,.inr ⟨o,rfl⟩,.inl zj⟩
 ·exact .inl (by rw[ze hb]; exact eb)
theorem KP {H'f:Hp}(e:H a=some (.dK kvs)) (s:Stp F (upd H a (.frz o (.dK kvs))) F' H'f) (hn:∀ i,a∉F i):Stp F H F' (upd H'f a (.dK kvs)):=by
 have ka:=s.keep a _ zj hn
 refine⟨fun b u eb nb=>?_,fun b xs eb=>?_,fun b hb=>?_⟩
 ·by_cases hb:b=a
  ·subst hb
   rw[e] at eb; cases eb
   exact⟨zj,ka.2⟩
  ·rw[ze hb]
   exact s.keep b u (by rw[ze hb]; exact eb) nb
 ·have hb:b≠a:=fun z=>by subst z; rw[e] at eb; cases eb
  rw[ze hb]
  exact s.tups b xs (by rw[ze hb]; exact eb)
 ·by_cases z:b=a
  ·subst z; rw[zj]; exact fun w=>nomatch w
  ·rw[ze z]
   exact s.stay b (by rw[ze z]; exact hb)
end
noncomputable def QX (M0:Addr->Prop) (F:Fp) (i:Nat):Addr->Prop:=fun a=>M0 a∨a∈F i
section
variable {M0:Addr->Prop} {F F':Fp} {Γ Γ':Gv} {ν:Nu} {H H':Hp} {i:Nat}
theorem ZA {F3:Fp}(h:F3 i= []):MM (QX M0 F i) F3=MM M0 (zC F3 i (F i)):=by
 funext a
 apply propext
 constructor
 ·rintro ((h1 | h1) | ⟨j,h1⟩)
  ·exact .inl h1
  ·exact .inr ⟨i,by rw[zd]; exact h1⟩
  ·refine .inr ⟨j,?_⟩
   rw[zh (fun z=>by subst z; rw[h] at h1; cases h1)]; exact h1
 ·rintro (h1 | ⟨j,h1⟩)
  ·exact .inl (.inl h1)
  ·by_cases z:j=i
   ·subst z; rw[zd] at h1; exact .inl (.inr h1)
   ·rw[zh z] at h1; exact .inr ⟨j,h1⟩
theorem Wn:zC (zC F i []) i (F i)=F:=by
 funext j
 by_cases z:j=i
 ·subst z; rw[zd]
 ·rw[zh z,zh z]
theorem RS.hide (r:RS M0 F Γ ν H):RS (QX M0 F i) (zC F i []) (Γ.set i none) ν H:=by
 have hm:MM (QX M0 F i) (zC F i [])=MM M0 F:=by rw[ZA zd,Wn]
 have sub:∀ j a,a∈zC F i [] j->j≠i/\a∈F j:=fun j a h=>by
  by_cases z:j=i
  ·subst z; rw[zd] at h; cases h
  ·rw[zh z] at h; exact⟨z,h⟩
 refine⟨fun a h=>?_,fun j a h=>?_,fun j=>?_,fun j k a h1 h2=>r.dis _ _ a (sub _ _ h1).2 (sub _ _ h2).2,fun j o e=>?_,fun j h=>?_,by rw[List.length_set]; exact r.len⟩
 ·rcases h with h | h
  ·exact r.al0 a h
  ·exact r.al a (.inr ⟨i,h⟩)
 ·obtain⟨h1,h2⟩:=sub j a h
  rintro (z | z)
  ·exact r.dis0 j a h2 z
  ·exact h1 (r.dis _ _ a h2 z)
 ·by_cases z:j=i
  ·subst z; rw[zd]; exact .nil
  ·rw[zh z]; exact r.nd j
 ·by_cases z:j=i
  ·subst z
   by_cases hl:j<Γ.length
   ·rw[List.getElem?_set_self hl] at e; cases e
   ·rw[List.getElem?_eq_none (by simpa using hl)] at e; cases e
  ·rw[List.getElem?_set_ne (Ne.symm z)] at e
   rw[hm,zh z]
   exact r.at' j o e
 ·by_cases z:j=i
  ·subst z; exact zd
  ·rw[zh z]
   refine r.emp j fun o e=>h o ?_
   rw[List.getElem?_set_ne (Ne.symm z)]; exact e
theorem RS.unhide {o:OV}(r:RS M0 F Γ ν H) (e:Γ[i]?=some (some o)) (r':RS (QX M0 F i) F' Γ' ν H') (e':Γ'[i]?=some none) (s:Stp (zC F i []) H F' H'):RS M0 (zC F' i (F i)) (Γ'.set i (some o)) ν H'/\Stp F H (zC F' i (F i)) H':=by
 have hi':i<Γ'.length:=(List.getElem?_eq_some_iff.mp e').1
 have hFi:F' i= []:=r'.emp i fun o z=>by rw[e'] at z; cases z
 have hm:MM (QX M0 F i) F'=MM M0 (zC F' i (F i)):=ZA hFi
 have kp:∀ a∈F i,H' a=H a/\∀ j,a∉F' j:=fun a ha=>by
  obtain⟨u,eu⟩:=r.laidF ha
  obtain⟨k1,k2⟩:=s.keep a u eu fun j hj=>by
   by_cases z:j=i
   ·subst z; rw[zd] at hj; cases hj
   ·rw[zh z] at hj; exact z (r.dis _ _ a hj ha)
  exact⟨by rw[k1,eu],k2⟩
 have cls:∀ j a,a∈zC F' i (F i) j->(j=i/\a∈F i)∨(j≠i/\a∈F' j):=fun j a h=>by
  by_cases z:j=i
  ·subst z; rw[zd] at h; exact .inl ⟨rfl,h⟩
  ·rw[zh z] at h; exact .inr ⟨z,h⟩
 have s0:MM (QX M0 F i) (zC F i [])=MM M0 F:=by rw[ZA zd,Wn]
 refine⟨⟨fun a h=>r'.al0 a (.inl h),fun j a h=>?_,fun j=>?_,fun j k a h1 h2=>?_,fun j p ep=>?_,fun j h=>?_,by rw[List.length_set]; exact r'.len⟩,⟨fun b u eb nb=>?_,s.tups,s.stay⟩⟩
 ·rcases cls j a h with ⟨_,h⟩ | ⟨_,h⟩
  ·exact r.dis0 i a h
  ·exact fun z=>r'.dis0 j a h (.inl z)
 ·by_cases z:j=i
  ·subst z; rw[zd]; exact r.nd _
  ·rw[zh z]; exact r'.nd j
 ·rcases cls j a h1 with ⟨z1,h1⟩ | ⟨z1,h1⟩ <;> rcases cls k a h2 with ⟨z2,h2⟩ | ⟨z2,h2⟩
  ·rw[z1,z2]
  ·exact absurd h2 ((kp a h1).2 k)
  ·exact absurd h1 ((kp a h2).2 j)
  ·exact r'.dis _ _ a h1 h2
 ·by_cases z:j=i
  ·subst z
   rw[List.getElem?_set_self hi'] at ep
   cases ep
   obtain⟨v,ev,q⟩:=r.at' j _ e
   refine⟨v,ev,?_⟩
   rw[zd,<- hm]
   exact q.go (fun w d x=>zm s (fun a h=>(r.hide (i:=j)).al0 a h) (by rw[s0]; exact x)) s.tups fun a ha=>(kp a ha).1
  ·rw[List.getElem?_set_ne (Ne.symm z)] at ep
   rw[<- hm,zh z]
   exact r'.at' j p ep
 ·by_cases z:j=i
  ·subst z
   rw[List.getElem?_set_self hi'] at h
   exact absurd rfl (h o)
  ·rw[zh z]
   refine r'.emp j fun p ep=>h p ?_
   rw[List.getElem?_set_ne (Ne.symm z)]; exact ep
 ·obtain⟨k1,k2⟩:=s.keep b u eb fun j hj=>by
   by_cases z:j=i
   ·subst z; rw[zd] at hj; cases hj
   ·rw[zh z] at hj; exact nb j hj
  refine⟨k1,fun j hj=>?_⟩
  rcases cls j b hj with ⟨_,h⟩ | ⟨_,h⟩
  ·exact nb i h
  ·exact k2 j h
end
noncomputable def hid {γ:Type}(z:Option Nat) (f:EM γ):EM γ:=fun Γ=>match z with
 | none=>f Γ
 | some i=>match Γ[i]? with
  | some (some o)=>match f (Γ.set i none) with
   | .ok (y,Γ2)=>match Γ2[i]? with
    | some none=>.ok (y,Γ2.set i (some o))
    | _=>.bad
   | _=>.bad
  | _=>.bad
noncomputable def Wk (X:Cx) (F:Fp) (H Hf:Hp):Prop:=Hf=H∨∃ a o kvs,Fz X H Hf a o kvs/\∀ i,a∉F i
noncomputable def JIw (X:Cx) (M0:Addr->Prop) (F:Fp) (J:It) (z:List PyData×Option Nat) (H Hf:Hp):Prop:=match z.2 with
 | none=>Wk X F H Hf/\JI M0 F J z.1 Hf
 | some i=>Hf=H/\JI (QX M0 F i) (zC F i []) J z.1 H
noncomputable def SIw (X:Cx) (XP:XPT) (mp:List Nat) (tg iter:Expr) (f:EM (List PyData×Option Nat)):Prop:=∀ (M0:Addr->Prop) (F:Fp) (Γ:Gv) (ν:Nu) (σ:St) (H:Hp) (R:It->Hp->Prop),RS M0 F Γ ν H->Sees mp ν σ ->
 EPost M0 F ν σ H XP (fun F' Γ' H' z=>∀ J Hf,JIw X M0 F' J z H' Hf->R J Hf) (f Γ)->wpI X tg iter σ H R
section
variable {X:Cx} {XP:XPT} {mp:List Nat} {a b c e tg iter elt:Expr} {es ifs:List Expr} {pos p p2:Pos} {fa fb fc:EM FV} {ta tb:EM Bool} {na nb:EM (List PyData)}
noncomputable def zaM (f:EM (List PyData)):EM (List PyData×Option Nat):=fun Γ=>(f Γ).bind fun (ds,Γ1)=>.ok ((ds,none),Γ1)
theorem zbx (h:SI X XP mp tg iter na):SIw X XP mp tg iter (zaM na):=fun M0 F Γ ν σ H R rs hs hp=>
 h M0 F Γ ν σ H R rs hs (hp.seq.mono fun F1 Γ1 H1 ds rs1 s1 h1 J hJ=>h1 F1 H1 rs1 (.refl _ _) J H1 ⟨.inl rfl,hJ⟩)
noncomputable def qE {β γ:Type}(k:Nat) (t:IT) (cond:EM Bool) (it:EM β) (add:γ->β->γ):List PyData->γ->Gv->R (γ×Gv)
 | [],ys,Γ=>.ok (ys,Γ)
 | d::ds,ys,Γ=>match tgF t d (Γ++List.replicate k none) with
  | none=>.bad
  | some Γ2=>match cond Γ2 with
   | .ok (true,Γ3)=>match it Γ3 with
    | .ok (y,Γ4)=>qE k t cond it add ds (add ys y) (Γ4.take Γ.length)
    | _=>.bad
   | .ok (false,Γ3)=>qE k t cond it add ds ys (Γ3.take Γ.length)
   | _=>.bad
structure zai {α β γ δ:Type}(ac:Acc α β) (ad:γ->δ->γ) (RA:(Addr->Prop)->Fp->Hp->α->γ->Prop) (RB:(Addr->Prop)->Fp->Hp->β->δ->Prop) (ln:γ->Nat):Prop where
 stp:∀ {M0:Addr->Prop} {F F':Fp} {H H':Hp} {x:α} {y:γ},RA M0 F H x y->Stp F H F' H'->(∀ a,M0 a->H a≠none)->RA M0 F' H' x y
 add:∀ {M0:Addr->Prop} {F:Fp} {H:Hp} {x:α} {y:γ} {u:β} {d:δ},RA M0 F H x y->RB M0 F H u d->RA M0 F H (ac.add x u) (ad y d)
 bst:∀ {M0:Addr->Prop} {F F':Fp} {H H':Hp} {u:β} {d:δ},RB M0 F H u d->Stp F H F' H'->(∀ a,M0 a->H a≠none)->RB M0 F' H' u d
 len:∀ {M0:Addr->Prop} {F:Fp} {H:Hp} {x:α} {y:γ},RA M0 F H x y->ac.len x=ln y
 lin:∀ (y:γ) (d:δ),ln (ad y d)<=ln y+1
 eqv:∀ {M0:Addr->Prop} {F:Fp} {H H':Hp} {x:α} {y:γ},RA M0 F H x y->Eqv H H'->RA M0 F H' x y
 mm:∀ {M0 M0':Addr->Prop} {F F':Fp} {H:Hp} {x:α} {y:γ},MM M0 F=MM M0' F'->RA M0 F H x y->RA M0' F' H x y
theorem jw {α β γ δ:Type}{ac:Acc α β}{add:γ->δ->γ}{RA:(Addr->Prop)->Fp->Hp->α->γ->Prop}{RB:(Addr->Prop)->Fp->Hp->β->δ->Prop}{len:γ->Nat}(AR:zai ac add RA RB len){N':List Str}{scope:Scope}{n k:Nat}{ix:List Nat}{t:IT}{cond:EM Bool}{it:EM δ}{te:St->Hp->(β->Hp->Prop)->Prop}{M0:Addr->Prop}{F1:Fp}{ν:Nu}{σ:St}{H1:Hp}{J:It}{ds:List PyData}{P:Fp->Gv->Hp->γ->Prop}{Γ1:Gv}{Q:α->Hp->Prop}{c0:γ}
  (hm:∀ j i:Nat,ix[j]?=some i->∃ m,mp[i]?=some m/\m<n) (hN':N'.length=k+ix.length) (h0:RA M0 F1 H1 ac.a0 c0) (hl0:len c0=0)
  (hg:∀ cl C s2 H2 fp,SG (X.comp N' scope cl C s2 H2 fp) (mpC mp n k ix) (·<n) tg t) (hc:∀ cl C s2 H2 fp,SF (X.comp N' scope cl C s2 H2 fp) XP0 (mpC mp n k ix) ifs cond)
  (he:∀ (M0:Addr->Prop) (F:Fp) (Γ:Gv) (ν:Nu) (σ:St) (H:Hp) (Q:β->Hp->Prop),RS M0 F Γ ν H->Sees (mpC mp n k ix) ν σ->EPost M0 F ν σ H XP0 (fun F' Γ' H' d=>∀ y,RB M0 F' H' y d->Q y H') (it Γ)->te σ H Q)
  (rs1:RS M0 F1 Γ1 ν H1) (hs:Sees mp ν σ) (hJ:JI M0 F1 J ds H1) (hd:ds.length<=1000000) (hn:Γ1.length=n) (hp:EPost M0 F1 ν σ H1 XP P (qE k t cond it add ds c0 Γ1))
  (fin:∀ F' Γ' H' ys vs,RS M0 F' Γ' ν H'->RA M0 F' H' vs ys->P F' Γ' H' ys->Stp F1 H1 F' H'->Q vs H') :
  JZ ac k ix (gU X N' scope tg) (fU X N' scope ifs) te σ J H1 Q:=by
 have hνn:ν.length=n:=by rw[rs1.len,hn]
 refine⟨fun i m vs H=>m=ds.length-i/\i<=ds.length/\∃ F' Γ' ys,RS M0 F' Γ' ν H/\Stp F1 H1 F' H/\RA M0 F' H vs ys/\Γ'.length=n/\len ys<=i/\EPost M0 F' ν σ H XP P (qE k t cond it add (ds.drop i) ys Γ'),⟨ds.length,by simp,Nat.zero_le _,F1,Γ1,c0,rs1,.refl _ _,h0,hn,by rw[hl0]; exact Nat.le_refl _,hp⟩,?_⟩
 rintro i m vs H ⟨rfl,hil,F',Γ',ys,rs,st,rv,hln,hyl,hp⟩
 have hsz:=sizeLine_eq
 refine⟨by rw[AR.len rv]; omega,?_⟩
 by_cases hlt:i<ds.length
 ·rw[List.drop_eq_getElem_cons hlt,qE] at hp
  obtain⟨jgo,jst⟩:=hJ i F' H st rs1.al0
  obtain⟨go,yl⟩:=jgo ds[i] (by simp[hlt])
  refine .inr ⟨go,fun vs' H'=>∃ F'' Γ'' ys',RS M0 F'' Γ'' ν H'/\Stp F1 H1 F'' H'/\RA M0 F'' H' vs' ys'/\Γ''.length=n/\len ys'<=i+1/\EPost M0 F'' ν σ H' XP P (qE k t cond it add (ds.drop (i+1)) ys' Γ''),fun vs' H' h=>⟨ds.length-(i+1),by omega,rfl,hlt,h⟩,fun x H2 hy=>?_⟩
  obtain⟨s2,rx⟩:=yl x H2 hy
  have rs2:=(rs.same s2).ext k
  have hcl:(cS k ix σ).length=N'.length:=by unfold cS; simp[hN']
  have hsee:Sees (mpC mp n k ix) (ν++List.replicate k none) (cS k ix σ):=fun s j v e1 e2=>by
   by_cases hsk:s<k
   ·rw[kN hsk] at e1
    cases e1
    rw[List.getElem?_append_right (by omega),List.getElem?_replicate] at e2
    split at e2 <;> cases e2
   ·obtain⟨j',rfl⟩:∃ j',s=k+j':=⟨s-k,by omega⟩
    rw[Wv] at e1
    cases q:ix[j']? with
    | none=>rw[q] at e1; cases e1
    | some i0=>
     rw[q] at e1
     obtain⟨m,hm1,hm2⟩:=hm j' i0 q
     have:mp.getD i0 0=m:=by rw[List.getD_eq_getElem?_getD,hm1]; rfl
     have ej:m=j:=by
      have e3:some (mp.getD i0 0)=some j:=e1
      rw[this] at e3; exact Option.some.inj e3
     subst ej
     rw[List.getElem?_append_left (by omega)] at e2
     exact YS q (hs i0 m v hm1 e2)
  cases et:tgF t ds[i] (Γ'++List.replicate k none) with
  | none=>rw[et] at hp; exact hp.elim
  | some Γ2=>
   rw[et] at hp
   intro cl C s2' H2' fp
   refine hg cl C s2' H2' fp M0 F' _ Γ2 _ (cS k ix σ) H2 x ds[i] _ rs2 hsee hcl rx et fun F3 ν3 σ3 rs3 s3 hs3 hl3 n3 m3=>⟨?_,fun cl C s2' H2' fp=>?_⟩
   ·apply List.ext_getElem?
    intro j
    rw[List.getElem?_drop,List.getElem?_drop]
    by_cases hj:j<ix.length
    ·obtain⟨m,hm1,hm2⟩:=hm j ix[j] (by simp[hj])
     refine m3 (k+j) m ?_ hm2
     rw[Wv,List.getElem?_eq_getElem hj]
     show some (mp.getD ix[j] 0)=some m
     rw[List.getD_eq_getElem?_getD,hm1]; rfl
    ·have hl3':σ3.length=N'.length:=hl3
     rw[List.getElem?_eq_none (by omega),List.getElem?_eq_none (by omega)]
   ·have stA:Stp F1 H1 F3 H2:=(st.trans (.same s2)).trans s3
    have back:∀ {F4:Fp} {Γ4:Gv} {H4:Hp},RS M0 F4 Γ4 ν3 H4->RS M0 (Qs F4 n) (Γ4.take n) ν H4/\Stp F4 H4 (Qs F4 n) H4:=fun {F4 Γ4 H4} r4=>by
     obtain⟨r5,s5⟩:=r4.cut n
     have:ν3.take n=ν:=by
      apply List.ext_getElem?
      intro j
      by_cases hj:j<n
      ·rw[List.getElem?_take_of_lt hj,n3 j hj,List.getElem?_append_left (by omega)]
      ·rw[List.getElem?_eq_none (by rw[List.length_take]; omega),List.getElem?_eq_none (by omega)]
     rw[this] at r5
     exact⟨r5,s5⟩
    have lenOf:∀ {F4:Fp} {Γ4:Gv} {H4:Hp},RS M0 F4 Γ4 ν3 H4->(Γ4.take n).length=n:=fun {F4 Γ4 H4} r4=>by
     have h1:=r4.len
     have h2:=rs3.len
     have h3:Γ2.length=n+k:=by rw[JT _ _ _ _ et,List.length_append,List.length_replicate,hln]
     rw[List.length_take]; omega
    refine hc cl C s2' H2' fp M0 F3 Γ2 ν3 σ3 H2 _ rs3 hs3 ?_
    dsimp only at hp
    cases ec:cond Γ2 with
    | bad=>rw[ec] at hp; exact hp.elim
    | exc xx yy=>rw[ec] at hp; exact hp.elim
    | ok z=>
     obtain⟨bb,Γ3⟩:=z
     rw[ec] at hp
     intro F4 H4 rs4 s4
     have rvA:RA M0 F4 H4 vs ys:=AR.stp (AR.stp (AR.stp rv (.same s2) rs.al0) s3 (rs.same s2).al0) s4 rs3.al0
     cases bb with
     | false=>
      refine Wr ?_
      obtain⟨r5,s5⟩:=back rs4
      have stB:=(stA.trans s4).trans s5
      rw[hln] at hp
      exact⟨_,_,ys,r5,stB,AR.stp rvA s5 rs4.al0,lenOf rs4,by omega,hp.step ((((Stp.same s2).trans s3).trans s4).trans s5)⟩
     | true=>
      refine Ws (he M0 F4 Γ3 ν3 σ3 H4 _ rs4 hs3 ?_)
      dsimp only at hp
      cases ee:it Γ3 with
      | bad=>rw[ee] at hp; exact hp.elim
      | exc xx yy=>rw[ee] at hp; exact hp.elim
      | ok z=>
       obtain⟨u,Γ4⟩:=z
       rw[ee] at hp
       intro F5 H5 rs5 s5 v hv
       dsimp only at hp
       obtain⟨r6,s6⟩:=back rs5
       have stB:=((stA.trans s4).trans s5).trans s6
       rw[hln] at hp
       exact⟨_,_,add ys u,r6,stB,AR.add (AR.stp (AR.stp rvA s5 rs4.al0) s6 rs5.al0) (AR.bst hv s6 rs5.al0),lenOf rs5,by have:=AR.lin ys u; omega,hp.step (((((Stp.same s2).trans s3).trans s4).trans s5).trans s6)⟩
 ·have e:i=ds.length:=by omega
  subst e
  rw[List.drop_length,qE] at hp
  obtain⟨jgo,jst⟩:=hJ _ F' H st rs1.al0
  exact .inl ⟨jst (Nat.le_refl _),fin F' Γ' H ys vs rs rv (hp F' H rs (.refl _ _)) st⟩
theorem Jy {β γ:Type}{k:Nat}{t:IT}{cond:EM Bool}{it:EM β}{add:γ->β->γ}:∀ (ds:List PyData) (ys:γ) (Γ:Gv) (x:Exc) (Γ':Gv),qE k t cond it add ds ys Γ≠ .exc x Γ'
 | [],ys,Γ,x,Γ',h=>by cases h
 | d::ds,ys,Γ,x,Γ',h=>by
  rw[qE] at h
  split at h
  ·cases h
  ·split at h
   ·split at h
    ·exact Jy ds _ _ _ _ h
    ·cases h
   ·exact Jy ds _ _ _ _ h
   ·cases h
theorem K6 {H:Hp}{a b:Addr}{o u:HO}(h:a≠b):upd (upd H a o) b u=upd (upd H b u) a o:=by
 funext c
 unfold upd
 by_cases h1:c=b
 ·rw[if_pos h1,if_neg (fun z=>h (z.symm.trans h1)),if_pos h1]
 ·rw[if_neg h1]
  by_cases h2:c=a
  ·rw[if_pos h2,if_pos h2]
  ·rw[if_neg h2,if_neg h2,if_neg h1]
theorem zb9 {α β γ δ:Type}{ac:Acc α β}{ad:γ->δ->γ}{RA:(Addr->Prop)->Fp->Hp->α->γ->Prop}{RB:(Addr->Prop)->Fp->Hp->β->δ->Prop}{ln:γ->Nat}(AR:zai ac ad RA RB ln){N':List Str}{scope:Scope}{n k:Nat}{ix:List Nat}{t:IT}{cond:EM Bool}{it:EM δ}{te:St->Hp->(β->Hp->Prop)->Prop}{M0:Addr->Prop}{F1:Fp}{ν:Nu}{σ:St}{H1 Hf:Hp}{J:It}{ds:List PyData}{Γ1:Gv}{Q:VK}{c0:γ}
  (hm:∀ j i:Nat,ix[j]?=some i->∃ m,mp[i]?=some m/\m<n) (hN':N'.length=k+ix.length) (h0:∀ M0 F H,RA M0 F H ac.a0 c0) (hl0:ln c0=0)
  (hg:∀ cl C s2 H2 fp,SG (X.comp N' scope cl C s2 H2 fp) (mpC mp n k ix) (·<n) tg t) (hc:∀ cl C s2 H2 fp,SF (X.comp N' scope cl C s2 H2 fp) XP0 (mpC mp n k ix) ifs cond)
  (he:∀ (M0:Addr->Prop) (F:Fp) (Γ:Gv) (ν:Nu) (σ:St) (H:Hp) (Q:β->Hp->Prop),RS M0 F Γ ν H->Sees (mpC mp n k ix) ν σ->EPost M0 F ν σ H XP0 (fun F' Γ' H' d=>∀ y,RB M0 F' H' y d->Q y H') (it Γ)->te σ H Q)
  (rs1:RS M0 F1 Γ1 ν H1) (hs:Sees mp ν σ) (wk:Wk X F1 H1 Hf) (hJ:JI M0 F1 J ds Hf) (hd:ds.length<=1000000) (hn:Γ1.length=n)
  (hp:EPost M0 F1 ν σ H1 XP (fun F' Γ' H' ys=>∀ vs p,RA M0 F' H' vs ys->H' p=none->Q (.ref p) (upd H' p (ac.ho vs))) (qE k t cond it ad ds c0 Γ1)) :
  JZ ac k ix (gU X N' scope tg) (fU X N' scope ifs) te σ J Hf fun ys H2=>∀ p,H2 p=none->(Q (.ref p) (upd H2 p (ac.ho ys))∨∃ a kvs o,upd H2 p (ac.ho ys) a=some (.frz o (.dK kvs))/\(∀ ob u,X.H₀ a≠some (.frz ob u))/\Q (.ref p) (upd (upd H2 p (ac.ho ys)) a (.dK kvs))):=by
 have plain:Hf=H1->JZ ac k ix (gU X N' scope tg) (fU X N' scope ifs) te σ J Hf fun ys H2=>∀ p,H2 p=none->(Q (.ref p) (upd H2 p (ac.ho ys))∨∃ a kvs o,upd H2 p (ac.ho ys) a=some (.frz o (.dK kvs))/\(∀ ob u,X.H₀ a≠some (.frz ob u))/\Q (.ref p) (upd (upd H2 p (ac.ho ys)) a (.dK kvs))):=fun e=>by
  subst e
  exact jw AR hm hN' (h0 _ _ _) hl0 hg hc he rs1 hs hJ hd hn hp fun F' Γ' H' ys vs rs' rv hP st p hp'=>.inl (hP vs p rv hp')
 rcases wk with e | ⟨a,o,kvs,⟨ef,e | ⟨ea,e,hH⟩⟩,hna⟩
 ·exact plain e
 ·exact plain e
 ·subst e
  have hp2:EPost M0 F1 ν σ (upd H1 a (.frz o (.dK kvs))) XP (fun F' Γ' H' ys=>∀ vs p,RA M0 F' (upd H' a (.dK kvs)) vs ys->upd H' a (.dK kvs) p=none->Q (.ref p) (upd (upd H' a (.dK kvs)) p (ac.ho vs))) (qE k t cond it ad ds c0 Γ1):=by
   cases er:qE k t cond it ad ds c0 Γ1 with
   | bad=>rw[er] at hp; exact hp
   | exc x y=>exact absurd er (Jy _ _ _ _ _)
   | ok z=>
    rw[er] at hp
    intro F' H' rs' s'
    have ka:=(s'.keep a _ zj hna).1
    exact hp F' _ (rs'.eqv (vM ka) fun i b hb=>ze fun z=>(s'.keep a _ zj hna).2 i (by rw[<- z]; exact hb)) (KP ea s' hna)
  refine jw AR hm hN' (h0 _ _ _) hl0 hg hc he (rs1.eqv (zcX ⟨zj,.inr ⟨ea,rfl,hH⟩⟩) fun i b hb=>ze fun z=>hna i (by rw[<- z]; exact hb)) hs hJ hd hn hp2 fun F' Γ' H' ys vs rs' rv hP st p hp'=>.inr ⟨a,kvs,o,?_,hH,?_⟩
  ·have ka:=(st.keep a _ zj hna).1
   rw[ze (fun z=>by subst z; rw[ka] at hp'; cases hp')]; exact ka
  ·have ka:=(st.keep a _ zj hna).1
   have hpa:p≠a:=fun z=>by subst z; rw[ka] at hp'; cases hp'
   rw[K6 hpa]
   exact hP vs p (AR.eqv rv (vM ka)) (by rw[ze hpa]; exact hp')
theorem zet {α β γ δ:Type}{ac:Acc α β}{ad:γ->δ->γ}{RA:(Addr->Prop)->Fp->Hp->α->γ->Prop}{RB:(Addr->Prop)->Fp->Hp->β->δ->Prop}{ln:γ->Nat}(AR:zai ac ad RA RB ln){N':List Str}{scope:Scope}{n k:Nat}{ix:List Nat}{t:IT}{cond:EM Bool}{it:EM δ}{te:St->Hp->(β->Hp->Prop)->Prop}{M0:Addr->Prop}{F1:Fp}{ν:Nu}{σ:St}{H1 Hf:Hp}{J:It}{z:List PyData×Option Nat}{Γ1:Gv}{Q:VK}{c0:γ}
  (hm:∀ j i:Nat,ix[j]?=some i->∃ m,mp[i]?=some m/\m<n) (hN':N'.length=k+ix.length) (h0:∀ M0 F H,RA M0 F H ac.a0 c0) (hl0:ln c0=0)
  (hg:∀ cl C s2 H2 fp,SG (X.comp N' scope cl C s2 H2 fp) (mpC mp n k ix) (·<n) tg t) (hc:∀ cl C s2 H2 fp,SF (X.comp N' scope cl C s2 H2 fp) XP0 (mpC mp n k ix) ifs cond)
  (he:∀ (M0:Addr->Prop) (F:Fp) (Γ:Gv) (ν:Nu) (σ:St) (H:Hp) (Q:β->Hp->Prop),RS M0 F Γ ν H->Sees (mpC mp n k ix) ν σ->EPost M0 F ν σ H XP0 (fun F' Γ' H' d=>∀ y,RB M0 F' H' y d->Q y H') (it Γ)->te σ H Q)
  (rs1:RS M0 F1 Γ1 ν H1) (hs:Sees mp ν σ) (hJ:JIw X M0 F1 J z H1 Hf) (hd:z.1.length<=1000000) (hn:Γ1.length=n)
  (hp:EPost M0 F1 ν σ H1 XP (fun F' Γ' H' ys=>∀ vs p,RA M0 F' H' vs ys->H' p=none->Q (.ref p) (upd H' p (ac.ho vs))) (hid z.2 (qE k t cond it ad z.1 c0) Γ1)) :
  JZ ac k ix (gU X N' scope tg) (fU X N' scope ifs) te σ J Hf fun ys H2=>∀ p,H2 p=none->(Q (.ref p) (upd H2 p (ac.ho ys))∨∃ a kvs o,upd H2 p (ac.ho ys) a=some (.frz o (.dK kvs))/\(∀ ob u,X.H₀ a≠some (.frz ob u))/\Q (.ref p) (upd (upd H2 p (ac.ho ys)) a (.dK kvs))):=by
 obtain⟨ds,z⟩:=z
 cases z with
 | none=>exact zb9 AR hm hN' h0 hl0 hg hc he rs1 hs hJ.1 hJ.2 hd hn hp
 | some i=>
  obtain⟨rfl,hJ⟩:=hJ
  dsimp only [hid] at hp
  split at hp
  ·rename_i o eo
   refine zb9 AR hm hN' h0 hl0 hg hc he (rs1.hide (i:=i)) hs (.inl rfl) hJ hd (by rw[List.length_set]; exact hn) (Q:=Q) (XP:=XP) ?_
   generalize qE k t cond it ad ds c0 (Γ1.set i none)=r at hp
   cases r with
   | bad=>exact hp
   | exc _ _=>exact hp.elim
   | ok w=>
    obtain⟨ys,Γ2⟩:=w
    dsimp only at hp
    split at hp
    ·rename_i e2
     intro F' H' rs' s' vs p ra hp'
     obtain⟨rs3,s3⟩:=rs1.unhide eo rs' e2 s'
     exact hp _ H' rs3 s3 vs p (AR.mm (ZA (rs'.emp i fun o z=>by rw[e2] at z; cases z)) ra) hp'
    ·exact hp.elim
  ·exact hp.elim
noncomputable def SD (X:Cx) (XP:XPT) (mp:List Nat) (e:Expr) (f:EM (List (Str×PyData))):Prop:=∀ (M0:Addr->Prop) (F:Fp) (Γ:Gv) (ν:Nu) (σ:St) (H:Hp) (Q:VK),RS M0 F Γ ν H->Sees mp ν σ ->
 EPost M0 F ν σ H XP (fun F' Γ' H' ds=>∀ ks p,KR (MM M0 F') H' ks ds->H' p=none->Q (.ref p) (upd H' p (.dK (ks.map kK)))) (f Γ)->wpE X e σ H Q
noncomputable def SDt (XP:XPT) (mp:List Nat) (t:TE) (f:EM (List (Str×PyData))):Prop:=∀ (M0:Addr->Prop) (F:Fp) (Γ:Gv) (ν:Nu) (σ:St) (H:Hp) (Q:VK),RS M0 F Γ ν H->Sees mp ν σ ->
 EPost M0 F ν σ H XP (fun F' Γ' H' ds=>∀ ks p,KR (MM M0 F') H' ks ds->H' p=none->Q (.ref p) (upd H' p (.dK (ks.map kK)))) (f Γ)->t σ H Q
theorem KR.stp {M0:Addr->Prop}{F F':Fp}{H H':Hp}{ks:List (Str×V)}{ds:List (Str×PyData)}(h:KR (MM M0 F) H ks ds) (s:Stp F H F' H') (h0:∀ a,M0 a->H a≠none):KR (MM M0 F') H' ks ds:=h.map fun _ _ x=>zm s h0 x
noncomputable def itD (ek ev:EM FV):EM (Str×PyData):=fun Γ=>(ek Γ).bind fun (u,Γ1)=>match derf Γ1 u with
 | some (.str x)=>(ev Γ1).bind fun (w,Γ2)=>match derS Γ2 w with
  | some y=>.ok ((x,y),Γ2)
  | none=>.bad
 | _=>.bad
theorem wa:zai zao (fun (ys:List (Str×PyData)) (y:Str×PyData)=>J3 ys y.1 y.2) (fun M0 F H kvs ys=>∃ ks,kvs=ks.map kK/\KR (MM M0 F) H ks ys) (fun M0 F H (u:Key×V) (y:Str×PyData)=>u.1=.inr y.1/\Rep (MM M0 F) H u.2 y.2) List.length where
 stp:=fun ⟨ks,e,r⟩ s h0=>⟨ks,e,KR.stp r s h0⟩
 add:=fun {M0 F H x y u d} ⟨ks,e,r⟩ ⟨q1,q2⟩=>⟨J3 ks d.1 u.2,by rw[e,<- zbd,<- q1],r.put d.1 q2⟩
 bst:=fun ⟨q1,q2⟩ s h0=>⟨q1,zm s h0 q2⟩
 len:=fun ⟨ks,e,r⟩=>by rw[e]; show (ks.map kK).length=_; rw[List.length_map,r.length]
 lin y d:=vo y d.1 d.2
 eqv:=fun ⟨ks,e,r⟩ h=>⟨ks,e,r.map fun _ _ x=>Rep.eqv h x⟩
 mm:=fun e ⟨ks,e',r⟩=>⟨ks,e',by rw[<- e]; exact r⟩
noncomputable def eD (X:Cx) (N':List Str) (scope:Scope) (kx vx:Expr):St->Hp->(Key×V->Hp->Prop)->Prop:=vL (eU X N' scope kx) (eU X N' scope vx)
noncomputable def Wj (n k:Nat) (t:IT) (src:EM (List PyData×Option Nat)) (cond:EM Bool) (ek ev:EM FV):EM (List (Str×PyData)):=fun Γ=>(src Γ).bind fun (z,Γ1)=>if z.1.length<=1000000/\Γ1.length=n then hid z.2 (qE k t cond (itD ek ev) (fun ys y=>J3 ys y.1 y.2) z.1 []) Γ1 else .bad
theorem Ye {kx vx:Expr}{N':List Str}{scope:Scope}{k:Nat}{ix:List Nat}(hcalm:X.calm=true) (S:CSc X.env.scope X.N scope N' k ix) (hf:∀ x,foldedSetIterable iter X.env x=pure x) :
  PE X (.DictComp kx vx [⟨tg,iter,ifs,0⟩] scope pos) (QK k ix (wpI X tg iter) (gU X N' scope tg) (fU X N' scope ifs) (eD X N' scope kx vx)) :=
 kY hcalm S ZE (fun cl C s2 H2 fp pins s σ H v u Q I r h=>h cl C s2 H2 fp pins s u I r) (fun cl C s2 H2 fp pins s σ H Q I h=>h cl C s2 H2 fp pins s I)
  (fun cl C s2 H2 fp pins s σ H Q I h=>h cl C s2 H2 fp pins s I) (fun cl C s2 H2 fp pins s σ H Q I h=>h cl C s2 H2 fp pins s I) hf
theorem zcb {N':List Str}{scope:Scope}{mp':List Nat}{kx vx:Expr}{ek ev:EM FV}(hk:∀ cl C s2 H2 fp,SE (X.comp N' scope cl C s2 H2 fp) XP0 mp' kx ek) (hv:∀ cl C s2 H2 fp,SE (X.comp N' scope cl C s2 H2 fp) XP0 mp' vx ev){M0:Addr->Prop}{F:Fp}{Γ:Gv}{ν:Nu}{σ:St}{H:Hp}{Q:Key×V->Hp->Prop}(rs:RS M0 F Γ ν H) (hs:Sees mp' ν σ)
  (hp:EPost M0 F ν σ H XP0 (fun F' Γ' H' d=>∀ y:Key×V,(y.1=.inr d.1/\Rep (MM M0 F') H' y.2 d.2)->Q y H') (itD ek ev Γ)):eD X N' scope kx vx σ H Q:=fun cl C s2 H2 fp=>
 (hk cl C s2 H2 fp).run rs hs hp fun F1 Γ1 H1 u v rs1 s1 o1 h1=>by
  dsimp only at h1
  split at h1
  ·rename_i x ex
   cases o1.weak rs1 ex
   intro cl C s2 H2 fp
   refine (hv cl C s2 H2 fp).run rs1 hs h1 fun F2 Γ2 H2 w v2 rs2 s2 o2 h2=>?_
   dsimp only at h2
   split at h2
   ·rename_i y ey
    exact⟨.inr x,rfl,h2 F2 H2 rs2 (.refl _ _) (.inr x,v2) ⟨rfl,o2.strong rs2 ey⟩⟩
   ·exact h2.elim
  ·exact h1.elim
theorem zbj {kx vx:Expr}{N':List Str}{scope:Scope}{n k:Nat}{ix:List Nat}{t:IT}{src:EM (List PyData×Option Nat)}{cond:EM Bool}{ek ev:EM FV}(hcalm:X.calm=true) (S:CSc X.env.scope X.N scope N' k ix) (hm:∀ j i:Nat,ix[j]?=some i->∃ m,mp[i]?=some m/\m<n)
  (hi:SIw X XP mp tg iter src) (hg:∀ cl C s2 H2 fp,SG (X.comp N' scope cl C s2 H2 fp) (mpC mp n k ix) (·<n) tg t) (hc:∀ cl C s2 H2 fp,SF (X.comp N' scope cl C s2 H2 fp) XP0 (mpC mp n k ix) ifs cond) (hk:∀ cl C s2 H2 fp,SE (X.comp N' scope cl C s2 H2 fp) XP0 (mpC mp n k ix) kx ek) (hv:∀ cl C s2 H2 fp,SE (X.comp N' scope cl C s2 H2 fp) XP0 (mpC mp n k ix) vx ev)
  (hf:∀ x,foldedSetIterable iter X.env x=pure x):SD X XP mp (.DictComp kx vx [⟨tg,iter,ifs,0⟩] scope pos) (Wj n k t src cond ek ev):=fun M0 F Γ ν σ H Q rs hs hp=>
 zaf ((Ye hcalm S hf).wp (hi M0 F Γ ν σ H _ rs hs (hp.seq.mono fun F1 Γ1 H1 z rs1 s1 h1 J Hf hJ=>by
  dsimp only at h1
  split at h1
  ·rename_i hh
   exact zet wa hm S.len (fun _ _ _=>⟨[],rfl,.nil⟩) rfl hg hc (fun M0 F Γ ν σ H Q rs hs hp=>zcb hk hv rs hs hp) rs1 hs hJ hh.1 hh.2 (h1.mono fun F' Γ' H' ys rs' s' hP vs p ⟨ks,e,r⟩ hp'=>by rw[e]; exact hP ks p r hp')
  ·exact h1.elim)))
theorem Ks {kx vx:Expr}{N':List Str}{scope:Scope}{n k:Nat}{ix:List Nat}{t:IT}{src:EM (List PyData)}{cond:EM Bool}{ek ev:EM FV}(S:CSc X.env.scope X.N scope N' k ix) (hm:∀ j i:Nat,ix[j]?=some i->∃ m,mp[i]?=some m/\m<n)
  (hi:SI X XP mp tg iter src) (hg:∀ cl C s2 H2 fp,SG (X.comp N' scope cl C s2 H2 fp) (mpC mp n k ix) (·<n) tg t) (hc:∀ cl C s2 H2 fp,SF (X.comp N' scope cl C s2 H2 fp) XP0 (mpC mp n k ix) ifs cond) (hk:∀ cl C s2 H2 fp,SE (X.comp N' scope cl C s2 H2 fp) XP0 (mpC mp n k ix) kx ek) (hv:∀ cl C s2 H2 fp,SE (X.comp N' scope cl C s2 H2 fp) XP0 (mpC mp n k ix) vx ev) :
  SDt XP mp (QK k ix (wpI X tg iter) (gU X N' scope tg) (fU X N' scope ifs) (eD X N' scope kx vx)) (Wj n k t (zaM src) cond ek ev):=fun M0 F Γ ν σ H Q rs hs hp=>by
 unfold Wj zaM at hp
 rw[R.bind_assoc] at hp
 refine hi M0 F Γ ν σ H _ rs hs (hp.seq.mono fun F1 Γ1 H1 ds rs1 s1 h1 J hJ=>?_)
 simp only[R.bind,hid] at h1
 split at h1
 ·rename_i hh
  exact jw wa hm S.len ⟨[],rfl,.nil⟩ rfl hg hc (fun M0 F Γ ν σ H Q rs hs hp=>zcb hk hv rs hs hp) rs1 hs hJ hh.1 hh.2 h1 fun F' Γ' H' ys vs rs' ⟨ks,e,r⟩ hP _ p hp'=>by
   rw[e]; exact hP ks p r hp'
 ·exact h1.elim
theorem Ki {kx vx:Expr}{N':List Str}{scope:Scope}{k:Nat}{ix:List Nat}{i:Nat}{x:Str}{pos' spos:Pos}(hN:X.N.Nodup) (hi':X.N[i]?=some x) (hx:Loc X.env.scope x) (hcalm:X.calm=true) (S:CSc X.env.scope X.N scope N' k ix)
  (hsw:swapsWith (.DictComp kx vx [⟨tg,iter,ifs,0⟩] scope pos) (some (.Name x pos')) spos.line X.env=pure true) (hs:∀ x,foldedSetIterable iter X.env x=pure x) (hf:X.fn x=true∨X.env.scope.names.lookup x=some .local) :
  PS X (.Assign [.Name x pos'] (.DictComp kx vx [⟨tg,iter,ifs,0⟩] scope pos) spos) (WG (QK k ix (wpI X tg iter) (gU X N' scope tg) (fU X N' scope ifs) (eD X N' scope kx vx)) (Js i)) :=
 Kh hN hi' hx hcalm S ZE (fun cl C s2 H2 fp pins s σ H v u Q I r h=>h cl C s2 H2 fp pins s u I r) (fun cl C s2 H2 fp pins s σ H Q I h=>h cl C s2 H2 fp pins s I)
  (fun cl C s2 H2 fp pins s σ H Q I h=>h cl C s2 H2 fp pins s I) (fun cl C s2 H2 fp pins s σ H Q I h=>h cl C s2 H2 fp pins s I) hsw hs hf
end
end L3
namespace L2
open PySem PySem.Spec PyProof.Rows
variable [Cs]
noncomputable def zd5 (tk tv:TE):TE:=fun σ H Q=>tk σ H fun x H1=>tv σ H1 fun y H2=>∃ k:Key,x=kV k/\∀ p,H2 p=none->Q (.ref p) (upd H2 p (.dK [(k,y)]))
theorem k4 {X:Cx}{pos:Pos}{k v:Expr}{tk tv:TE}(hk:PE X k tk) (hv:PE X v tv):PE X (.Dict [some k] [v] pos) (zd5 tk tv):=by
 intro pins s σ H Q I q
 have hn:=I.hok.fresh (Nat.le_refl s.heap.objs.size)
 have e0:(s.heap.push { cls:=.type "dict",data:=.dict #[] }).get? s.heap.objs.size=some { cls:=.type "dict",data:=.dict #[] }:=Heap.get?_push_size _ rfl
 have I0:Inv X pins σ H { s with heap:=s.heap.push { cls:=.type "dict",data:=.dict #[] } }:=I.kept (t':=s.toks) fun b o e=>Heap.get?_push_of_some _ e
 have I1:=I0.pinned (fp:= [s.heap.objs.size]) (fun b hb=>by
  have e:b=s.heap.objs.size:=by simpa using hb
  subst e
  exact I.fpOk (Nat.le_refl _) hn) (fun b hb=>by
  have e:b=s.heap.objs.size:=by simpa using hb
  subst e
  exact⟨_,e0,fun v z=>by cases z⟩)
 refine wpAny_Dict_walk (knd:=qq X.prog X.w) rfl rfl (by simp) (by simp) (pairTrees_cons_walk (thn (hk _ _ σ _ _ I1 q) fun kv s2 ⟨x,H1,I2,rx,q1⟩=>thn (hv _ _ σ _ _ I2 q1) fun vv s3 ⟨y,H2,I3,ry,kk,ek,q2⟩=>pairTrees_nil_walk ?_))
 have hm:=qF (fp:= [s.heap.objs.size]) (by simp) e0
 obtain⟨p1,p2,_⟩:=I3.pin _ (List.mem_append_right _ (List.mem_append_right _ hm))
 have I4:Inv X pins σ H2 s3:=I3.unpinned
 subst ek
 refine⟨[(kk,vv)],⟨zci rx,rfl,True.intro⟩,⟨_,#[],0,p1,⟨rfl,rfl,rfl⟩,rfl,fun _ he=>by simp at he,Pairs.nil,List.nodup_nil⟩,fun h' dd hs=>⟨.ref s.heap.objs.size,_,?_,rfl,q2 _ p2⟩⟩
 have em:merged [] [(kk,vv)]= [(kk,vv)]:=rfl
 rw[em] at dd
 have I5:Inv X pins σ H2 { s3 with heap:=h',toks:=s3.toks+ [(kv,vv)].length }:=I4.turned (it:=s.heap.objs.size) (fun b o hb e=>(hs.2 b hb).trans e) p2 (Ne.symm (Nat.ne_of_lt I.lt)) (.inr I.sz)
  (fun x c e=>by
   obtain⟨v,ob,hob,_⟩:=I.cell x c e
   exact Nat.ne_of_lt (Heap.lt_size hob)) (fun p hp=>Nat.ne_of_lt (Heap.lt_size (I.pin p hp).1))
 exact I5.track I.sz p2 (Ne.symm (Nat.ne_of_lt I.lt)) (fun x c e=>by
   obtain⟨v,ob,hob,_⟩:=I.cell x c e
   exact Nat.ne_of_lt (Heap.lt_size hob)) (fun p hp=>Nat.ne_of_lt (Heap.lt_size (I.pin p hp).1)) (zcT (by show 1<=sizeLine; decide) (beq_eq_false_iff_ne.mpr (Ne.symm (Nat.ne_of_lt I.big))) (.cons ⟨rfl,ry⟩ .nil) dd)
end L2
namespace L3
open PySem PySem.Spec PyProof.Rows L2
noncomputable def ixF:List Str->Str->Option Nat
 | [],_=>none
 | n::ns,f=>if n=f then some 0 else (ixF ns f).map (·+1)
variable [Cs]
theorem ORL.at' {M:Addr->Prop}{H:Hp}:∀ {vs:List V}{xs:List OV}{A:List Addr}{j:Nat}{x:OV},ORL M H vs xs A->xs[j]?=some x->∃ v A1 B A2,vs[j]?=some v/\OR M H v x B/\A=A1++(B++A2) /\
  ∀ (M':Addr->Prop) (H':Hp) (v':V) (x':OV) (B':List Addr),(∀ w d,Rep M H w d->Rep M' H' w d)->(∀ c xs,H c=some (.tup xs)->H' c=some (.tup xs))->(∀ b∈A1++A2,H' b=H b)->OR M' H' v' x' B'->ORL M' H' (vs.set j v') (xs.set j x') (A1++(B'++A2))
 | _,_,_,_,_,.nil,e=>by simp at e
 | _,_,_,0,x,.cons (A:=A) (B:=B) r t,e=>by
  simp at e
  subst e
  exact⟨_,[],A,B,rfl,r,rfl,fun M' H' v' x' B' hr ht hk q=>ORL.cons (A:=B') (B:=B) q (t.go hr ht fun b hb=>hk b (by simpa using hb))⟩
 | _,_,_,j+1,x,.cons (A:=A) (B:=B) r t,e=>by
  obtain⟨v,A1,C,A2,h1,h2,h3,h4⟩:=ORL.at' (j:=j) t (by simpa using e)
  refine⟨v,A++A1,C,A2,by simpa using h1,h2,by rw[h3]; simp,fun M' H' v' x' B' hr ht hk q=>?_⟩
  have:=ORL.cons (r.go hr ht fun b hb=>hk b (by simp[hb])) (h4 M' H' v' x' B' hr ht (fun b hb=>hk b (by simp at hb |-; rcases hb with h | h <;> simp[h])) q)
  simpa using this
section
variable {M0:Addr->Prop} {F F':Fp} {Γ Γ':Gv} {ν ν':Nu} {H H':Hp} {c:Str} {ns:List Str} {xs:List OV}
theorem zc9 {i:Nat}{v:V}(h:ν[i]?=some (some v)):ν.set i (some v)=ν:=by
 apply List.ext_getElem?
 intro k
 by_cases hk:i=k
 ·subst hk; rw[List.getElem?_set_self (List.getElem?_eq_some_iff.mp h).1,h]
 ·rw[List.getElem?_set_ne hk]
theorem RS.wrO {i:Nat}{b:Addr}{u:HO}{o:OV}{v:V}{A:List Addr}(r:RS M0 F Γ ν H) (hi:i<Γ.length) (hv:ν[i]?=some (some v)) (hb:b∈F i) (hu:∀ xs,H b≠some (.tup xs)) (hsub:∀ a∈A,a∈F i) (hnd:A.Nodup)
  (q:(∀ w d,Rep (MM M0 F) H w d->Rep (MM M0 (zC F i A)) (upd H b u) w d)->(∀ c xs,H c=some (.tup xs)->upd H b u c=some (.tup xs))->OR (MM M0 (zC F i A)) (upd H b u) v o A) :
  ∃ F',RS M0 F' (Γ.set i (some o)) ν (upd H b u)/\Stp F H F' (upd H b u):=by
 have ht:∀ c xs,H c=some (.tup xs)->upd H b u c=some (.tup xs):=fun c xs e=>by
  rw[ze (fun z=>by subst z; exact hu xs e)]; exact e
 have s:Stp F H (zC F i A) (upd H b u):=⟨fun c o ec nc=>⟨by
   rw[ze (fun z=>by subst z; exact nc i hb)]; exact ec,fun k h=>by
   by_cases hk:k=i
   ·subst hk; rw[zd] at h; exact nc _ (hsub _ h)
   ·rw[zh hk] at h; exact nc _ h⟩,ht,fun c h=>by
   by_cases z:c=b
   ·subst z; rw[zj]; exact fun z=>nomatch z
   ·rw[ze z]; exact h⟩
 have r1:=r.put (i:=i) (o:=o) (v:=v) (A:=A) (H':=upd H b u) s (fun k hk c hc=>ze fun z=>by subst z; exact hk (r.dis _ _ _ hc hb))
  (fun c h=>s.stay c (r.al0 c h)) (fun a ha=>r.dis0 i a (hsub a ha)) hnd (fun k hk c hc h=>hk (r.dis _ _ c h (hsub c hc))) hi (q (fun w d x=>zm s r.al0 x) ht)
 rw[zc9 hv] at r1
 exact⟨_,r1,s⟩
end
structure FldK (X:Cx) (c f:Str):Prop where
 cl:Cls X.K (Cs.adr c)
 no:Za X.K (Cs.adr c) f
section
variable {X:Cx} {XP:XPT} {mp io:List Nat} {a b e:Expr} {es:List Expr} {pos p p2 pos' p3:Pos} {fa fb fc:EM FV} {fo:EM OV} {kx:Nat} {c f x:Str} {s i:Nat} {M0:Addr->Prop} {F:Fp} {Γ:Gv} {ν:Nu} {σ:St} {H:Hp}
structure FldAt (M0:Addr->Prop) (F:Fp) (Γ:Gv) (ν:Nu) (H:Hp) (i:Nat) (c f:Str) (o:OV) (v:V):Prop where
 ex:∃ a dx fs ns xs j A1 B A2,Γ[i]?=some (some (.o c ns xs))/\ν[i]?=some (some (.ref a))/\H a=some (.ins (Cs.adr c) dx fs)/\fs.map (·.1)=ns/\ixF ns f=some j/\xs[j]?=some o/\fs[j]?=some (f,v)/\OR (MM M0 F) H v o B/\F i=a::(A1++(B++A2)) /\
  ∀ (M':Addr->Prop) (H':Hp) (v':V) (x':OV) (B':List Addr),(∀ w d,Rep (MM M0 F) H w d->Rep M' H' w d)->(∀ c xs,H c=some (.tup xs)->H' c=some (.tup xs))->(∀ b∈A1++A2,H' b=H b)->OR M' H' v' x' B'->ORL M' H' ((fs.set j (f,v')).map (·.2)) (xs.set j x') (A1++(B'++A2))
noncomputable def zdK (c:Str) (ns:List Str) (xs:List OV) (f:Str) (o:OV):OV:=match ixF ns f with
 | some j=>.o c ns (xs.set j o)
 | none=>.o c (ns++ [f]) (xs++ [o])
end
end L3
namespace L3
open PySem PySem.Spec PyProof.Rows L2
noncomputable def zbW (Γ:Gv) (i:Nat) (f:Str) (o:OV):Gv:=match Γ[i]? with
 | some (some (.o c ns xs))=>Γ.set i (some (zdK c ns xs f o))
 | _=>Γ
variable [Cs]
section
variable {X:Cx} {XP:XPT} {mp io:List Nat} {a b e:Expr} {es:List Expr} {pos p p2 pos' p3:Pos} {fa fb fc:EM FV} {fo:EM OV} {kx:Nat} {c f x:Str} {s i:Nat} {M0:Addr->Prop} {F:Fp} {Γ:Gv} {ν:Nu} {σ:St} {H H':Hp}
theorem FldAt.same {o o':OV}{v v':V}(h:FldAt M0 F Γ ν H i c f o v) (h':FldAt M0 F Γ ν H' i c f o' v') (s:Same H H'):v=v':=by
 obtain⟨a,dx,fs,ns,xs,j,_,_,_,e1,e2,e3,_,e5,_,e7,_⟩:=h.ex
 obtain⟨a',dx',fs',ns',xs',j',_,_,_,e1',e2',e3',_,e5',_,e7',_⟩:=h'.ex
 rw[e1] at e1'; cases e1'
 rw[e2] at e2'; cases e2'
 rw[s _ _ e3] at e3'; cases e3'
 rw[e5] at e5'; cases e5'
 rw[e7] at e7'; cases e7'
 rfl
theorem FldAt.mut {o o':OV}{b:Addr}{u:HO}{Bs:List Addr}(h:FldAt M0 F Γ ν H i c f o (.ref b)) (rs:RS M0 F Γ ν H) (hB:∀ B,OR (MM M0 F) H (.ref b) o B->B=b::Bs) (hu:∀ xs,H b≠some (.tup xs)) (hui:∀ C dx fs,H b≠some (.ins C dx fs))
  (q:∀ (M':Addr->Prop) (H':Hp),H' b=some u->(∀ w d,Rep (MM M0 F) H w d->Rep M' H' w d)->(∀ b'∈Bs,b'≠b->H' b'=H b')->(∀ c xs,H c=some (.tup xs)->H' c=some (.tup xs))->OR M' H' (.ref b) o' (b::Bs)) :
  ∃ F',RS M0 F' (zbW Γ i f o') ν (upd H b u)/\Stp F H F' (upd H b u):=by
 obtain⟨a,dx,fs,ns,xs,j,A1,B,A2,e1,e2,e3,e4,e5,e6,e7,e8,e9,e10⟩:=h.ex
 have eB:=hB B e8
 subst eB
 have hi:i<Γ.length:=(List.getElem?_eq_some_iff.mp e1).1
 have hba:b≠a:=fun z=>by subst z; exact hui _ _ _ e3
 have hbF:b∈F i:=by rw[e9]; simp
 have hnd:=rs.nd i
 have hset:zbW Γ i f o'=Γ.set i (some (.o c ns (xs.set j o'))):=by
  unfold zbW
  rw[e1]
  show Γ.set i (some (zdK c ns xs f o'))=_
  unfold zdK
  rw[e5]
 rw[hset]
 have hfs:fs.set j (f,.ref b)=fs:=by
  apply List.ext_getElem?
  intro k
  by_cases hk:j=k
  ·subst hk; rw[List.getElem?_set_self (List.getElem?_eq_some_iff.mp e7).1,e7]
  ·rw[List.getElem?_set_ne hk]
 refine rs.wrO (A:=F i) hi e2 hbF hu (fun _ h=>h) hnd fun hr ht=>?_
 rw[e9] at hnd
 have hndc:=List.nodup_cons.mp hnd
 have n1:=List.nodup_append.mp hndc.2
 have n2:=List.nodup_append.mp n1.2.1
 have hnot:∀ b',b'∈A1++A2->b'≠b:=fun b' hb' z=>by
  subst z
  rcases List.mem_append.mp hb' with h | h
  ·exact n1.2.2 _ h _ (by simp) rfl
  ·exact n2.2.2 _ List.mem_cons_self _ h rfl
 have:=e10 (MM M0 (zC F i (F i))) (upd H b u) (.ref b) o' (b::Bs) hr ht (fun b' hb'=>ze (hnot b' hb')) (q _ _ zj hr (fun b' _ hne=>ze hne) ht)
 rw[hfs] at this
 have e9':=e9
 generalize MM M0 (zC F i (F i))=MX at this |-
 rw[e9]
 exact .o (by rw[ze (Ne.symm hba)]; exact e3) e4 this
theorem FldAt.lst {ys:List OV}{ds:List PyData}{v:V}(h:FldAt M0 F Γ ν H i c f (.l ys) v) (rs:RS M0 F Γ ν H) (hl:leaves ys=some ds):∃ b us,v=.ref b/\H b=some (.lst us)/\RepL (MM M0 F) H us ds /\
  ∀ us' ds',RepL (MM M0 F) H us' ds'->∃ F',RS M0 F' (zbW Γ i f (.l (ds'.map .d))) ν (upd H b (.lst us'))/\Stp F H F' (upd H b (.lst us')):=by
 obtain⟨a,dx,fs,ns,xs,j,A1,B,A2,e1,e2,e3,e4,e5,e6,e7,e8,e9,e10⟩:=id h.ex
 cases e8 with
 | @l b us _ A' eb qb=>
  obtain⟨q1,q2⟩:=qb.leaf hl
  subst q2
  refine⟨b,us,rfl,eb,q1,fun us' ds' r'=>h.mut (Bs:= []) rs (fun B q=>?_) (fun xs z=>by rw[eb] at z; cases z) (fun C dx fs z=>by rw[eb] at z; cases z) fun M' H' hb hr _ _=>.l hb (ORL.data (ZH hr r'))⟩
  cases q with
  | @l _ us2 _ A2 eb2 qb2=>
   rw[(qb2.leaf hl).2]
end
end L3
namespace L3
open PySem PySem.Spec PyProof.Rows L2
noncomputable def zeu (Γ:Gv):FV->Option (List (Str×PyData))
 | .dat (.dict kv)=>unD kv
 | .own i=>match Γ[i]? with
  | some (some (.m ds))=>some ds
  | some (some (.d (.dict kv)))=>unD kv
  | _=>none
 | _=>none
variable [Cs]
theorem Rep.tab {M:Addr->Prop}{H:Hp}{v:V}{kv:List (PyData×PyData)}{ds:List (Str×PyData)}(r:Rep M H v (.dict kv)) (e:unD kv=some ds):∃ a ks,v=.ref a/\¬ M a/\Rd H a (.dK (ks.map kK))/\KR M H ks ds:=by
 obtain⟨a,rfl,n,h | h⟩:=r.dict_inv
 ·obtain⟨ks,ds',h1,rfl,h2⟩:=h
  rw[zbR] at e; cases e
  exact⟨a,ks,rfl,n,h1,h2⟩
 ·obtain⟨_,_,_,_,_,rfl,_⟩:=h
  cases e
theorem RepL.strs {M:Addr->Prop}{H:Hp}:∀ (ss:List Str),RepL M H (ss.map V.str) (ss.map .str)
 | []=>.nil
 | x::r=>.cons (.str x) (RepL.strs r)
section
variable {X:Cx} {XP:XPT} {mp io:List Nat} {a b c e tg iter elt:Expr} {es ifs:List Expr} {pos p p2 pos' p3:Pos} {fa fb fc:EM FV} {fo:EM OV} {na:EM (List PyData)} {ma:EM (List (Str×PyData))} {kx:Nat} {cl f x:Str} {s i:Nat} {M0:Addr->Prop} {F:Fp} {Γ:Gv} {ν:Nu} {σ:St} {H H':Hp} {u:FV} {v:V}
theorem FOk.dict {ds:List (Str×PyData)}(h:FOk M0 F ν H v u) (rs:RS M0 F Γ ν H) (e:zeu Γ u=some ds):∃ a ks,v=.ref a/\Rd H a (.dK (ks.map kK))/\KR (MM M0 F) H ks ds:=by
 cases u with
 | dat y=>
  cases y <;> try (cases e; done)
  rename_i kv
  obtain⟨a,ks,h1,_,h2,h3⟩:=Rep.tab (show Rep (MM M0 F) H v _ from h) e
  exact⟨a,ks,h1,h2,h3⟩
 | own i=>
  have hv:ν[i]?=some (some v):=h
  dsimp only [zeu] at e
  split at e
  ·rename_i ds' q
   cases e
   obtain⟨w,e1,r⟩:=rs.at' i _ q
   rw[hv] at e1; cases e1
   generalize F i=A at r
   cases r with
   | m ea k r=>exact⟨_,_,rfl,.inl ea,.of k r⟩
  ·rename_i kv q
   obtain⟨w,e1,r⟩:=rs.at' i _ q
   rw[hv] at e1; cases e1
   generalize F i=A at r
   cases r with
   | d r=>
    obtain⟨a,ks,h1,_,h2,h3⟩:=Rep.tab r e
    exact⟨a,ks,h1,h2,h3⟩
  ·cases e
theorem RS.newM {p:Addr}{ks:List (Str×V)}{ds:List (Str×PyData)}(r:RS M0 F Γ ν H) (n:H p=none) (q:KR (MM M0 F) H ks ds) :
  RS M0 (zC F Γ.length [p]) (Γ++ [some (.m ds)]) (ν++ [some (.ref p)]) (upd H p (.dK (ks.map kK)))/\Stp F H (zC F Γ.length [p]) (upd H p (.dK (ks.map kK))):=by
 have hp:∀ i,p∉F i:=fun i h=>by
  obtain⟨vs,e⟩:=r.laidF h
  rw[n] at e; cases e
 have s:Stp F H (zC F Γ.length [p]) (upd H p (.dK (ks.map kK))):=⟨fun b o e nb=>⟨zw n b o e,fun j h=>by
  by_cases hj:j=Γ.length
  ·subst hj; rw[zd] at h
   have e':b=p:=by simpa using h
   subst e'; rw[n] at e; cases e
  ·rw[zh hj] at h; exact nb j h⟩,fun b xs e=>zw n b _ e,fun b h=>by
   by_cases e:b=p
   ·subst e; exact absurd n h
   ·rw[ze e]; exact h⟩
 have q':=KR.stp q s r.al0
 have r1:=(r.ext 1).put (i:=Γ.length) (o:=.m ds) (v:=.ref p) (A:= [p]) (H':=upd H p (.dK (ks.map kK))) s (fun j _ a ha=>ze (fun e=>hp j (by rw[<- e]; exact ha)))
  (fun a h=>s.stay a (r.al0 a h)) (fun a ha h=>by
   have e:a=p:=by simpa using ha
   subst e; exact r.al0 a h n) (List.nodup_cons.mpr ⟨(fun z=>nomatch z),.nil⟩) (fun j _ a ha=>by
   have e:a=p:=by simpa using ha
   subst e; exact hp j) (by simp) (.m zj q'.keys q'.vals)
 rw[ZI] at r1
 have e2:(ν++List.replicate 1 none).set Γ.length (some (V.ref p))=ν++ [some (V.ref p)]:=by rw[<- r.len,ZI]
 rw[e2] at r1
 exact⟨r1,s⟩
noncomputable def vd (n:EM (List (Str×PyData))):EM OV:=fun Γ=>(n Γ).bind fun (ds,Γ1)=>.ok (.m ds,Γ1)
theorem SD.so (h:SD X XP mp a ma):SO X XP mp a (vd ma):=fun M0 F Γ ν σ H Q rs hs hp=>
 h M0 F Γ ν σ H Q rs hs (hp.seq.mono fun F1 Γ1 H1 ds rs1 s1 h1 ks p r n=>by
  obtain⟨r2,s2⟩:=rs1.newM n r
  exact h1 _ _ _ r2 s2)
noncomputable def vc (n:EM (List (Str×PyData))):EM FV:=fOD (vd n)
theorem SD.se (h:SD X XP mp a ma):SE X XP mp a (vc ma):=h.so.se
theorem SDt.so {t:TE}(h:SDt XP mp t ma):SOt XP mp t (vd ma):=fun M0 F Γ ν σ H Q rs hs hp=>
 h M0 F Γ ν σ H Q rs hs (hp.seq.mono fun F1 Γ1 H1 ds rs1 s1 h1 ks p r n=>by
  obtain⟨r2,s2⟩:=rs1.newM n r
  exact h1 _ _ _ r2 s2)
theorem SDt.sd {t:TE}(h:SDt XP mp t ma):SOt XP mp t (fD (vc ma)):=fun M0 F Γ ν σ H Q rs hs hp=>
 h M0 F Γ ν σ H Q rs hs (by
  have hp':OPost M0 F ν σ H XP (fun F' Γ' H' o v=>Q v H') ((ma Γ).bind fun (ds,Γ1)=>.ok (.d (.dict (ds.map dK)),Γ1)):=by
   have e:fD (vc ma) Γ=(ma Γ).bind fun (ds,Γ1)=>.ok (.d (.dict (ds.map dK)),Γ1):=by
    unfold fD vc fOD vd
    cases ma Γ <;> rfl
   rw[<- e]; exact hp
  exact hp'.seq.mono fun F1 Γ1 H1 ds rs1 s1 h1 ks p r n=>by
   obtain⟨r2,s2⟩:=rs1.newM n r
   obtain⟨F3,r3,s3,q3⟩:=r2.dropD
   exact h1 F3 _ _ (r3.newD q3) (s2.trans s3))
noncomputable def zcd:EM (List (Str×PyData)):=fun Γ=>.ok ([],Γ)
theorem zdz:SD X XP mp (.Dict [] [] pos) zcd:=fun M0 F Γ ν σ H Q rs hs hp=>pe_dnewK.wp fun p n=>hp F H rs (.refl _ _) [] p .nil n
noncomputable def zce (fa fb:EM FV):EM (List (Str×PyData)):=fun Γ=>(fa Γ).bind fun (u,Γ1)=>match derf Γ1 u with
 | some (.str z)=>(fb Γ1).bind fun (w,Γ2)=>match derS Γ2 w with
  | some y=>.ok ([(z,y)],Γ2)
  | none=>.bad
 | _=>.bad
theorem zdA (ha:SE X XP mp a fa) (hb:SE X XP mp b fb):SD X XP mp (.Dict [some a] [b] pos) (zce fa fb):=fun M0 F Γ ν σ H Q rs hs hp=>
 (k4 zi zi).wp (ha.run rs hs hp fun F1 Γ1 H1 u v rs1 s1 o1 h1=>by
  dsimp only at h1
  split at h1
  ·rename_i z ez
   cases o1.weak rs1 ez
   refine hb.run rs1 hs h1 fun F2 Γ2 H2 w v2 rs2 s2 o2 h2=>?_
   dsimp only at h2
   split at h2
   ·rename_i y ey
    exact⟨.inr z,rfl,fun p n=>h2 F2 H2 rs2 (.refl _ _) [(z,v2)] p (.cons (o2.strong rs2 ey) .nil) n⟩
   ·exact h2.elim
  ·exact h1.elim)
end
end L3
namespace L3
open PySem PySem.Spec PyProof.Rows L2
variable [Cs]
section
variable {X:Cx} {XP:XPT} {mp io:List Nat} {a b e tg iter elt:Expr} {es ifs:List Expr} {pos p p2 pos' p3 apos cpos:Pos} {fa fb fc:EM FV} {fo:EM OV} {na:EM (List PyData)} {ma:EM (List (Str×PyData))} {kx:Nat} {c f x:Str} {s i:Nat} {M0:Addr->Prop} {F:Fp} {Γ:Gv} {ν:Nu} {σ:St} {H H':Hp} {u:FV} {v:V}
theorem FldAt.own {ys:List OV}{ds:List PyData}{v:V}(h:FldAt M0 F Γ ν H i c f (.l ys) v) (rs:RS M0 F Γ ν H) (hl:leaves ys=some ds):∃ b us,v=.ref b/\H b=some (.lst us)/\RepL (MM (QX M0 F i) (zC F i [])) H us ds/\∀ j,b∉zC F i [] j:=by
 obtain⟨a,dx,fs,ns,xs,j,A1,B,A2,e1,e2,e3,e4,e5,e6,e7,e8,e9,e10⟩:=id h.ex
 cases e8 with
 | @l b us _ A' eb qb=>
  obtain⟨q1,q2⟩:=qb.leaf hl
  refine⟨b,us,rfl,eb,by rw[ZA zd,Wn]; exact q1,fun j hj=>?_⟩
  have hb:b∈F i:=by rw[e9]; simp
  by_cases z:j=i
  ·subst z; rw[zd] at hj; cases hj
  ·rw[zh z] at hj; exact z (rs.dis _ _ b hj hb)
end
end L3
namespace L2
open PySem PySem.Spec PyProof.Rows
variable [Cs]
section
variable {X:Cx} {σ:St} {H:Hp} {CX:CXT} {E:XK} {sp:Sp} {Q:VK} {C f:Addr} {fd:FuncData} {ps:List Str} {k:Nat} {m x:Str} {o e:Expr} {es:List Expr} {p pos apos:Pos}
end
structure KnM (P:Program) (w:World) (K:PySem.W.Frag) (mg:Str->Option Value) (base:Heap) (CX:CXT) (C:Addr) (m:Str) (k:Nat) (sp:Sp):Prop where
 ex:∃ (f:Addr) (fd:FuncData) (ps:List Str),FnOk P w K mg base CX k f fd ps sp/\Cls K C/\zcv K C m f/\Binds K fd ps []
structure KnI (P:Program) (w:World) (K:PySem.W.Frag) (mg:Str->Option Value) (base:Heap) (CX:CXT) (C:Addr) (k:Nat) (sp:Sp):Prop where
 ex:∃ (f:Addr) (fd:FuncData) (ps:List Str),FnOk P w K mg base CX k f fd ps sp/\Mk K C f/\Binds K fd ps []
end L2
namespace L3
open PySem PySem.Spec PyProof.Rows L2
variable [Cs]
section
variable {X:Cx} {XP:XPT} {mp io:List Nat} {a b e:Expr} {es:List Expr} {pos p p2 pos' p3 apos:Pos} {fa fb fc:EM FV} {fl:EM (List AV)} {kx:Nat} {c f m x:Str} {s i k n:Nat} {M0:Addr->Prop} {F F':Fp} {Γ:Gv} {ν:Nu} {σ:St} {H H':Hp} {u:FV} {v:V} {run:List OV->RF}
theorem AOks.stp {F1:Fp}{H1:Hp}{ν1:Nu}(s1:Stp F H F1 H1) (h0:∀ a,M0 a->H a≠none) (hn:ν <+: ν1):∀ {vs:List V}{as:List AV},AOks M0 F ν H vs as->AOks M0 F1 ν1 H1 vs as
 | _,_,.nil=>.nil
 | _,_,.v h t=>.v ((h.stp s1 h0).ext hn) (AOks.stp s1 h0 hn t)
 | _,_,.io h t=>.io (by
   obtain⟨t',rfl⟩:=hn
   rw[List.getElem?_append_left (List.getElem?_eq_some_iff.mp h).1]; exact h) (AOks.stp s1 h0 hn t)
end
end L3
namespace Tab
open PySem PySem.Spec PyProof.Rows
section
variable {prog:Program} {w:World} {A:Around} {R:Result->Shared->Prop} {I:Addr} {fp wr:List Addr} {G:Array GenState->Array GenState->Prop} {n:Nat} {P:Nat->Value->Prop} {St:Nat->Shared->Prop}
end
section
variable {prog:Program} {w:World} {A:Around} {E:Value->Shared->Prop} {s:Shared}
end
end Tab
namespace L2
open PySem PySem.Spec PyProof.Rows
variable [Cs]
section
variable {X:Cx}
end
end L2
namespace L3
open PySem PySem.Spec PyProof.Rows L2
variable [Cs]
section
variable {X:Cx} {XP:XPT} {mp:List Nat} {a b:Expr} {p1 p2 q1 q2:Pos} {fa fb:EM FV}
end
end L3
namespace L3
open PySem PySem.Spec PyProof.Rows L2
variable [Cs]
section
variable {M0:Addr->Prop} {F F':Fp} {Γ Γ':Gv} {ν ν':Nu} {H H':Hp}
theorem RS.junk {i:Nat}(r:RS M0 F Γ ν H) (hk:∀ a,a∉F i->H' a=H a) (ht:∀ b xs,H b=some (.tup xs)->H' b=some (.tup xs)) (hs:∀ b,H b≠none->H' b≠none):RS M0 (zC F i []) (Γ.set i none) ν H'/\Stp F H (zC F i []) H':=by
 have sub:∀ j a,a∈zC F i [] j->a∈F j/\j≠i:=fun j a h=>by
  by_cases hj:j=i
  ·subst hj; rw[zd] at h; cases h
  ·rw[zh hj] at h; exact⟨h,hj⟩
 have s:Stp F H (zC F i []) H':=⟨fun b o e n=>⟨by rw[hk b (n i)]; exact e,fun j h=>n j (sub j b h).1⟩,ht,hs⟩
 refine⟨⟨fun a h=>hs a (r.al0 a h),fun j a h=>r.dis0 j a (sub j a h).1,fun j=>?_,fun j k a h1 h2=>r.dis j k a (sub j a h1).1 (sub k a h2).1,fun j o e=>?_,fun j h=>?_,by rw[List.length_set]; exact r.len⟩,s⟩
 ·by_cases hj:j=i
  ·subst hj; rw[zd]; exact List.nodup_nil
  ·rw[zh hj]; exact r.nd j
 ·have hj:j≠i:=fun z=>by
   subst z
   by_cases hl:j<Γ.length
   ·rw[List.getElem?_set_self hl] at e; cases e
   ·rw[List.getElem?_eq_none (by simp; omega)] at e; cases e
  rw[List.getElem?_set_ne (Ne.symm hj)] at e
  obtain⟨v,ev,q⟩:=r.at' j o e
  refine⟨v,ev,?_⟩
  rw[zh hj]
  exact q.go (fun _ _ x=>zm s r.al0 x) s.tups fun a ha=>hk a fun h=>hj (r.dis j i a ha h)
 ·by_cases hj:j=i
  ·subst hj; exact zd
  ·rw[zh hj]
   exact r.emp j fun o z=>h o (by rw[List.getElem?_set_ne (Ne.symm hj)]; exact z)
theorem RS.pair2 {o1 o2:OV}{v1 v2:V}{p:Addr}(r:RS M0 F (Γ++ [some o1]++ [some o2]) (ν++ [some v1]++ [some v2]) H) (n:H p=none) :
  ∃ F',RS M0 F' (Γ++ [some (.t [o1,o2])]) (ν++ [some (.ref p)]) (upd H p (.tup [v1,v2]))/\Stp F H F' (upd H p (.tup [v1,v2])):=by
 have hl:ν.length=Γ.length:=by have:=r.len; simp at this; omega
 have hp:∀ i,p∉F i:=fun i h=>by
  obtain⟨vs,e⟩:=r.laidF h
  rw[n] at e; cases e
 obtain⟨w1,ew1,q1⟩:=r.at' Γ.length o1 (by rw[List.append_assoc,List.getElem?_append_right (Nat.le_refl _)]; simp)
 obtain⟨w2,ew2,q2⟩:=r.at' (Γ.length+1) o2 (by rw[List.append_assoc,List.getElem?_append_right (by omega)]; simp)
 have e1:w1=v1:=by
  rw[List.append_assoc,List.getElem?_append_right (by omega),hl] at ew1
  simpa using ew1.symm
 have e2:w2=v2:=by
  rw[List.append_assoc,List.getElem?_append_right (by omega),hl] at ew2
  simpa using ew2.symm
 subst e1 e2
 have A:∀ j,Γ.length+1<j->F j= []:=fun j hj=>r.emp j fun o z=>by
  rw[List.getElem?_eq_none (by simp; omega)] at z; cases z
 have s0:Stp F H (zC (zC F (Γ.length+1) []) Γ.length (F Γ.length++F (Γ.length+1))) (upd H p (.tup [w1,w2])):=⟨fun b o e nb=>⟨by
   rw[ze (fun z=>by subst z; rw[n] at e; cases e)]; exact e,fun j h=>by
   by_cases hj:j=Γ.length
   ·subst hj
    rw[zd] at h
    rcases List.mem_append.mp h with h | h
    ·exact nb _ h
    ·exact nb _ h
   ·rw[zh hj] at h
    by_cases hj2:j=Γ.length+1
    ·subst hj2; rw[zd] at h; cases h
    ·rw[zh hj2] at h; exact nb j h⟩,fun b xs e=>by
   rw[ze (fun z=>by subst z; rw[n] at e; cases e)]; exact e,fun b h=>by
   by_cases z:b=p
   ·subst z; rw[zj]; exact fun z=>nomatch z
   ·rw[ze z]; exact h⟩
 have keep:∀ j,∀ a∈F j,upd H p (.tup [w1,w2]) a=H a:=fun j a ha=>ze (fun e=>hp j (by rw[<- e]; exact ha))
 refine⟨_,⟨fun a h=>s0.stay a (r.al0 a h),fun j a h=>?_,fun j=>?_,fun j k a h1 h2=>?_,fun j o e=>?_,fun j h=>?_,by simp[hl]⟩,s0⟩
 ·by_cases hj:j=Γ.length
  ·subst hj
   rw[zd] at h
   rcases List.mem_append.mp h with h | h <;> exact r.dis0 _ a h
  ·rw[zh hj] at h
   by_cases hj2:j=Γ.length+1
   ·subst hj2; rw[zd] at h; cases h
   ·rw[zh hj2] at h; exact r.dis0 j a h
 ·by_cases hj:j=Γ.length
  ·subst hj
   rw[zd,List.nodup_append]
   exact⟨r.nd _,r.nd _,fun a h1 b h2 z=>by
    subst z
    have:=r.dis _ _ _ h1 h2
    omega⟩
  ·rw[zh hj]
   by_cases hj2:j=Γ.length+1
   ·subst hj2; rw[zd]; exact List.nodup_nil
   ·rw[zh hj2]; exact r.nd j
 ·have up:∀ j,a∈zC (zC F (Γ.length+1) []) Γ.length (F Γ.length++F (Γ.length+1)) j->(a∈F j/\j≠Γ.length+1)∨(j=Γ.length/\a∈F (Γ.length+1)):=fun j h=>by
   by_cases hj:j=Γ.length
   ·subst hj
    rw[zd] at h
    rcases List.mem_append.mp h with h | h
    ·exact .inl ⟨h,by omega⟩
    ·exact .inr ⟨rfl,h⟩
   ·rw[zh hj] at h
    by_cases hj2:j=Γ.length+1
    ·subst hj2; rw[zd] at h; cases h
    ·rw[zh hj2] at h; exact .inl ⟨h,hj2⟩
  rcases up j h1 with ⟨g1,n1⟩ | ⟨rfl,g1⟩
  ·rcases up k h2 with ⟨g2,n2⟩ | ⟨rfl,g2⟩
   ·exact r.dis j k a g1 g2
   ·exact absurd (r.dis _ _ a g1 g2) n1
  ·rcases up k h2 with ⟨g2,n2⟩ | ⟨rfl,g2⟩
   ·exact absurd (r.dis _ _ a g2 g1) n2
   ·rfl
 ·by_cases hj:j=Γ.length
  ·subst hj
   rw[List.getElem?_append_right (Nat.le_refl _)] at e
   have eo:o=.t [o1,o2]:=by simpa using e.symm
   subst eo
   refine⟨.ref p,by rw[<- hl,List.getElem?_append_right (Nat.le_refl _)]; simp,?_⟩
   rw[zd]
   refine .t zj ?_
   have:=ORL.cons (q1.go (fun _ _ x=>zm s0 r.al0 x) s0.tups (keep _)) (ORL.cons (q2.go (fun _ _ x=>zm s0 r.al0 x) s0.tups (keep _)) ORL.nil)
   rw[List.append_nil] at this; exact this
  ·have hlt:j<Γ.length:=by
    have:=(List.getElem?_eq_some_iff.mp e).1
    simp at this; omega
   rw[List.getElem?_append_left hlt] at e
   obtain⟨v,ev,q⟩:=r.at' j o (by rw[List.append_assoc,List.getElem?_append_left hlt]; exact e)
   refine⟨v,by rw[List.append_assoc,List.getElem?_append_left (by omega)] at ev; rw[List.getElem?_append_left (by omega)]; exact ev,?_⟩
   rw[zh hj,zh (by omega)]
   exact q.go (fun _ _ x=>zm s0 r.al0 x) s0.tups (keep _)
 ·by_cases hj:j=Γ.length
  ·subst hj
   exact absurd (by rw[List.getElem?_append_right (Nat.le_refl _)]; simp) (h (.t [o1,o2]))
  ·rw[zh hj]
   by_cases hj2:j=Γ.length+1
   ·subst hj2; exact zd
   ·rw[zh hj2]
    refine r.emp j fun o z=>h o ?_
    by_cases hlt:j<Γ.length
    ·rw[List.append_assoc,List.getElem?_append_left hlt] at z
     rw[List.getElem?_append_left hlt]; exact z
    ·rw[List.getElem?_eq_none (by simp; omega)] at z; cases z
theorem ORL.two {M:Addr->Prop}{vs:List V}{o1 o2:OV}{A:List Addr}(h:ORL M H vs [o1,o2] A):∃ v1 v2 A1 A2,vs= [v1,v2]/\A=A1++A2/\OR M H v1 o1 A1/\OR M H v2 o2 A2:=by
 cases h with
 | cons q1 h=>
  cases h with
  | cons q2 h=>
   cases h
   exact⟨_,_,_,_,rfl,by rw[List.append_nil],q1,q2⟩
theorem RS.unpair {o1 o2:OV}{v:V}(r:RS M0 F (Γ++ [some (.t [o1,o2])]) (ν++ [some v]) H):∃ a v1 v2 F',v=.ref a/\H a=some (.tup [v1,v2])/\RS M0 F' (Γ++ [some o1]++ [some o2]) (ν++ [some v1]++ [some v2]) H/\Stp F H F' H:=by
 have hl:ν.length=Γ.length:=by have:=r.len; simp at this; omega
 obtain⟨w,ew,q⟩:=r.at' Γ.length (.t [o1,o2]) (by rw[List.getElem?_append_right (Nat.le_refl _)]; simp)
 have e1:w=v:=by
  rw[List.getElem?_append_right (by omega),hl] at ew
  simpa using ew.symm
 subst e1
 generalize hA:F Γ.length=A at q
 cases q with
 | t ea qa=>
  rename_i a vs
  obtain⟨v1,v2,A1,A2,rfl,rfl,q1,q2⟩:=qa.two
  have nA:=r.nd Γ.length
  rw[hA,List.nodup_append] at nA
  have hz:F (Γ.length+1)= []:=r.emp _ fun o z=>by rw[List.getElem?_eq_none (by simp)] at z; cases z
  have sub:∀ j b,b∈zC (zC F (Γ.length+1) A2) Γ.length A1 j->(j=Γ.length/\b∈A1)∨(j=Γ.length+1/\b∈A2)∨(j≠Γ.length/\b∈F j):=fun j b h=>by
   by_cases hj:j=Γ.length
   ·subst hj; rw[zd] at h; exact .inl ⟨rfl,h⟩
   ·rw[zh hj] at h
    by_cases hj2:j=Γ.length+1
    ·subst hj2; rw[zd] at h; exact .inr (.inl ⟨rfl,h⟩)
    ·rw[zh hj2] at h; exact .inr (.inr ⟨hj,h⟩)
  have own:∀ j b,b∈zC (zC F (Γ.length+1) A2) Γ.length A1 j->∃ k,b∈F k:=fun j b h=>by
   rcases sub j b h with ⟨_,h⟩ | ⟨_,h⟩ | ⟨_,h⟩
   ·exact⟨Γ.length,by rw[hA]; exact List.mem_append_left _ h⟩
   ·exact⟨Γ.length,by rw[hA]; exact List.mem_append_right _ h⟩
   ·exact⟨j,h⟩
  have s:Stp F H (zC (zC F (Γ.length+1) A2) Γ.length A1) H:=⟨fun b o e n=>⟨e,fun j h=>let ⟨k,hk⟩:=own j b h; n k hk⟩,fun _ _ e=>e,fun _ h=>h⟩
  refine⟨a,v1,v2,_,rfl,ea,⟨r.al0,fun j b h=>let ⟨k,hk⟩:=own j b h; r.dis0 k b hk,fun j=>?_,fun j k b h1 h2=>?_,fun j o e=>?_,fun j h=>?_,by simp[hl]⟩,s⟩
  ·by_cases hj:j=Γ.length
   ·subst hj; rw[zd]; exact nA.1
   ·rw[zh hj]
    by_cases hj2:j=Γ.length+1
    ·subst hj2; rw[zd]; exact nA.2.1
    ·rw[zh hj2]; exact r.nd j
  ·have big:∀ x,x∈A1∨x∈A2->x∈F Γ.length:=fun x hx=>by
    rw[hA]; exact List.mem_append.mpr hx
   rcases sub j b h1 with ⟨rfl,g1⟩ | ⟨rfl,g1⟩ | ⟨n1,g1⟩ <;> rcases sub k b h2 with ⟨rfl,g2⟩ | ⟨rfl,g2⟩ | ⟨n2,g2⟩
   ·rfl
   ·exact absurd rfl (nA.2.2 b g1 b g2)
   ·exact absurd (r.dis _ _ b g2 (big b (.inl g1))) n2
   ·exact absurd rfl (nA.2.2 b g2 b g1)
   ·rfl
   ·exact absurd (r.dis _ _ b g2 (big b (.inr g1))) n2
   ·exact absurd (r.dis _ _ b g1 (big b (.inl g2))) n1
   ·exact absurd (r.dis _ _ b g1 (big b (.inr g2))) n1
   ·exact r.dis j k b g1 g2
  ·by_cases hj:j=Γ.length
   ·subst hj
    rw[List.append_assoc,List.getElem?_append_right (Nat.le_refl _)] at e
    have eo:o=o1:=by simpa using e.symm
    subst eo
    refine⟨v1,by rw[List.append_assoc,<- hl,List.getElem?_append_right (Nat.le_refl _)]; simp,?_⟩
    rw[zd]
    exact q1.go (fun _ _ x=>zm s r.al0 x) s.tups fun _ _=>rfl
   ·by_cases hj2:j=Γ.length+1
    ·subst hj2
     rw[List.append_assoc,List.getElem?_append_right (by omega)] at e
     have eo:o=o2:=by simpa using e.symm
     subst eo
     refine⟨v2,by rw[List.append_assoc,<- hl,List.getElem?_append_right (by omega)]; simp,?_⟩
     rw[zh (by omega),zd]
     exact q2.go (fun _ _ x=>zm s r.al0 x) s.tups fun _ _=>rfl
    ·have hlt:j<Γ.length:=by
      have:=(List.getElem?_eq_some_iff.mp e).1
      simp at this; omega
     rw[List.append_assoc,List.getElem?_append_left hlt] at e
     obtain⟨v,ev,q⟩:=r.at' j o (by rw[List.getElem?_append_left hlt]; exact e)
     refine⟨v,by rw[List.getElem?_append_left (by omega)] at ev; rw[List.append_assoc,List.getElem?_append_left (by omega)]; exact ev,?_⟩
     rw[zh hj,zh hj2]
     exact q.go (fun _ _ x=>zm s r.al0 x) s.tups fun _ _=>rfl
  ·by_cases hj:j=Γ.length
   ·subst hj
    exact absurd (by rw[List.append_assoc,List.getElem?_append_right (Nat.le_refl _)]; simp) (h o1)
   ·rw[zh hj]
    by_cases hj2:j=Γ.length+1
    ·subst hj2
     exact absurd (by rw[List.append_assoc,List.getElem?_append_right (by omega)]; simp) (h o2)
    ·rw[zh hj2]
     refine r.emp j fun o z=>?_
     by_cases hlt:j<Γ.length
     ·rw[List.getElem?_append_left hlt] at z
      exact h o (by rw[List.append_assoc,List.getElem?_append_left hlt]; exact z)
     ·rw[List.getElem?_eq_none (by simp; omega)] at z; cases z
end
section
variable {X:Cx} {XP:XPT} {mp io:List Nat} {a b c e:Expr} {es:List Expr} {pos p p2 pos' p3:Pos} {fo fo2:EM OV} {kx:Nat}
noncomputable def qT (n:Nat) (fo fo2:EM OV):EM OV:=fun Γ=>(fo Γ).bind fun (o1,Γ1)=>if Γ1.length=n then match fo2 (Γ1++ [some o1]) with
  | .ok (o2,Γ2)=>if Γ2.length=n+1 then match Γ2[n]? with
    | some (some o)=>.ok (.t [o,o2],Γ2.take n)
    | _=>.bad
   else .bad
  | _=>.bad
 else .bad
theorem Sees.more {ν:Nu}{σ:St}{v:Option V}(h:Sees mp ν σ) (hm:∀ i∈mp,i<ν.length):Sees mp (ν++ [v]) σ:=fun s i w e1 e2=>h s i w e1 (by
 rw[List.getElem?_append_left (hm i (List.mem_of_getElem? e1))] at e2; exact e2)
theorem KG {n:Nat}(hm:∀ i∈mp,i<n) (ha:SO X XP mp a fo) (hb:SO X XP mp b fo2) (h1:starEach [a,b] X.env=(false,eval a X.env)::starEach [b] X.env) (h2:starEach [b] X.env= [(false,eval b X.env)]):SO X XP mp (.Tuple [a,b] kx pos) (qT n fo fo2):=fun M0 F Γ ν σ H Q rs hs hp=>by
 refine (Vs (zo zi (zo zi pa_nil h2) h1)).wp ?_
 refine ha M0 F Γ ν σ H _ rs hs ?_
 unfold qT at hp
 cases q:fo Γ with
 | bad=>rw[q] at hp; exact hp.elim
 | exc x y=>rw[q] at hp; exact hp
 | ok z=>
  obtain⟨o1,Γ1⟩:=z
  rw[q] at hp
  intro F1 H1 v rs1 s1
  have hp:OPost M0 F ν σ H XP (fun F' Γ' H' o v=>Q v H') (if Γ1.length=n then match fo2 (Γ1++ [some o1]) with
   | .ok (o2,Γ2)=>if Γ2.length=n+1 then match Γ2[n]? with
     | some (some o)=>.ok (.t [o,o2],Γ2.take n)
     | _=>.bad
    else .bad
   | _=>.bad
   else .bad):=hp
  split at hp
  ·rename_i hn
   have hνn:ν.length=n:=by have:=rs1.len; simp at this; omega
   refine hb M0 F1 _ _ σ H1 _ rs1 (hs.more fun i hi=>by rw[hνn]; exact hm i hi) ?_
   cases q2:fo2 (Γ1++ [some o1]) with
   | bad=>rw[q2] at hp; exact hp.elim
   | exc x y=>rw[q2] at hp; exact hp.elim
   | ok z=>
    obtain⟨o2,Γ2⟩:=z
    rw[q2] at hp
    dsimp only at hp
    split at hp
    ·rename_i hn2
     split at hp
     ·rename_i o eo
      intro F2 H2 w rs2 s2
      have hΓ:Γ2=Γ2.take n++ [some o]:=by
       have h3:=List.take_append_drop n Γ2
       have h4:Γ2.drop n= [some o]:=by
        rw[List.drop_eq_getElem_cons (by omega)]
        have:Γ2[n]=some o:=by
         have:=(List.getElem?_eq_some_iff.mp eo).2
         exact this
        rw[this,List.drop_eq_nil_of_le (by omega)]
       rw[h4] at h3; exact h3.symm
      rw[hΓ] at rs2
      refine⟨by show 2<=sizeLine; decide,fun p np=>?_⟩
      obtain⟨F3,r3,s3⟩:=rs2.pair2 np
      exact hp F3 _ _ r3 ((s1.trans s2).trans s3)
     ·exact hp.elim
    ·exact hp.elim
  ·exact hp.elim
noncomputable def vD (io:List Nat) (i j:Nat) (fo:EM OV):SM:=fun Γ=>(fo Γ).bind fun (o,Γ1)=>match o with
 | .t [o1,o2]=>if i<Γ1.length/\j<Γ1.length/\i∉io/\j∉io then .ok (.next,(Γ1.set j (some o2)).set i (some o1)) else .bad
 | _=>.bad
theorem zbH {s t i j:Nat}{x y:Str}{kt:Nat}{px py pt:Pos}(hc:X.calm=true) (hN:X.N.Nodup) (hi:X.N[s]?=some x) (hx:Loc X.env.scope x) (hfx:X.fn x=true∨X.env.scope.names.lookup x=some .local) (hj:X.N[t]?=some y) (hy:Loc X.env.scope y) (hfy:X.fn y=true∨X.env.scope.names.lookup y=some .local)
  (hn:mp.Nodup) (hmi:mp[s]?=some i) (hmj:mp[t]?=some j) (hst:s≠t) (h:SO X XP mp e fo) (hsw:swapsWithSole [.Tuple [.Name x px,.Name y py] kt pt] e pos.line X.env=pure false) (hw:swappedStores [.Tuple [.Name x px,.Name y py] kt pt] e X.env=pure none) :
  SS X XP mp io (.Assign [.Tuple [.Name x px,.Name y py] kt pt] e pos) (vD io i j fo):=fun M0 F Γ ν σ H D rs hs hl hp=>by
 refine (Vw zi (Ka hc (JF (Jf hN hi hx hfx) (JF (Jf hN hj hy hfy) pgs_nil)) rfl rfl) hsw hw).wp ?_
 refine h M0 F Γ ν σ H _ rs hs ?_
 unfold vD at hp
 cases q:fo Γ with
 | bad=>rw[q] at hp; exact hp.elim
 | exc z Γ'=>
  rw[q] at hp
  intro F' H' r' s'
  exact hp F' ν σ H' r' s' hs hl fun _ _=>rfl
 | ok z=>
  obtain⟨o,Γ1⟩:=z
  rw[q] at hp
  intro F1 H1 v rs1 s1
  have hp:SPost M0 F ν H XP mp X.N.length io D (match (generalizing:=false) o with
   | .t [o1,o2]=>if i<Γ1.length/\j<Γ1.length/\i∉io/\j∉io then .ok (.next,(Γ1.set j (some o2)).set i (some o1)) else .bad
   | _=>.bad):=hp
  split at hp
  ·rename_i o1 o2
   split at hp
   ·rename_i hh
    obtain⟨h1,h2,h3,h4⟩:=hh
    have hνl:ν.length=Γ1.length:=by have:=rs1.len; simp at this; omega
    obtain⟨a,v1,v2,F2,rfl,ea,r2,s2⟩:=rs1.unpair
    obtain⟨F3,r3,s3⟩:=r2.move (i:=j) (by simp; omega)
    rw[List.set_append_left _ _ h2,List.set_append_left _ _ (by omega)] at r3
    obtain⟨F4,r4,s4⟩:=r3.move (i:=i) (by simp; omega)
    have hsl:s<σ.length:=by rw[hl]; exact (List.getElem?_eq_some_iff.mp hi).1
    have htl:t<σ.length:=by rw[hl]; exact (List.getElem?_eq_some_iff.mp hj).1
    have se:=(hs.set (v:=v2) hn hmj htl).set (v:=v1) hn hmi (by rw[List.length_set]; exact hsl)
    rw[List.set_comm _ _ hst.symm] at se
    refine⟨a,[v1,v2],rfl,SqT.of ea,rfl,v1,[v2],rfl,v2,[],rfl,rfl,?_⟩
    refine hp F4 _ _ H1 r4 (((s1.trans s2).trans s3).trans s4) se (by simp[hl]) fun k hk=>?_
    rw[List.getElem?_set_ne (fun z=>h3 (by rw[z]; exact hk)),List.getElem?_set_ne (fun z=>h4 (by rw[z]; exact hk))]
   ·exact hp.elim
  ·exact hp.elim
noncomputable def yh (i:Nat) (g:SM):SM:=fun Γ=>match Γ[i]? with
 | some (some (.t [.l xs,.l ys]))=>if xs.length<1000000/\ys.length<1000000 then g (Γ.set i none) else .bad
 | _=>.bad
theorem zbi {s i:Nat}{x:Str}{sts:List Stmt}{g:SM}{j0 j1 j2 j3:Nat}{c0 c1 c2 c3 p1 p4 p5 a1 a2 q1 q2 q3 q4:Pos}(n:NmK X mp s i x) (hg:SB X XP mp io sts g) (hl1:(a1.endLine==q1.line)=true) (hl2:(a2.endLine==q3.line)=true) :
  SB X XP mp io (.Expr (.Call (.Attribute (.Subscript (.Name x p) (.Constant (.int 0) j0 c0) p1) "append" a1) [.Subscript (.Name x p2) (.Constant (.int 1) j1 c1) p3] [] q1) q2::.Expr (.Call (.Attribute (.Subscript (.Name x p4) (.Constant (.int 1) j2 c2) p5) "append" a2) [.Constant (.bool true) j3 c3] [] q3) q4::sts) (yh i g):=fun M0 F Γ ν σ H D rs hs hl hp=>by
 have hv:PE X (.Name x p) (zd7 s):=z4 n.hN n.hv n.hd n.hcd
 refine (qJ (Jg (kW PySem.F.plainAttrs_list PySem.F.slot_list_append PySem.F.type_list_append Qv (yb Wt (z4 n.hN n.hv n.hd n.hcd) pe_int (fun _ _=>rfl)) (zo (yb Wt (z4 n.hN n.hv n.hd n.hcd) pe_int (fun _ _=>rfl)) pa_nil rfl) rfl rfl hl1 rfl rfl) rfl)
  (qJ (Jg (kW PySem.F.plainAttrs_list PySem.F.slot_list_append PySem.F.type_list_append Qv (yb Wt (z4 n.hN n.hv n.hd n.hcd) pe_int (fun _ _=>rfl)) (zo pe_bl pa_nil rfl) rfl rfl hl2 rfl rfl) rfl) qh)).wp ?_
 unfold yh at hp
 split at hp
 ·rename_i xs ys e
  split at hp
  ·rename_i hz
   obtain⟨a,vs,en,ea,qa⟩:=zd8 rs e
   obtain⟨v1,v2,A1,A2,rfl,hA,o1,o2⟩:=qa.two
   cases o1 with
   | l ex nx=>
    rename_i b1 us1 B1
    cases o2 with
    | l ey ny=>
     rename_i b2 us2 B2
     have z1:us1.length=xs.length:=nx.length
     have z2:us2.length=ys.length:=ny.length
     have m1:b1∈F i:=by rw[hA]; simp
     have m2:b2∈F i:=by rw[hA]; simp
     have hne:b1≠b2:=fun z=>by
      have:=rs.nd i
      rw[hA,List.nodup_append] at this
      exact this.2.2 b1 (by simp) b2 (by simp) z
     have na1:b1≠a:=fun z=>by subst z; rw[ex] at ea; cases ea
     have na2:b2≠a:=fun z=>by subst z; rw[ey] at ea; cases ea
     have hsz:=sizeLine_eq
     have hσ:=hs s i _ n.hm en
     refine⟨_,hσ,a,_,0,_,rfl,rfl,SqT.of ea,rfl,.inl ⟨rfl,_,SqL.of ex⟩,_,hσ,a,_,1,_,rfl,rfl,SqT.of ea,rfl,?_⟩
     refine⟨b1,us1,_,rfl,rfl,ex,by omega,?_⟩
     have ea':upd H b1 (.lst (us1++ [.ref b2])) a=some (.tup [.ref b1,.ref b2]):=by rw[ze na1.symm]; exact ea
     have ey':upd H b1 (.lst (us1++ [.ref b2])) b2=some (.lst us2):=by rw[ze hne.symm]; exact ey
     refine⟨_,hσ,a,_,1,_,rfl,rfl,SqT.of ea',rfl,.inl ⟨rfl,_,SqL.of ey'⟩,?_⟩
     refine⟨b2,us2,_,rfl,rfl,ey',by omega,?_⟩
     obtain⟨r5,s5⟩:=rs.junk (i:=i) (H':=upd (upd H b1 (.lst (us1++ [.ref b2]))) b2 (.lst (us2++ [.bl true]))) (fun c hc=>by
       rw[ze (fun z=>hc (by rw[z]; exact m2)),ze (fun z=>hc (by rw[z]; exact m1))])
      (fun b us eb=>by
       rw[ze (fun z=>by subst z; rw[ey] at eb; cases eb),ze (fun z=>by subst z; rw[ex] at eb; cases eb)]; exact eb)
      (fun b hb=>by
       by_cases y1:b=b2
       ·subst y1; rw[zj]; exact fun z=>nomatch z
       ·rw[ze y1]
        by_cases y2:b=b1
        ·subst y2; rw[zj]; exact fun z=>nomatch z
        ·rw[ze y2]; exact hb)
     exact hg M0 _ _ ν σ _ D r5 hs hl (hp.step s5 fun _ _=>rfl)
  ·exact hp.elim
 ·exact hp.elim
end
end L3
namespace L3
open PySem PySem.Spec PyProof.Rows L2
mutual
inductive IE where
 | var (s i:Nat)
 | frz (s i:Nat)
 | cint (i:Int)
 | cstr (x:Str)
 | cbool (b:Bool)
 | cnone
 | gint (x:Str) (i:Int)
 | tup (a:IL)
 | new (n:IN)
 | bin (op:Operator) (a b:IE)
 | cmp (op:CmpOp) (a b:IE)
 | chain (op op':CmpOp) (a b c:IE)
 | not (a:IE)
 | neg (a:IE)
 | and (a b:IE)
 | or (a b:IE)
 | ite (c a b:IE)
 | ix (a b:IE)
 | len (a:IE)
 | int (a:IE)
 | all (a:IE)
 | any (a:IE)
 | tuple (a:IE)
 | isi (T:String) (a:IE)
 | min (a b:IE)
 | max (a b:IE)
 | cutT (a:IE) (lo hi:IP)
 | call (o:IO)
 | lookT (a:IE)
 | lset (a:IE)
 | newD (m:IM)
inductive IL where
 | nil
 | cons (e:IE) (a:IL)
inductive IA where
 | nil
 | cons (e:IE) (a:IA)
 | io (s i:Nat) (a:IA)
 | tmp (n:IN)
inductive IN where
 | lst (a:IL)
 | cut (e:IE) (lo hi:IP)
 | back (e k:IE)
 | cat (a b:IE)
 | list (e:IE)
 | comp (n k:Nat) (ix:List Nat) (N':List Str) (t:IT) (src:II) (c:IC) (el:IE)
 | lrng (e:IE)
inductive IP where
 | non
 | one (e:IE)
inductive II where
 | list (e:IE)
 | tup (e:IE)
 | range (e:IE)
 | enum (e:IE)
inductive IC where
 | yes
 | one (e:IE)
inductive IO where
 | dat (e:IE)
 | own (n:IN)
 | call (f:Str) (n:Nat) (a:IA)
 | move (s i:Nat)
 | pair (e:IE) (o:IO)
 | pair2 (n:Nat) (a b:IO)
 | ownD (m:IM)
inductive IJ where
 | nil
inductive IM where
 | nil
 | one (a b:IE)
 | comp (n k:Nat) (ix:List Nat) (N':List Str) (t:IT) (src:IG) (c:IC) (ek ev:IE)
inductive IG where
 | std (src:II)
end
noncomputable def IN.plain:IN->Bool
 | _=>true
noncomputable def IM.plain:IM->Bool
 | .comp _ _ _ _ _ (.std _) _ _ _=>true
 | _=>true
noncomputable abbrev CF:=Str->List OV->RF
noncomputable def fNo:EM Bool:=fun _=>.bad
mutual
noncomputable def IE.ev (cf:CF):IE->EM FV×EM Bool
 | .var _ i=>(fVar i,fTru (fVar i))
 | .frz _ i=>(fFrz i,fTru (fFrz i))
 | .cint i=>(fC (.int i),fTru (fC (.int i)))
 | .cstr x=>(fC (.str x),fTru (fC (.str x)))
 | .cbool b=>(fC (.bool b),fTru (fC (.bool b)))
 | .cnone=>(fC .none,fTru (fC .none))
 | .gint _ i=>(fC (.int i),fTru (fC (.int i)))
 | .tup a=>(fTup (a.ev cf),fTru (fTup (a.ev cf)))
 | .new n=>(fNew (n.ev cf),fTru (fNew (n.ev cf)))
 | .bin op a b=>(fBin (binD op) (a.ev cf).1 (b.ev cf).1,fTru (fBin (binD op) (a.ev cf).1 (b.ev cf).1))
 | .cmp op a b=>(fB (fCmp (cmpD op) (a.ev cf).1 (b.ev cf).1),fCmp (cmpD op) (a.ev cf).1 (b.ev cf).1)
 | .chain op op' a b c=>(fB (fChain (cmpD op) (cmpD op') (a.ev cf).1 (b.ev cf).1 (c.ev cf).1),fChain (cmpD op) (cmpD op') (a.ev cf).1 (b.ev cf).1 (c.ev cf).1)
 | .not a=>(fB (fNotT (fTru (a.ev cf).1)),fNotT (a.ev cf).2)
 | .neg a=>(f1 gNeg (a.ev cf).1,fTru (f1 gNeg (a.ev cf).1))
 | .and a b=>(fAndV (a.ev cf).1 (b.ev cf).1,fAndT (a.ev cf).2 (b.ev cf).2)
 | .or a b=>(fOrV (a.ev cf).1 (b.ev cf).1,fOrT (a.ev cf).2 (b.ev cf).2)
 | .ite c a b=>(fIf (c.ev cf).2 (a.ev cf).1 (b.ev cf).1,fNo)
 | .ix a b=>(fIx (a.ev cf).1 (b.ev cf).1,fTru (fIx (a.ev cf).1 (b.ev cf).1))
 | .len a=>(f1 gLen (a.ev cf).1,fTru (f1 gLen (a.ev cf).1))
 | .int a=>(f1 gInt (a.ev cf).1,fTru (f1 gInt (a.ev cf).1))
 | .all a=>(f1 gAll (a.ev cf).1,fTru (f1 gAll (a.ev cf).1))
 | .any a=>(f1 gAny (a.ev cf).1,fTru (f1 gAny (a.ev cf).1))
 | .tuple a=>(fTupC (a.ev cf).1,fTru (fTupC (a.ev cf).1))
 | .isi T a=>(fIsi T (a.ev cf).1,fTru (fIsi T (a.ev cf).1))
 | .min a b=>(f2 gMin (a.ev cf).1 (b.ev cf).1,fTru (f2 gMin (a.ev cf).1 (b.ev cf).1))
 | .max a b=>(f2 gMax (a.ev cf).1 (b.ev cf).1,fTru (f2 gMax (a.ev cf).1 (b.ev cf).1))
 | .cutT a lo hi=>(V6 (a.ev cf).1 (lo.ev cf) (hi.ev cf),fTru (V6 (a.ev cf).1 (lo.ev cf) (hi.ev cf)))
 | .call o=>(fOD (o.ev cf),fTru (fOD (o.ev cf)))
 | .lookT a=>(zcc,Wl (a.ev cf).2)
 | .lset a=>(Jp (a.ev cf).1,fTru (Jp (a.ev cf).1))
 | .newD m=>(vc (m.ev cf),fNo)
noncomputable def IL.ev (cf:CF):IL->EM (List FV)
 | .nil=>fNil
 | .cons e a=>fCons (e.ev cf).1 (a.ev cf)
noncomputable def IA.ev (cf:CF):IA->EM (List AV)
 | .nil=>aNil
 | .cons e a=>aCons (e.ev cf).1 (a.ev cf)
 | .io _ i a=>aIo i (a.ev cf)
 | .tmp n=>zep (n.ev cf)
noncomputable def IN.ev (cf:CF):IN->EM (List PyData)
 | .lst a=>fLst (a.ev cf)
 | .cut e lo hi=>zaL (e.ev cf).1 (lo.ev cf) (hi.ev cf)
 | .back e k=>Y7 (e.ev cf).1 (Vk (k.ev cf).1)
 | .cat a b=>zaK (a.ev cf).1 (b.ev cf).1
 | .list e=>fListC (e.ev cf).1
 | .comp n k _ _ t src c el=>fComp n k t (src.ev cf) (c.ev cf) (el.ev cf).1
 | .lrng e=>Y8 (e.ev cf).1
noncomputable def IP.ev (cf:CF):IP->EM (Option Int)
 | .non=>Y9
 | .one e=>Vk (e.ev cf).1
noncomputable def II.ev (cf:CF):II->EM (List PyData)
 | .list e=>fSeqL (e.ev cf).1
 | .tup e=>fSeqT (e.ev cf).1
 | .range e=>fRange (e.ev cf).1
 | .enum e=>fEnum (e.ev cf).1
noncomputable def IC.ev (cf:CF):IC->EM Bool
 | .yes=>fYes
 | .one e=>(e.ev cf).2
noncomputable def IO.ev (cf:CF):IO->EM OV
 | .dat e=>fD (e.ev cf).1
 | .own n=>fOwn (n.ev cf)
 | .call f _ a=>fCall (cf f) (a.ev cf)
 | .move _ i=>fMove i
 | .pair e o=>Jq (e.ev cf).1 (o.ev cf)
 | .pair2 n a b=>qT n (a.ev cf) (b.ev cf)
 | .ownD m=>vd (m.ev cf)
noncomputable def IJ.ev (cf:CF):IJ->EM (List Str)
 | .nil=>ke
noncomputable def IM.ev (cf:CF):IM->EM (List (Str×PyData))
 | .nil=>zcd
 | .one a b=>zce (a.ev cf).1 (b.ev cf).1
 | .comp n k _ _ t src c ek ev=>Wj n k t (src.ev cf) (c.ev cf) (ek.ev cf).1 (ev.ev cf).1
noncomputable def IG.ev (cf:CF):IG->EM (List PyData×Option Nat)
 | .std src=>zaM (src.ev cf)
end
structure Wd where
 bi:List Str
 gi:List (Str×Int)
 gs:List (Str×Str)
 fl:List (Str×Nat)
 ex:List Str
 gd:List (Str×List (Str×Str))
 fk:List (Str×Str):= []
 mc:List (Str×Str×Nat):= []
 ml:List (Str×Str×Str×Nat):= []
noncomputable def zq:Expr->Bool
 | .Starred .. =>false
 | _=>true
noncomputable def Qx:Expr->Bool
 | .UnaryOp .Not _ _=>false
 | .BoolOp .. =>false
 | .IfExp .. =>false
 | .Compare .. =>false
 | _=>true
noncomputable def qt:Expr->Bool
 | .Slice .. =>false
 | _=>true
noncomputable def qU:Expr->Bool
 | .Set .. =>false
 | _=>true
noncomputable def kA:Expr->Bool
 | .Tuple .. =>true
 | _=>false
noncomputable def zab (sc:Scope) (x:Str):Bool:=decide (sc.names.lookup x=some .local)||decide (sc.names.lookup x=some .cell)||decide (sc.names.lookup x=some .free)
noncomputable def Wo (sc:Scope) (x:Str):Bool:=decide (sc.names.lookup x=some .globalImplicit)
noncomputable def nmB (sc:Scope) (N:List Str) (mp:List Nat) (s i:Nat) (x:Str):Bool:=decide (N[s]?=some x)&&zab sc x&&decide (mp[s]?=some i)&& !(x==("__debug__" :Str))&& !(x==("__classdict__" :Str))
noncomputable def biB (W:Wd) (sc:Scope) (x y:Str):Bool:=decide (x=y)&&Wo sc x&&W.bi.contains x
noncomputable def okO {α:Type}(o:Option α) (f:α->Bool):Bool:=match o with
 | some a=>f a
 | none=>false
theorem za {α:Type}{o:Option α}{f:α->Bool}(h:okO o f=true):∃ a,o=some a/\f a=true:=by
 cases o with
 | none=>cases h
 | some a=>exact⟨a,rfl,h⟩
noncomputable def zI:Expr->Option (Str×Pos)
 | .Name x p=>some (x,p)
 | _=>none
noncomputable def jq:Expr->Option (Const×Nat×Pos)
 | .Constant c j p=>some (c,j,p)
 | _=>none
noncomputable def zcE:Const->Option Int
 | .int i=>some i
 | _=>none
noncomputable def YU:Const->Option Str
 | .str i=>some i
 | _=>none
noncomputable def V1:Const->Option Bool
 | .bool i=>some i
 | _=>none
noncomputable def zb7:Const->Bool
 | .none=>true
 | _=>false
noncomputable def wW:Expr->Option (List Expr×Nat×Pos)
 | .Tuple es n p=>some (es,n,p)
 | _=>none
noncomputable def K4:Expr->Option (List Expr×Pos)
 | .List es p=>some (es,p)
 | _=>none
noncomputable def yo:Expr->Option (Expr×Operator×Expr×Pos)
 | .BinOp x op y p=>some (x,op,y,p)
 | _=>none
noncomputable def yp:Expr->Option (Expr×List CmpOp×List Expr×Pos)
 | .Compare x ops ys p=>some (x,ops,ys,p)
 | _=>none
noncomputable def zbU:Expr->Option (UnaryOp×Expr×Pos)
 | .UnaryOp op x p=>some (op,x,p)
 | _=>none
noncomputable def zbQ:Expr->Option (BoolOp×List Expr×Pos)
 | .BoolOp op vs p=>some (op,vs,p)
 | _=>none
noncomputable def K2:Expr->Option (Expr×Expr×Expr×Pos)
 | .IfExp z x y p=>some (z,x,y,p)
 | _=>none
noncomputable def jr:Expr->Option (Expr×Expr×Pos)
 | .Subscript x y p=>some (x,y,p)
 | _=>none
noncomputable def wU:Expr->Option (Option Expr×Option Expr×Option Expr×Pos)
 | .Slice l h s p=>some (l,h,s,p)
 | _=>none
noncomputable def Q5:Expr->Option (Expr×List Expr×List Keyword×Pos)
 | .Call f xs ks q=>some (f,xs,ks,q)
 | _=>none
noncomputable def wP:Expr->Option (Expr×Str×Pos)
 | .Attribute x f p=>some (x,f,p)
 | _=>none
noncomputable def yt:Expr->Option (Expr×List Comprehension×Scope×Pos)
 | .ListComp elt gens scope p=>some (elt,gens,scope,p)
 | _=>none
theorem zv {e:Expr}{x:Str}{p:Pos}(h:zI e=some (x,p)):e=.Name x p:=by
 unfold zI at h
 split at h
 ·cases h; rfl
 ·cases h
theorem zQ {e:Expr}{c:Const}{j:Nat}{p:Pos}(h:jq e=some (c,j,p)):e=.Constant c j p:=by
 unfold jq at h
 split at h
 ·cases h; rfl
 ·cases h
theorem YQ {c:Const}{i:Int}(h:zcE c=some i):c=.int i:=by
 unfold zcE at h
 split at h
 ·cases h; rfl
 ·cases h
theorem Jm {c:Const}{i:Str}(h:YU c=some i):c=.str i:=by
 unfold YU at h
 split at h
 ·cases h; rfl
 ·cases h
theorem wu {c:Const}{i:Bool}(h:V1 c=some i):c=.bool i:=by
 unfold V1 at h
 split at h
 ·cases h; rfl
 ·cases h
theorem yJ {c:Const}(h:zb7 c=true):c=.none:=by cases c <;> first | rfl | cases h
theorem jY {e:Expr}{es:List Expr}{n:Nat}{p:Pos}(h:wW e=some (es,n,p)):e=.Tuple es n p:=by
 unfold wW at h
 split at h
 ·cases h; rfl
 ·cases h
theorem Yw {e:Expr}{es:List Expr}{p:Pos}(h:K4 e=some (es,p)):e=.List es p:=by
 unfold K4 at h
 split at h
 ·cases h; rfl
 ·cases h
theorem wR {e x y:Expr}{op:Operator}{p:Pos}(h:yo e=some (x,op,y,p)):e=.BinOp x op y p:=by
 unfold yo at h
 split at h
 ·cases h; rfl
 ·cases h
theorem wS {e x:Expr}{ops:List CmpOp}{ys:List Expr}{p:Pos}(h:yp e=some (x,ops,ys,p)):e=.Compare x ops ys p:=by
 unfold yp at h
 split at h
 ·cases h; rfl
 ·cases h
theorem vR {e x:Expr}{op:UnaryOp}{p:Pos}(h:zbU e=some (op,x,p)):e=.UnaryOp op x p:=by
 unfold zbU at h
 split at h
 ·cases h; rfl
 ·cases h
theorem KZ {e:Expr}{op:BoolOp}{vs:List Expr}{p:Pos}(h:zbQ e=some (op,vs,p)):e=.BoolOp op vs p:=by
 unfold zbQ at h
 split at h
 ·cases h; rfl
 ·cases h
theorem Yu {e z x y:Expr}{p:Pos}(h:K2 e=some (z,x,y,p)):e=.IfExp z x y p:=by
 unfold K2 at h
 split at h
 ·cases h; rfl
 ·cases h
theorem qp {e x y:Expr}{p:Pos}(h:jr e=some (x,y,p)):e=.Subscript x y p:=by
 unfold jr at h
 split at h
 ·cases h; rfl
 ·cases h
theorem wV {e:Expr}{l u s:Option Expr}{p:Pos}(h:wU e=some (l,u,s,p)):e=.Slice l u s p:=by
 unfold wU at h
 split at h
 ·cases h; rfl
 ·cases h
theorem QR {e f:Expr}{xs:List Expr}{ks:List Keyword}{p:Pos}(h:Q5 e=some (f,xs,ks,p)):e=.Call f xs ks p:=by
 unfold Q5 at h
 split at h
 ·cases h; rfl
 ·cases h
theorem wQ {e x:Expr}{f:Str}{p:Pos}(h:wP e=some (x,f,p)):e=.Attribute x f p:=by
 unfold wP at h
 split at h
 ·cases h; rfl
 ·cases h
theorem Yv {e elt:Expr}{gens:List Comprehension}{scope:Scope}{p:Pos}(h:yt e=some (elt,gens,scope,p)):e=.ListComp elt gens scope p:=by
 unfold yt at h
 split at h
 ·cases h; rfl
 ·cases h
noncomputable def unN (e:Expr):Option (Str×Pos×List Expr×Pos):=(Q5 e).bind fun (f,xs,ks,q)=>match ks with
 | []=>(zI f).map fun (x,p)=>(x,p,xs,q)
 | _::_=>none
theorem Jj {e:Expr}{f:Str}{p:Pos}{xs:List Expr}{q:Pos}(h:unN e=some (f,p,xs,q)):e=.Call (.Name f p) xs [] q:=by
 unfold unN at h
 cases e1:Q5 e with
 | none=>rw[e1] at h; cases h
 | some z=>
  obtain⟨g,ys,ks,q'⟩:=z
  rw[e1] at h
  cases ks with
  | cons _ _=>cases h
  | nil=>
   cases e2:zI g with
   | none=>simp[e2] at h
   | some z=>
    obtain⟨x,p'⟩:=z
    simp[e2] at h
    obtain⟨rfl,rfl,rfl,rfl⟩:=h
    rw[QR e1,zv e2]
noncomputable def j7 {α:Type}:List α->Option α
 | [x]=>some x
 | _=>none
theorem zZ {α:Type}{l:List α}{x:α}(h:j7 l=some x):l= [x]:=by
 match l,h with
 | [_],h=>cases h; rfl
noncomputable def WH {α:Type}:List α->Option (α×α)
 | [x,y]=>some (x,y)
 | _=>none
theorem qM {α:Type}{l:List α}{x y:α}(h:WH l=some (x,y)):l= [x,y]:=by
 match l,h with
 | [_,_],h=>cases h; rfl
noncomputable def un1 (e:Expr):Option (Str×Pos×Expr×Pos):=(unN e).bind fun (f,p,xs,q)=>(j7 xs).map fun x=>(f,p,x,q)
theorem z6 {e:Expr}{f:Str}{p:Pos}{x:Expr}{q:Pos}(h:un1 e=some (f,p,x,q)):e=.Call (.Name f p) [x] [] q:=by
 unfold un1 at h
 cases e1:unN e with
 | none=>rw[e1] at h; cases h
 | some z=>
  obtain⟨g,p',xs,q'⟩:=z
  cases e2:j7 xs with
  | none=>simp[e1,e2] at h
  | some y=>
   simp[e1,e2] at h
   obtain⟨rfl,rfl,rfl,rfl⟩:=h
   rw[Jj e1,zZ e2]
noncomputable def un2 (e:Expr):Option (Str×Pos×Expr×Expr×Pos):=(unN e).bind fun (f,p,xs,q)=>(WH xs).map fun (x,y)=>(f,p,x,y,q)
theorem WI {e:Expr}{f:Str}{p:Pos}{x y:Expr}{q:Pos}(h:un2 e=some (f,p,x,y,q)):e=.Call (.Name f p) [x,y] [] q:=by
 unfold un2 at h
 cases e1:unN e with
 | none=>rw[e1] at h; cases h
 | some z=>
  obtain⟨g,p',xs,q'⟩:=z
  cases e2:WH xs with
  | none=>simp[e1,e2] at h
  | some y=>
   obtain⟨y1,y2⟩:=y
   simp[e1,e2] at h
   obtain⟨rfl,rfl,rfl,rfl,rfl⟩:=h
   rw[Jj e1,qM e2]
noncomputable def zbT (e:Expr):Option (Str×Pos×Str×Pos×List Expr×Pos):=(Q5 e).bind fun (f,xs,ks,q)=>match ks with
 | []=>(wP f).bind fun (x,m,p2)=>(zI x).map fun (y,p)=>(y,p,m,p2,xs,q)
 | _::_=>none
theorem K5 {e:Expr}{x f:Str}{p p2:Pos}{xs:List Expr}{q:Pos}(h:zbT e=some (x,p,f,p2,xs,q)):e=.Call (.Attribute (.Name x p) f p2) xs [] q:=by
 unfold zbT at h
 cases e1:Q5 e with
 | none=>rw[e1] at h; cases h
 | some z=>
  obtain⟨g,ys,ks,q'⟩:=z
  rw[e1] at h
  cases ks with
  | cons _ _=>cases h
  | nil=>
   cases e2:wP g with
   | none=>simp[e2] at h
   | some z=>
    obtain⟨y,m,p3⟩:=z
    cases e3:zI y with
    | none=>simp[e2,e3] at h
    | some z=>
     obtain⟨y',p'⟩:=z
     simp[e2,e3] at h
     obtain⟨rfl,rfl,rfl,rfl,rfl,rfl⟩:=h
     rw[QR e1,wQ e2,zv e3]
noncomputable def VH (e:Expr):Option (Expr×Expr×Pos×Pos):=(jr e).bind fun (x,y,q)=>(wU y).bind fun (l,h,s,p)=>match l,h,s with
 | none,none,some k=>some (x,k,p,q)
 | _,_,_=>none
theorem VI {e x k:Expr}{p q:Pos}(hh:VH e=some (x,k,p,q)):e=.Subscript x (.Slice none none (some k) p) q:=by
 unfold VH at hh
 cases e1:jr e with
 | none=>rw[e1] at hh; cases hh
 | some z=>
  obtain⟨x',y,q'⟩:=z
  cases e2:wU y with
  | none=>simp[e1,e2] at hh
  | some z=>
   obtain⟨l,h,s,p'⟩:=z
   simp only[e1,e2,Option.bind_some] at hh
   split at hh
   ·cases hh
    rw[qp e1,wV e2]
   ·cases hh
noncomputable def yq (e:Expr):Option (Expr×Option Expr×Option Expr×Pos×Pos):=(jr e).bind fun (x,y,q)=>(wU y).bind fun (l,h,s,p)=>match s with
 | none=>some (x,l,h,p,q)
 | some _=>none
theorem wT {e x:Expr}{l h:Option Expr}{p q:Pos}(hh:yq e=some (x,l,h,p,q)):e=.Subscript x (.Slice l h none p) q:=by
 unfold yq at hh
 cases e1:jr e with
 | none=>rw[e1] at hh; cases hh
 | some z=>
  obtain⟨x',y,q'⟩:=z
  cases e2:wU y with
  | none=>simp[e1,e2] at hh
  | some z=>
   obtain⟨l',h',s,p'⟩:=z
   cases s with
   | some _=>simp[e1,e2] at hh
   | none=>
    simp[e1,e2] at hh
    obtain⟨rfl,rfl,rfl,rfl,rfl⟩:=hh
    rw[qp e1,wV e2]
noncomputable def zec (e:Expr):Option (Expr×Expr×Expr×List Expr×Scope×Pos):=(yt e).bind fun (elt,gens,scope,p)=>(j7 gens).bind fun g=>if g.is_async=0 then some (elt,g.target,g.iter,g.ifs,scope,p) else none
theorem K3 {e elt tg iter:Expr}{ifs:List Expr}{scope:Scope}{p:Pos}(h:zec e=some (elt,tg,iter,ifs,scope,p)):e=.ListComp elt [⟨tg,iter,ifs,0⟩] scope p:=by
 unfold zec at h
 cases e1:yt e with
 | none=>rw[e1] at h; cases h
 | some z=>
  obtain⟨a1,a2,a3,a4⟩:=z
  cases e2:j7 a2 with
  | none=>simp[e1,e2] at h
  | some g=>
   obtain⟨g1,g2,g3,g4⟩:=g
   by_cases hz:g4=0
   ·subst hz
    simp[e1,e2] at h
    obtain⟨rfl,rfl,rfl,rfl,rfl,rfl⟩:=h
    rw[Yv e1,zZ e2]
   ·simp[e1,e2,hz] at h
noncomputable def ym (op:BoolOp) (e:Expr):Option (Expr×Expr):=(zbQ e).bind fun (o,vs,p)=>if o=op then (match vs with
 | x::y:: []=>some (x,y)
 | x::y::z::r=>some (x,.BoolOp op (y::z::r) p)
 | _=>none) else none
theorem wN {op:BoolOp}{e x z:Expr}(h:ym op e=some (x,z)):(∃ p,e=.BoolOp op [x,z] p)∨∃ y w r p,e=.BoolOp op (x::y::w::r) p/\z=.BoolOp op (y::w::r) p:=by
 unfold ym at h
 cases e1:zbQ e with
 | none=>rw[e1] at h; cases h
 | some q=>
  obtain⟨o,vs,p⟩:=q
  rw[KZ e1]
  by_cases ho:o=op
  ·subst ho
   match vs with
   | []=>simp[e1] at h
   | [_]=>simp[e1] at h
   | [a,b]=>
    simp[e1] at h
    obtain⟨rfl,rfl⟩:=h
    exact .inl ⟨p,rfl⟩
   | a::b::c::r=>
    simp[e1] at h
    obtain⟨rfl,rfl⟩:=h
    exact .inr ⟨b,c,r,p,rfl,rfl⟩
  ·simp[e1,ho] at h
mutual
noncomputable def J2 (sc:Scope) (N:List Str) (mp:List Nat) (lo:Nat):IT->Expr->Bool
 | .nm s i,.Name x _=>decide (N[s]?=some x)&&decide (mp[s]?=some i)&&decide (lo<=i)&&(decide (sc.names.lookup x=some .local)||decide (sc.names.lookup x=some .cell))
 | .tp ts,.Tuple es _ _=>wA sc N mp lo ts es
 | _,_=>false
noncomputable def wA (sc:Scope) (N:List Str) (mp:List Nat) (lo:Nat):ITs->List Expr->Bool
 | .nil,[]=>true
 | .cons t ts,e::es=>zq e&&J2 sc N mp lo t e&&wA sc N mp lo ts es
 | _,_=>false
end
noncomputable def Vv:Expr->Bool
 | .Name .. =>true
 | .Subscript .. =>true
 | .Attribute .. =>true
 | .Call (.Attribute ..) .. =>true
 | _=>false
theorem Wc {o:Expr}{nm:Str}{env:Env}(h:Vv o=true):attributeBase o nm env (eval o env)=eval o env:=by
 cases o <;> first | rfl | (simp[Vv] at h; done) | skip
 rename_i f xs ks q
 cases f <;> first | rfl | (simp[Vv] at h)
noncomputable def zbS:Expr->Option (List (Option Expr)×List Expr×Pos)
 | .Dict ks vs p=>some (ks,vs,p)
 | _=>none
theorem vQ {e:Expr}{ks:List (Option Expr)}{vs:List Expr}{p:Pos}(h:zbS e=some (ks,vs,p)):e=.Dict ks vs p:=by
 unfold zbS at h
 split at h
 ·cases h; rfl
 ·cases h
noncomputable def yr:Expr->Option (Expr×Expr×List Comprehension×Scope×Pos)
 | .DictComp k v gens scope p=>some (k,v,gens,scope,p)
 | _=>none
theorem Yt {e k v:Expr}{gens:List Comprehension}{scope:Scope}{p:Pos}(h:yr e=some (k,v,gens,scope,p)):e=.DictComp k v gens scope p:=by
 unfold yr at h
 split at h
 ·cases h; rfl
 ·cases h
noncomputable def zea (e:Expr):Option (Expr×Expr×Expr×Expr×List Expr×Scope×Pos):=(yr e).bind fun (k,v,gens,scope,p)=>(j7 gens).bind fun g=>if g.is_async=0 then some (k,v,g.target,g.iter,g.ifs,scope,p) else none
theorem K0 {e k v tg iter:Expr}{ifs:List Expr}{scope:Scope}{p:Pos}(h:zea e=some (k,v,tg,iter,ifs,scope,p)):e=.DictComp k v [⟨tg,iter,ifs,0⟩] scope p:=by
 unfold zea at h
 cases e1:yr e with
 | none=>rw[e1] at h; cases h
 | some z=>
  obtain⟨a0,a1,a2,a3,a4⟩:=z
  cases e2:j7 a2 with
  | none=>simp[e1,e2] at h
  | some g=>
   obtain⟨g1,g2,g3,g4⟩:=g
   by_cases hz:g4=0
   ·subst hz
    simp[e1,e2] at h
    obtain⟨rfl,rfl,rfl,rfl,rfl,rfl,rfl⟩:=h
    rw[Yt e1,zZ e2]
   ·simp[e1,e2,hz] at h
mutual
noncomputable def IE.chk (W:Wd) (sc:Scope) (N:List Str) (mp:List Nat) (m:Nat):IE->Expr->Bool
 | .var s i,e=>okO (zI e) fun x=>nmB sc N mp s i x.1
 | .frz s i,e=>okO (zI e) fun x=>nmB sc N mp s i x.1
 | .cint i,e=>okO (jq e) fun c=>okO (zcE c.1) fun j=>decide (i=j)
 | .cstr x,e=>okO (jq e) fun c=>okO (YU c.1) fun y=>decide (x=y)
 | .cbool b,e=>okO (jq e) fun c=>okO (V1 c.1) fun y=>decide (b=y)
 | .cnone,e=>okO (jq e) fun c=>zb7 c.1
 | .gint x i,e=>okO (zI e) fun y=>decide (x=y.1)&&Wo sc x&&W.gi.contains (x,i)&& !(x==("__debug__" :Str))
 | .tup a,e=>okO (wW e) fun es=>a.chk W sc N mp m es.1
 | .new n,e=>Qx e&&n.chk W sc N mp m e
 | .bin op a b,e=>okO (yo e) fun z=>decide (op=z.2.1)&&a.chk W sc N mp m z.1&&b.chk W sc N mp m z.2.2.1
 | .cmp op a b,e=>okO (yp e) fun z=>okO (j7 z.2.1) fun op'=>okO (j7 z.2.2.1) fun y=>decide (op=op')&&qU y&&a.chk W sc N mp m z.1&&b.chk W sc N mp m y
 | .chain op1 op2 a b c,e=>okO (yp e) fun z=>okO (WH z.2.1) fun o=>okO (WH z.2.2.1) fun y=>decide (op1=o.1)&&decide (op2=o.2)&&qU y.2&&a.chk W sc N mp m z.1&&b.chk W sc N mp m y.1&&c.chk W sc N mp m y.2
 | .not a,e=>okO (zbU e) fun z=>decide (z.1=.Not)&&a.chk W sc N mp m z.2.1
 | .neg a,e=>okO (zbU e) fun z=>decide (z.1=.USub)&&a.chk W sc N mp m z.2.1
 | .and a b,e=>okO (ym .And e) fun z=>a.chk W sc N mp m z.1&&b.chk W sc N mp m z.2
 | .or a b,e=>okO (ym .Or e) fun z=>a.chk W sc N mp m z.1&&b.chk W sc N mp m z.2
 | .ite c a b,e=>okO (K2 e) fun z=>c.chk W sc N mp m z.1&&a.chk W sc N mp m z.2.1&&b.chk W sc N mp m z.2.2.1
 | .ix a b,e=>okO (jr e) fun z=>qt z.2.1&&a.chk W sc N mp m z.1&&b.chk W sc N mp m z.2.1
 | .len a,e=>match un1 e with
  | some (f,_,x,_)=>biB W sc f "len" &&zq x&&a.chk W sc N mp m x
  | none=>false
 | .int a,e=>match un1 e with
  | some (f,_,x,_)=>biB W sc f "int" &&zq x&&a.chk W sc N mp m x
  | none=>false
 | .all a,e=>match un1 e with
  | some (f,_,x,_)=>biB W sc f "all" &&zq x&&a.chk W sc N mp m x
  | none=>false
 | .any a,e=>match un1 e with
  | some (f,_,x,_)=>biB W sc f "any" &&zq x&&a.chk W sc N mp m x
  | none=>false
 | .tuple a,e=>match un1 e with
  | some (f,_,x,_)=>biB W sc f "tuple" &&zq x&&a.chk W sc N mp m x
  | none=>false
 | .isi T a,e=>match un2 e with
  | some (f,_,x,y,_)=>biB W sc f "isinstance" &&zq x&&(T== "int" ||T== "bool" ||T== "list" ||T== "tuple" ||T== "str")&&okO (zI y) (fun z=>biB W sc z.1 (Str.ofString T))&&a.chk W sc N mp m x
  | none=>false
 | .min a b,e=>match un2 e with
  | some (f,_,x,y,_)=>biB W sc f "min" &&zq x&&zq y&&a.chk W sc N mp m x&&b.chk W sc N mp m y
  | none=>false
 | .max a b,e=>match un2 e with
  | some (f,_,x,y,_)=>biB W sc f "max" &&zq x&&zq y&&a.chk W sc N mp m x&&b.chk W sc N mp m y
  | none=>false
 | .cutT a lo hi,e=>match yq e with
  | some (x,l,h,_,_)=>a.chk W sc N mp m x&&lo.chk W sc N mp m l&&hi.chk W sc N mp m h
  | none=>false
 | .call o,e=>Qx e&&o.chk W sc N mp m e
 | .lookT a,e=>a.chk W sc N mp m e
 | .lset a,e=>match un1 e with
  | some (f,_,x,_)=>match un1 x with
   | some (g,_,y,_)=>biB W sc f "len" &&biB W sc g "set" &&zq y&&a.chk W sc N mp m y
   | none=>false
  | none=>false
 | .newD n,e=>n.chk W sc N mp m e
noncomputable def IL.chk (W:Wd) (sc:Scope) (N:List Str) (mp:List Nat) (m:Nat):IL->List Expr->Bool
 | .nil,[]=>true
 | .cons e a,x::xs=>zq x&&e.chk W sc N mp m x&&a.chk W sc N mp m xs
 | _,_=>false
noncomputable def IA.chk (W:Wd) (sc:Scope) (N:List Str) (mp:List Nat) (m:Nat):IA->List Expr->Bool
 | .nil,[]=>true
 | .cons e a,x::xs=>zq x&&e.chk W sc N mp m x&&a.chk W sc N mp m xs
 | .io s i a,x::xs=>okO (zI x) (fun z=>nmB sc N mp s i z.1)&&a.chk W sc N mp m xs
 | .tmp n,[x]=>zq x&&n.chk W sc N mp m x
 | _,_=>false
noncomputable def IN.chk (W:Wd) (sc:Scope) (N:List Str) (mp:List Nat) (m:Nat):IN->Expr->Bool
 | .lst a,e=>okO (K4 e) fun z=>a.chk W sc N mp m z.1
 | .cut e lo hi,z=>okO (yq z) fun z=>e.chk W sc N mp m z.1&&lo.chk W sc N mp m z.2.1&&hi.chk W sc N mp m z.2.2.1
 | .back e k,z=>okO (VH z) fun z=>e.chk W sc N mp m z.1&&k.chk W sc N mp m z.2.1
 | .cat a b,e=>okO (yo e) fun z=>decide (z.2.1=.Add)&&a.chk W sc N mp m z.1&&b.chk W sc N mp m z.2.2.1
 | .list e,y=>match un1 y with
  | some (f,_,x,_)=>biB W sc f "list" &&zq x&&e.chk W sc N mp m x
  | none=>false
 | .comp n k ix N' t src c el,e=>match zec e with
  | some (elt,tg,iter,ifs,scope,_)=>decide (n=m)&&V4 sc N scope N' k ix&&decide (mpC mp n k ix).Nodup&&ix.all (fun i=>match mp[i]? with
   | some j=>decide (j<n)
   | none=>false)&&qU iter&&src.chk W sc N mp m iter tg&&J2 scope N' (mpC mp n k ix) n t tg&&c.chk W scope N' (mpC mp n k ix) (n+k) ifs&&el.chk W scope N' (mpC mp n k ix) (n+k) elt
  | none=>false
 | .lrng a,e=>match un1 e with
  | some (f,_,x,_)=>match un1 x with
   | some (g,_,y,_)=>biB W sc f "list" &&biB W sc g "range" &&zq y&&a.chk W sc N mp m y
   | none=>false
  | none=>false
noncomputable def IP.chk (W:Wd) (sc:Scope) (N:List Str) (mp:List Nat) (m:Nat):IP->Option Expr->Bool
 | .non,none=>true
 | .one e,some x=>e.chk W sc N mp m x
 | _,_=>false
noncomputable def II.chk (W:Wd) (sc:Scope) (N:List Str) (mp:List Nat) (m:Nat):II->Expr->Expr->Bool
 | .list e,x,_=>e.chk W sc N mp m x
 | .tup e,x,_=>e.chk W sc N mp m x
 | .range e,y,_=>match un1 y with
  | some (f,_,x,_)=>biB W sc f "range" &&zq x&&e.chk W sc N mp m x
  | none=>false
 | .enum e,y,tg=>match un1 y with
  | some (f,_,x,_)=>kA tg&&biB W sc f "enumerate" &&zq x&&e.chk W sc N mp m x
  | none=>false
noncomputable def IC.chk (W:Wd) (sc:Scope) (N:List Str) (mp:List Nat) (m:Nat):IC->List Expr->Bool
 | .yes,[]=>true
 | .one e,[x]=>e.chk W sc N mp m x
 | _,_=>false
noncomputable def IO.chk (W:Wd) (sc:Scope) (N:List Str) (mp:List Nat) (m:Nat):IO->Expr->Bool
 | .dat e,x=>e.chk W sc N mp m x
 | .own n,x=>n.chk W sc N mp m x
 | .call f n a,e=>match unN e with
  | some (g,_,xs,_)=>decide (f=g)&&Wo sc f&&W.fl.contains (f,n)&& !(f==("__debug__" :Str))&&xs.all zq&&a.chk W sc N mp m xs
  | none=>false
 | .move s i,e=>okO (zI e) fun x=>nmB sc N mp s i x.1
 | .pair a o,e=>okO (wW e) fun z=>okO (WH z.1) fun x=>zq x.1&&zq x.2&&a.chk W sc N mp m x.1&&o.chk W sc N mp m x.2
 | .pair2 n a b,e=>okO (wW e) fun z=>okO (WH z.1) fun x=>mp.all (fun i=>decide (i<n))&&zq x.1&&zq x.2&&a.chk W sc N mp m x.1&&b.chk W sc N mp m x.2
 | .ownD n,e=>n.chk W sc N mp m e
noncomputable def IJ.chk (W:Wd) (sc:Scope) (N:List Str) (mp:List Nat) (m:Nat):IJ->List Expr->Bool
 | .nil,[]=>true
 | _,_=>false
noncomputable def IM.chk (W:Wd) (sc:Scope) (N:List Str) (mp:List Nat) (m:Nat):IM->Expr->Bool
 | .nil,e=>okO (zbS e) fun z=>z.1.isEmpty&&z.2.1.isEmpty
 | .one a b,e=>okO (zbS e) fun z=>okO (j7 z.1) fun k=>okO k fun x=>okO (j7 z.2.1) fun y=>a.chk W sc N mp m x&&b.chk W sc N mp m y
 | .comp n k ix N' t src c ek ev,e=>match zea e with
  | some (kx,vx,tg,iter,ifs,scope,_)=>decide (n=m)&&V4 sc N scope N' k ix&&decide (mpC mp n k ix).Nodup&&ix.all (fun i=>match mp[i]? with
   | some j=>decide (j<n)
   | none=>false)&&qU iter&&src.chk W sc N mp m iter tg&&J2 scope N' (mpC mp n k ix) n t tg&&c.chk W scope N' (mpC mp n k ix) (n+k) ifs&&ek.chk W scope N' (mpC mp n k ix) (n+k) kx&&ev.chk W scope N' (mpC mp n k ix) (n+k) vx
  | none=>false
noncomputable def IG.chk (W:Wd) (sc:Scope) (N:List Str) (mp:List Nat) (m:Nat):IG->Expr->Expr->Bool
 | .std src,x,tg=>src.chk W sc N mp m x tg
end
end L3
set_option maxHeartbeats 4000000
namespace L3
open PySem PySem.Spec PyProof.Rows L2
variable [Cs]
structure XSc (X:Cx) (sc:Scope) (N:List Str):Prop where
 hN:X.N=N
 vis:∀ x,zab sc x=true->Vis X.env.scope x
 loc:∀ x,sc.names.lookup x=some .local->X.env.scope.names.lookup x=some .local
 cel:∀ x,sc.names.lookup x=some .cell->X.env.scope.names.lookup x=some .cell/\X.fn x=true
 fre:∀ x,sc.names.lookup x=some .free->X.env.scope.names.lookup x=some .cell∨X.env.scope.names.lookup x=some .free
 glo:∀ x,Wo sc x=true->Gl X x
structure XW (X:Cx) (XP:XPT) (cf:CF) (W:Wd) (k:Nat):Prop where
 bi:∀ x,W.bi.contains x=true->X.mg x=none
 gi:∀ x i,W.gi.contains (x,i)=true->∃ t,X.mg x=some (.int i t)
 gs:∀ x i,W.gs.contains (x,i)=true->∃ t,X.mg x=some (.str i t)
 fn:∀ x n,W.fl.contains (x,n)=true->Kn X.prog X.w X.K X.mg X.base (CX1 X.prog X.w) x k (spX X.mg n (cf x))/\∀ args,cf x args≠ .bad->args.length=n
 rm:Room k X.A
 hk:1<=k
 calm:X.calm=true
 ex:∀ x,W.ex.contains x=true->∃ C,X.mg x=some (.ref C)/\PySem.W.excIn X.K C bmV "ValueError.__new__" =true
 mr:∀ x C y C2,W.ex.contains x=true->X.mg x=some (.ref C)->W.ex.contains y=true->X.mg y=some (.ref C2)->(mroIn X.K C).contains (.ref C2)=decide (x=y)
 gd:∀ x kf,W.gd.contains (x,kf)=true->GD X.w X.K X.mg x kf
 fk:∀ c f,W.fk.contains (c,f)=true->FldK X c f
 mc:∀ c q n,W.mc.contains (c,q,n)=true->X.mg c=some (.ref (Cs.adr c))/\(∃ j,j+1<=k/\KnI X.prog X.w X.K X.mg X.base (CX1 X.prog X.w) (Cs.adr c) j (spX X.mg n (cf q)))/\∀ args,cf q args≠ .bad->args.length=n
 ml:∀ c m q n,W.ml.contains (c,m,q,n)=true->KnM X.prog X.w X.K X.mg X.base (CX1 X.prog X.w) (Cs.adr c) m k (spX X.mg n (cf q))/\∀ args,cf q args≠ .bad->args.length=n
 px:WR X XP
theorem zt {e:Expr}{es:List Expr}{env:Env}(h:zq e=true):starEach (e::es) env=(false,eval e env)::starEach es env:=by
 cases e <;> first | rfl | (simp[zq] at h)
theorem vH {es:List Expr}{env:Env}:es.all zq=true->(starEach es env).any (·.1)=false:=by
 induction es with
 | nil=>intro; rfl
 | cons e es ih=>
  intro h
  rw[List.all_cons,Bool.and_eq_true] at h
  rw[zt h.1,List.any_cons,ih h.2]; rfl
theorem Zd {pos:Pos}:∀ {l:List (Bool×Sem Value)},l.any (·.1)=false->(backTo pos l).any (·.1)=false
 | [],_=>rfl
 | (b,t)::r,h=>by
  rw[List.any_cons,Bool.or_eq_false_iff] at h
  show ((b,_)::backTo pos r).any (·.1)=false
  rw[List.any_cons,Zd h.2]
  have hb:b=false:=h.1
  rw[hb]; rfl
theorem Vu {e:Expr}(h:qt e=true):w6 e:=fun o i=>by
 cases e <;> first | rfl | (simp[qt] at h)
theorem jd {e:Expr}{env:Env}(h:qU e=true) (x:Value):foldedSetIterable e env x=pure x:=by
 cases e <;> first | rfl | (simp[qU] at h)
theorem Jz {e:Expr}(op:CmpOp) (h:qU e=true):behindInMarks op e=false:=by
 cases e <;> first | rfl | (simp[qU] at h)
theorem wI {e b:Expr}(op op':CmpOp) (h:qU e=true):lastMarks [op,op'] [b,e]=false:=Jz op' h
theorem j9 {x y:Str}(h:(!(x==y))=true):(x==y)=false:=by simpa using h
section
variable {X:Cx} {XP:XPT} {cf:CF} {W:Wd} {k:Nat} {sc:Scope} {N:List Str} {mp:List Nat} {m:Nat}
theorem JA {s i:Nat}{x:Str}(S:XSc X sc N) (h:nmB sc N mp s i x=true):NmK X mp s i x:=by
 unfold nmB at h
 simp only[Bool.and_eq_true,decide_eq_true_eq] at h
 obtain⟨⟨⟨⟨h1,h2⟩,h3⟩,h4⟩,h5⟩:=h
 exact⟨by rw[S.hN]; exact h1,S.vis x h2,h3,j9 h4,j9 h5⟩
theorem qf {x y:Str}{v:Value}(S:XSc X sc N) (T:XW X XP cf W k) (h:biB W sc x y=true) (hb:bootBuiltins y=some v) (hn:y≠ "__name__") (hd:(y==("__debug__" :Str))=false):BiK X x v:=by
 unfold biB at h
 simp only[Bool.and_eq_true,decide_eq_true_eq] at h
 obtain⟨⟨h1,h2⟩,h3⟩:=h
 subst h1
 exact⟨S.glo x h2,T.bi x h3,hb,hn,hd⟩
theorem QZ {f:Str->NameKind->NameKind}:∀ {names:List (Str×NameKind)}{x:Str},(names.map fun (n,k)=>(n,f n k)).lookup x=(names.lookup x).map (f x)
 | [],_=>rfl
 | (n,k)::r,x=>by
  rw[List.map_cons]
  cases hx:x==n with
  | true=>rw[List.lookup_cons,List.lookup_cons,hx]; rw[eq_of_beq hx]; rfl
  | false=>rw[List.lookup_cons,List.lookup_cons,hx]; exact QZ
theorem qi {scope:Scope}{env:Env}{x:Str}:(relabel scope env).names.lookup x=(scope.names.lookup x).map fun k=>if (k==.free&&env.scope.kind==ScopeKind.function&&env.kindOf x==some NameKind.cell) then .cell else k:=by
 unfold relabel
 have e:(scope.names.map fun (n,k)=>if (k==NameKind.free&&env.scope.kind==ScopeKind.function&&env.kindOf n==some NameKind.cell) then (n,NameKind.cell) else (n,k)) =
   scope.names.map fun (n,k)=>(n,(fun n k=>if (k==NameKind.free&&env.scope.kind==ScopeKind.function&&env.kindOf n==some NameKind.cell) then NameKind.cell else k) n k):=by
  apply List.map_congr_left
  rintro⟨n,k⟩ _
  dsimp only
  split <;> rfl
 rw[e]
 exact QZ (f:=fun n k=>if (k==NameKind.free&&env.scope.kind==ScopeKind.function&&env.kindOf n==some NameKind.cell) then NameKind.cell else k)
theorem XSc.comp {scope:Scope}{N':List Str}{k:Nat}{ix:List Nat}{psc:Scope}(S:CSc psc N scope N' k ix) (cl:List (Str×Addr)) (C:Addr) (s2:Shared) (H2:Hp) (fp:List Addr):XSc (X.comp N' scope cl C s2 H2 fp) scope N' where
 hN:=rfl
 vis x h:=by
  unfold zab at h
  simp only[Bool.or_eq_true,decide_eq_true_eq] at h
  show Vis (relabel scope X.env) x
  unfold Vis
  rw[qi]
  rcases h with (h | h) | h
  ·rw[h]; exact .inl rfl
  ·rw[h]; exact .inr (.inl rfl)
  ·rw[h]
   simp only[Option.map_some]
   split
   ·exact .inr (.inl rfl)
   ·exact .inr (.inr rfl)
 loc x h:=by
  show (relabel scope X.env).names.lookup x=_
  rw[qi,h]; rfl
 cel x h:=by
  refine⟨?_,decide_eq_true h⟩
  show (relabel scope X.env).names.lookup x=_
  rw[qi,h]; rfl
 fre x h:=by
  show (relabel scope X.env).names.lookup x=_∨(relabel scope X.env).names.lookup x=_
  rw[qi,h]
  simp only[Option.map_some]
  split
  ·exact .inl rfl
  ·exact .inr rfl
 glo x h:=by
  unfold Wo at h
  simp only[decide_eq_true_eq] at h
  show (relabel scope X.env).names.lookup x=_
  rw[qi,h]; rfl
theorem XW.comp (T:XW X XP cf W k){N':List Str}{scope:Scope}(cl:List (Str×Addr)) (C:Addr) (s2:Shared) (H2:Hp) (fp:List Addr):XW (X.comp N' scope cl C s2 H2 fp) XP0 cf W k:=⟨T.bi,T.gi,T.gs,T.fn,T.rm,T.hk,T.calm,T.ex,T.mr,T.gd,fun c f h=>⟨(T.fk c f h).cl,(T.fk c f h).no⟩,T.mc,T.ml,yg⟩
theorem YW {scope:Scope}{N':List Str}{k:Nat}{ix:List Nat}(S:XSc X sc N) (h:CSc sc N scope N' k ix):CSc X.env.scope X.N scope N' k ix :=
 ⟨h.kind,h.cel,h.loc,fun y hy e=>by
  rcases h.fre y hy e with z | z
  ·exact .inl (S.cel _ z).1
  ·exact S.fre _ z,h.len,h.nd,fun j i e=>by
  rw[S.hN]; exact h.cap j i e⟩
theorem Room.at1 (T:XW X XP cf W k):Room 1 X.A:=T.rm.mono T.hk
theorem Room.atk (T:XW X XP cf W k):Room k X.A:=T.rm
theorem v5 {es:List Expr}{env:Env}:(assignEach es env).length=es.length:=by
 induction es with
 | nil=>rfl
 | cons e es ih=>cases e <;> simp[assignEach,ih]
theorem QT {e:Expr}{es:List Expr}{env:Env}(h:zq e=true):assignEach (e::es) env=(false,assign e env)::assignEach es env:=by
 cases e <;> first | rfl | (simp[zq] at h)
mutual
theorem ZJ {kp:Nat->Prop}{lo:Nat}(S:XSc X sc N) (hN:N.Nodup) (hn:mp.Nodup) (hc:X.calm=true) (hk:∀ i,lo<=i->¬ kp i):∀ (t:IT) (e:Expr),J2 sc N mp lo t e=true->SG X mp kp e t
  | .nm s i,e,h=>by
   cases e with
   | Name x p=>
    simp only[J2,Bool.and_eq_true,Bool.or_eq_true,decide_eq_true_eq] at h
    obtain⟨⟨⟨h1,h2⟩,h3⟩,h4⟩:=h
    refine zbt (by rw[S.hN]; exact hN) hn (by rw[S.hN]; exact h1) h2 (hk i h3) ?_ ?_
    · rcases h4 with h4 | h4
      · exact .inl (S.loc x h4)
      · exact .inr (S.cel x h4).1
    · rcases h4 with h4 | h4
      · exact .inr (S.loc x h4)
      · exact .inl (S.cel x h4).2
   | _=>simp[J2] at h
  | .tp ts,e,h=>by
   cases e with
   | Tuple es n p=>
    simp only[J2] at h
    obtain⟨h1,h2,h3⟩:=vG S hN hn hc hk ts es h
    exact zdN hc h1 (by rw[v5]; exact h2) h3
   | _=>simp[J2] at h
theorem vG {kp:Nat->Prop}{lo:Nat}(S:XSc X sc N) (hN:N.Nodup) (hn:mp.Nodup) (hc:X.calm=true) (hk:∀ i,lo<=i->¬ kp i):∀ (ts:ITs) (es:List Expr),wA sc N mp lo ts es=true->SGs X mp kp es ts/\ts.len=es.length/\(assignEach es X.env).findIdx? (·.1)=none
  | .nil,[],h=>⟨zbu,rfl,rfl⟩
  | .cons t ts,e::es,h=>by
    simp only[wA,Bool.and_eq_true] at h
    obtain⟨⟨h1,h2⟩,h3⟩:=h
    have ih1:=ZJ S hN hn hc hk t e h2
    obtain⟨i1,i2,i3⟩:=vG S hN hn hc hk ts es h3
    refine⟨KB ih1 i1 (by rw[QT h1]; rfl),by rw[ITs.len,i2]; rfl,?_⟩
    rw[QT h1,List.findIdx?_cons]
    simp[i3]
  | .nil,_::_,h=>by simp[wA] at h
  | .cons ..,[],h=>by simp[wA] at h
end
noncomputable def YE (X:Cx) (XP:XPT) (mp:List Nat) (e:Expr) (f:EM (List PyData)):Prop:=∀ elt gens scope pos,e=.ListComp elt gens scope pos->∃ tg iter ifs N' k ix,gens= [⟨tg,iter,ifs,0⟩]/\CSc X.env.scope X.N scope N' k ix/\(∀ x,foldedSetIterable iter X.env x=pure x) /\
 SNt XP mp (wM k ix (wpI X tg iter) (gU X N' scope tg) (fU X N' scope ifs) (eU X N' scope elt)) f
theorem Qw {X:Cx}{XP:XPT}{mp:List Nat}{e:Expr}{f:EM (List PyData)}(h:∀ elt gens scope pos,e≠ .ListComp elt gens scope pos):YE X XP mp e f:=fun a b c d q=>absurd q (h a b c d)
theorem Yi {e:Expr}{env:Env}(h:Qx e=true) (whole:Sem Value):isTrue e env whole=(do let v<-whole; standAt e.pos; holding [v] (truthy v)):=by
 cases e <;> first | rfl | (simp[Qx] at h; done) | skip
 rename_i op x p
 cases op <;> first | rfl | (simp[Qx] at h)
theorem qj {X:Cx}{XP:XPT}{mp:List Nat}{e:Expr}{fa:EM FV}(h:SE X XP mp e fa) (hp:Qx e=true):SE X XP mp e fa/\ST X XP mp e (fTru fa):=⟨h,KL h (Yi hp)⟩
theorem vJ {X:Cx}{XP:XPT}{mp:List Nat}{op:BoolOp}{vs:List Expr}{p:Pos}{t:EM Bool}(h:ST X XP mp (.BoolOp op vs p) t):SW X XP mp (.BoolOp op vs p) t:=fun M0 F Γ ν σ H Q rs hs hp whole pins s I=>h M0 F Γ ν σ H Q rs hs hp pins s I
theorem QU:bootBuiltins "range" =some (.type "range"):=by decide +kernel
theorem wm:bootBuiltins "len" =some (.builtin "len"):=by decide +kernel
theorem yH:bootBuiltins "min" =some (.builtin "min"):=by decide +kernel
theorem yG:bootBuiltins "max" =some (.builtin "max"):=by decide +kernel
theorem yI:bootBuiltins "str" =some (.type "str"):=by decide +kernel
theorem yF:bootBuiltins "isinstance" =some (.builtin "isinstance"):=by decide +kernel
noncomputable abbrev QE (cf:CF) (W:Wd) (a:IE):Prop:=∀ (X:Cx) (XP:XPT) (k:Nat) (sc:Scope) (N:List Str) (mp:List Nat) (m:Nat),XSc X sc N->XW X XP cf W k->∀ (e:Expr),a.chk W sc N mp m e=true->SE X XP mp e (a.ev cf).1/\ST X XP mp e (a.ev cf).2
noncomputable abbrev QL (cf:CF) (W:Wd) (a:IL):Prop:=∀ (X:Cx) (XP:XPT) (k:Nat) (sc:Scope) (N:List Str) (mp:List Nat) (m:Nat),XSc X sc N->XW X XP cf W k->∀ (e:List Expr),a.chk W sc N mp m e=true->SL X XP mp e (a.ev cf)
noncomputable abbrev QA (cf:CF) (W:Wd) (a:IA):Prop:=∀ (X:Cx) (XP:XPT) (k:Nat) (sc:Scope) (N:List Str) (mp:List Nat) (m:Nat),XSc X sc N->XW X XP cf W k->∀ (e:List Expr),a.chk W sc N mp m e=true->SA X XP mp e (a.ev cf)
noncomputable abbrev QN (cf:CF) (W:Wd) (a:IN):Prop:=∀ (X:Cx) (XP:XPT) (k:Nat) (sc:Scope) (N:List Str) (mp:List Nat) (m:Nat),XSc X sc N->XW X XP cf W k->∀ (e:Expr),a.chk W sc N mp m e=true->SN X XP mp e (a.ev cf)/\(a.plain=true->YE X XP mp e (a.ev cf))
noncomputable abbrev QP (cf:CF) (W:Wd) (a:IP):Prop:=∀ (X:Cx) (XP:XPT) (k:Nat) (sc:Scope) (N:List Str) (mp:List Nat) (m:Nat),XSc X sc N->XW X XP cf W k->∀ (e:Option Expr),a.chk W sc N mp m e=true->SOp X XP mp e (a.ev cf)
noncomputable abbrev QI (cf:CF) (W:Wd) (a:II):Prop:=∀ (X:Cx) (XP:XPT) (k:Nat) (sc:Scope) (N:List Str) (mp:List Nat) (m:Nat),XSc X sc N->XW X XP cf W k->∀ (tg e:Expr),a.chk W sc N mp m e tg=true->SI X XP mp tg e (a.ev cf)
noncomputable abbrev QC (cf:CF) (W:Wd) (a:IC):Prop:=∀ (X:Cx) (XP:XPT) (k:Nat) (sc:Scope) (N:List Str) (mp:List Nat) (m:Nat),XSc X sc N->XW X XP cf W k->∀ (e:List Expr),a.chk W sc N mp m e=true->SF X XP mp e (a.ev cf)
noncomputable abbrev QO (cf:CF) (W:Wd) (a:IO):Prop:=∀ (X:Cx) (XP:XPT) (k:Nat) (sc:Scope) (N:List Str) (mp:List Nat) (m:Nat),XSc X sc N->XW X XP cf W k->∀ (e:Expr),a.chk W sc N mp m e=true->SO X XP mp e (a.ev cf)
noncomputable abbrev QJ (cf:CF) (W:Wd) (a:IJ):Prop:=∀ (X:Cx) (XP:XPT) (k:Nat) (sc:Scope) (N:List Str) (mp:List Nat) (m:Nat),XSc X sc N->XW X XP cf W k->∀ (e:List Expr),a.chk W sc N mp m e=true->SJ X XP mp e (a.ev cf)
noncomputable def zaj (X:Cx) (XP:XPT) (mp:List Nat) (e:Expr) (f:EM (List (Str×PyData))):Prop:=∀ kx vx gens scope pos,e=.DictComp kx vx gens scope pos->∃ tg iter ifs N' k ix,gens= [⟨tg,iter,ifs,0⟩]/\CSc X.env.scope X.N scope N' k ix/\(∀ x,foldedSetIterable iter X.env x=pure x) /\
 SDt XP mp (QK k ix (wpI X tg iter) (gU X N' scope tg) (fU X N' scope ifs) (eD X N' scope kx vx)) f
noncomputable abbrev QM (cf:CF) (W:Wd) (a:IM):Prop:=∀ (X:Cx) (XP:XPT) (k:Nat) (sc:Scope) (N:List Str) (mp:List Nat) (m:Nat),XSc X sc N->XW X XP cf W k->∀ (e:Expr),a.chk W sc N mp m e=true->SD X XP mp e (a.ev cf)/\(a.plain=true->zaj X XP mp e (a.ev cf))
noncomputable abbrev QG (cf:CF) (W:Wd) (a:IG):Prop:=∀ (X:Cx) (XP:XPT) (k:Nat) (sc:Scope) (N:List Str) (mp:List Nat) (m:Nat),XSc X sc N->XW X XP cf W k->∀ (tg e:Expr),a.chk W sc N mp m e tg=true->SIw X XP mp tg e (a.ev cf)/\∀ b,a=.std b->SI X XP mp tg e (b.ev cf)
theorem Z7 {cf:CF}{W:Wd}(s i:Nat):QE cf W (.var s i):=by
 intro X XP k sc N mp m S T e g0
 obtain⟨⟨x,p⟩,eu,h⟩:=za g0
 clear g0
 cases zv eu
 have n:=JA S h
 exact qj (zdJ n.hN n.hv n.hm n.hd n.hcd) rfl
theorem ZW {cf:CF}{W:Wd}(s i:Nat):QE cf W (.frz s i):=by
 intro X XP k sc N mp m S T e g0
 obtain⟨⟨x,p⟩,eu,h⟩:=za g0
 clear g0
 cases zv eu
 have n:=JA S h
 exact qj (zdD n.hN n.hv n.hm n.hd n.hcd) rfl
theorem jD {cf:CF}{W:Wd}(i:Int):QE cf W (.cint i):=by
 intro X XP k sc N mp m S T e g0
 obtain⟨⟨c,j,p⟩,eu,h⟩:=za g0
 clear g0
 cases zQ eu
 obtain⟨z,ez,h⟩:=za h
 cases YQ ez
 cases of_decide_eq_true h
 exact qj zdE rfl
theorem jE {cf:CF}{W:Wd}(i:Str):QE cf W (.cstr i):=by
 intro X XP k sc N mp m S T e g0
 obtain⟨⟨c,j,p⟩,eu,h⟩:=za g0
 clear g0
 cases zQ eu
 obtain⟨z,ez,h⟩:=za h
 cases Jm ez
 cases of_decide_eq_true h
 exact qj zdH rfl
theorem qW {cf:CF}{W:Wd}(i:Bool):QE cf W (.cbool i):=by
 intro X XP k sc N mp m S T e g0
 obtain⟨⟨c,j,p⟩,eu,h⟩:=za g0
 clear g0
 cases zQ eu
 obtain⟨z,ez,h⟩:=za h
 cases wu ez
 cases of_decide_eq_true h
 exact qj zbl rfl
theorem qY {cf:CF}{W:Wd}  :QE cf W (.cnone):=by
 intro X XP k sc N mp m S T e g0
 obtain⟨⟨c,j,p⟩,eu,h⟩:=za g0
 clear g0
 cases zQ eu
 cases yJ h
 exact qj zbr rfl
theorem jG {cf:CF}{W:Wd}(x:Str) (i:Int):QE cf W (.gint x i):=by
 intro X XP k sc N mp m S T e g0
 obtain⟨⟨y,p⟩,eu,h⟩:=za g0
 clear g0
 cases zv eu
 simp only[Bool.and_eq_true,decide_eq_true_eq] at h
 obtain⟨⟨⟨h1,h2⟩,h3⟩,h4⟩:=h
 subst h1
 exact qj (zbn (S.glo x h2) (T.gi x i h3) (j9 h4)) rfl
theorem Z6 {cf:CF}{W:Wd}(a:IL) (ih_a:QL cf W a):QE cf W (.tup a):=by
 intro X XP k sc N mp m S T e g0
 obtain⟨⟨es,j,p⟩,eu,h⟩:=za g0
 clear g0
 cases jY eu
 exact qj (zdI (ih_a _ _ _ _ _ _ _ S T es h)) rfl
theorem Z4 {cf:CF}{W:Wd}(n:IN) (ih_n:QN cf W n):QE cf W (.new n):=by
 intro X XP k sc N mp m S T e h
 replace h:=Bool.and_eq_true_iff.mp h
 try simp only[Bool.and_eq_true] at h
 exact qj (SN.se (ih_n _ _ _ _ _ _ _ S T e h.2).1) h.1
theorem ZU {cf:CF}{W:Wd}(op:Operator) (a b:IE) (ih_a:QE cf W a) (ih_b:QE cf W b):QE cf W (.bin op a b):=by
 intro X XP k sc N mp m S T e g0
 obtain⟨⟨x,op',y,p⟩,eu,h⟩:=za g0
 clear g0
 cases wR eu
 simp only[Bool.and_eq_true,decide_eq_true_eq] at h
 obtain⟨⟨h1,h2⟩,h3⟩:=h
 subst h1
 exact qj (zdB (zcB op) (ih_a _ _ _ _ _ _ _ S T x h2).1 (ih_b _ _ _ _ _ _ _ S T y h3).1) rfl
theorem ZV {cf:CF}{W:Wd}(op:CmpOp) (a b:IE) (ih_a:QE cf W a) (ih_b:QE cf W b):QE cf W (.cmp op a b):=by
 intro X XP k sc N mp m S T e g0
 obtain⟨⟨x,ops,ys,p⟩,eu,g1⟩:=za g0
 clear g0
 cases wS eu
 obtain⟨op',eo,h⟩:=za g1
 clear g1
 cases zZ eo
 obtain⟨y,ey,h⟩:=za h
 cases zZ ey
 simp only[Bool.and_eq_true,decide_eq_true_eq] at h
 obtain⟨⟨⟨h1,h2⟩,h3⟩,h4⟩:=h
 subst h1
 have ha:=(ih_a _ XP _ _ _ _ _ S T x h3).1
 have hb:=(ih_b _ XP _ _ _ _ _ S T y h4).1
 exact⟨zdC (Qn (Room.at1 T) op) ha hb (Jz op h2),zd2 (Qn (Room.at1 T) op) ha hb (Jz op h2)⟩
theorem qX {cf:CF}{W:Wd}(op1 op2:CmpOp) (a b c:IE) (ih_a:QE cf W a) (ih_b:QE cf W b) (ih_c:QE cf W c):QE cf W (.chain op1 op2 a b c):=by
 intro X XP k sc N mp m S T e g0
 obtain⟨⟨x,ops,ys,p⟩,eu,g1⟩:=za g0
 clear g0
 cases wS eu
 obtain⟨⟨o1,o2⟩,eo,h⟩:=za g1
 clear g1
 cases qM eo
 obtain⟨⟨y,z⟩,ey,h⟩:=za h
 cases qM ey
 simp only[Bool.and_eq_true,decide_eq_true_eq] at h
 obtain⟨⟨⟨⟨⟨h1,h2⟩,h3⟩,h4⟩,h5⟩,h6⟩:=h
 subst h1 h2
 have ha:=(ih_a _ XP _ _ _ _ _ S T x h4).1
 have hb:=(ih_b _ XP _ _ _ _ _ S T y h5).1
 have hc:=(ih_c _ XP _ _ _ _ _ S T z h6).1
 exact⟨Kv (Qn (Room.at1 T) op1) (Qn (Room.at1 T) op2) ha hb hc (wI op1 op2 h3),KK (Qn (Room.at1 T) op1) (Qn (Room.at1 T) op2) ha hb hc (wI op1 op2 h3)⟩
theorem Z5 {cf:CF}{W:Wd}(a:IE) (ih_a:QE cf W a):QE cf W (.not a):=by
 intro X XP k sc N mp m S T e g0
 obtain⟨⟨op,x,p⟩,eu,h⟩:=za g0
 clear g0
 cases vR eu
 simp only[Bool.and_eq_true,decide_eq_true_eq] at h
 cases h.1
 have hh:=ih_a _ XP _ _ _ _ _ S T x h.2
 exact⟨zdG hh.1,zd3 hh.2⟩
theorem Z3 {cf:CF}{W:Wd}(a:IE) (ih_a:QE cf W a):QE cf W (.neg a):=by
 intro X XP k sc N mp m S T e g0
 obtain⟨⟨op,x,p⟩,eu,h⟩:=za g0
 clear g0
 cases vR eu
 simp only[Bool.and_eq_true,decide_eq_true_eq] at h
 cases h.1
 exact qj (zdF (ih_a _ _ _ _ _ _ _ S T x h.2).1) rfl
theorem ZS {cf:CF}{W:Wd}(a b:IE) (ih_a:QE cf W a) (ih_b:QE cf W b):QE cf W (.and a b):=by
 intro X XP k sc N mp m S T e g0
 obtain⟨⟨x,z⟩,eu,h⟩:=za g0
 clear g0
 rw[Bool.and_eq_true] at h
 have ha:=ih_a _ XP _ _ _ _ _ S T x h.1
 have hb:=ih_b _ XP _ _ _ _ _ S T z h.2
 rcases wN eu with ⟨p,rfl⟩ | ⟨y,w,r,p,rfl,rfl⟩
 ·exact⟨Kt ha.1 (Kw hb.1),(KN ha.2 (zbM hb.2)).st⟩
 ·exact⟨Kt ha.1 hb.1,(KN ha.2 (vJ hb.2)).st⟩
theorem ww {cf:CF}{W:Wd}(a b:IE) (ih_a:QE cf W a) (ih_b:QE cf W b):QE cf W (.or a b):=by
 intro X XP k sc N mp m S T e g0
 obtain⟨⟨x,z⟩,eu,h⟩:=za g0
 clear g0
 rw[Bool.and_eq_true] at h
 have ha:=ih_a _ XP _ _ _ _ _ S T x h.1
 have hb:=ih_b _ XP _ _ _ _ _ S T z h.2
 rcases wN eu with ⟨p,rfl⟩ | ⟨y,w,r,p,rfl,rfl⟩
 ·exact⟨zcl ha.1 (Kw hb.1),(zcq ha.2 (zbN hb.2)).st⟩
 ·exact⟨zcl ha.1 hb.1,(zcq ha.2 (vJ hb.2)).st⟩
theorem ZZ {cf:CF}{W:Wd}(c a b:IE) (ih_c:QE cf W c) (ih_a:QE cf W a) (ih_b:QE cf W b):QE cf W (.ite c a b):=by
 intro X XP k sc N mp m S T e g0
 obtain⟨⟨z,x,y,p⟩,eu,h⟩:=za g0
 clear g0
 cases Yu eu
 simp only[Bool.and_eq_true] at h
 obtain⟨⟨h1,h2⟩,h3⟩:=h
 exact⟨zeZ (ih_c _ _ _ _ _ _ _ S T z h1).2 (ih_a _ _ _ _ _ _ _ S T x h2).1 (ih_b _ _ _ _ _ _ _ S T y h3).1,fun M0 F Γ ν σ H Q rs hs hp=>hp.elim⟩
theorem wv {cf:CF}{W:Wd}(a b:IE) (ih_a:QE cf W a) (ih_b:QE cf W b):QE cf W (.ix a b):=by
 intro X XP k sc N mp m S T e g0
 obtain⟨⟨x,y,p⟩,eu,h⟩:=za g0
 clear g0
 cases qp eu
 simp only[Bool.and_eq_true] at h
 obtain⟨⟨h1,h2⟩,h3⟩:=h
 exact qj (ze0 (ih_a _ _ _ _ _ _ _ S T x h2).1 (ih_b _ _ _ _ _ _ _ S T y h3).1 (Vu h1)) rfl
theorem Z0 {cf:CF}{W:Wd}(a:IE) (ih_a:QE cf W a):QE cf W (.len a):=by
 intro X XP k sc N mp m S T e h
 conv at h=>lhs; whnf
 split at h
 ·rename_i f p x q eu
  cases z6 eu
  simp only[Bool.and_eq_true] at h
  obtain⟨⟨h1,h2⟩,h3⟩:=h
  exact qj (Ku zcS (qf S T h1 wm (by decide) (by decide)) (ih_a _ _ _ _ _ _ _ S T x h3).1 (zt h2)) rfl
 ·cases h
theorem ZX {cf:CF}{W:Wd}(a:IE) (ih_a:QE cf W a):QE cf W (.int a):=by
 intro X XP k sc N mp m S T e h
 conv at h=>lhs; whnf
 split at h
 ·rename_i f p x q eu
  cases z6 eu
  simp only[Bool.and_eq_true] at h
  obtain⟨⟨h1,h2⟩,h3⟩:=h
  exact qj (ze1 zcR (qf S T h1 wj (by decide) (by decide)) (ih_a _ _ _ _ _ _ _ S T x h3).1 (zt h2)) rfl
 ·cases h
theorem ZR {cf:CF}{W:Wd}(a:IE) (ih_a:QE cf W a):QE cf W (.all a):=by
 intro X XP k sc N mp m S T e h
 conv at h=>lhs; whnf
 split at h
 ·rename_i f p x q eu
  cases z6 eu
  simp only[Bool.and_eq_true] at h
  obtain⟨⟨h1,h2⟩,h3⟩:=h
  exact qj (Ku (zcP T.calm) (qf S T h1 yD (by decide) (by decide)) (ih_a _ _ _ _ _ _ _ S T x h3).1 (zt h2)) rfl
 ·cases h
theorem ZT {cf:CF}{W:Wd}(a:IE) (ih_a:QE cf W a):QE cf W (.any a):=by
 intro X XP k sc N mp m S T e h
 conv at h=>lhs; whnf
 split at h
 ·rename_i f p x q eu
  cases z6 eu
  simp only[Bool.and_eq_true] at h
  obtain⟨⟨h1,h2⟩,h3⟩:=h
  exact qj (Ku (zcQ T.calm) (qf S T h1 yE (by decide) (by decide)) (ih_a _ _ _ _ _ _ _ S T x h3).1 (zt h2)) rfl
 ·cases h
theorem q8 {cf:CF}{W:Wd}(a:IE) (ih_a:QE cf W a):QE cf W (.tuple a):=by
 intro X XP k sc N mp m S T e h
 conv at h=>lhs; whnf
 split at h
 ·rename_i f p x q eu
  cases z6 eu
  simp only[Bool.and_eq_true] at h
  obtain⟨⟨h1,h2⟩,h3⟩:=h
  exact qj (Kx (qf S T h1 QV (by decide) (by decide)) (ih_a _ _ _ _ _ _ _ S T x h3).1 (zt h2)) rfl
 ·cases h
theorem ZY {cf:CF}{W:Wd}(TT:String) (a:IE) (ih_a:QE cf W a):QE cf W (.isi TT a):=by
 intro X XP k sc N mp m S T e h
 conv at h=>lhs; whnf
 split at h
 ·rename_i f p x y q eu
  cases WI eu
  simp only[Bool.and_eq_true,Bool.or_eq_true,beq_iff_eq] at h
  obtain⟨⟨⟨⟨h1,h2⟩,h3⟩,h4⟩,h5⟩:=h
  obtain⟨⟨y,p2⟩,ey,h4⟩:=za h4
  cases zv ey
  have B:=qf S T h1 yF (by decide) (by decide)
  have ha:=(ih_a _ XP _ _ _ _ _ S T x h5).1
  rcases h3 with (((rfl | rfl) | rfl) | rfl) | rfl
  ·exact qj (JO B (qf S T h4 wj (by decide) (by decide)) ha (zt h2)) rfl
  ·exact qj (JO B (qf S T h4 v8 (by decide) (by decide)) ha (zt h2)) rfl
  ·exact qj (JO B (qf S T h4 jk (by decide) (by decide)) ha (zt h2)) rfl
  ·exact qj (JO B (qf S T h4 QV (by decide) (by decide)) ha (zt h2)) rfl
  ·exact qj (JO B (qf S T h4 yI (by decide) (by decide)) ha (zt h2)) rfl
 ·cases h
theorem Z2 {cf:CF}{W:Wd}(a b:IE) (ih_a:QE cf W a) (ih_b:QE cf W b):QE cf W (.min a b):=by
 intro X XP k sc N mp m S T e h
 conv at h=>lhs; whnf
 split at h
 ·rename_i f p x y q eu
  cases WI eu
  simp only[Bool.and_eq_true] at h
  obtain⟨⟨⟨⟨h1,h2⟩,h3⟩,h4⟩,h5⟩:=h
  exact qj (zbq T.calm (qf S T h1 yH (by decide) (by decide)) (ih_a _ _ _ _ _ _ _ S T x h4).1 (ih_b _ _ _ _ _ _ _ S T y h5).1 (zt h2) (zt h3)) rfl
 ·cases h
theorem Z1 {cf:CF}{W:Wd}(a b:IE) (ih_a:QE cf W a) (ih_b:QE cf W b):QE cf W (.max a b):=by
 intro X XP k sc N mp m S T e h
 conv at h=>lhs; whnf
 split at h
 ·rename_i f p x y q eu
  cases WI eu
  simp only[Bool.and_eq_true] at h
  obtain⟨⟨⟨⟨h1,h2⟩,h3⟩,h4⟩,h5⟩:=h
  exact qj (zbp T.calm (qf S T h1 yG (by decide) (by decide)) (ih_a _ _ _ _ _ _ _ S T x h4).1 (ih_b _ _ _ _ _ _ _ S T y h5).1 (zt h2) (zt h3)) rfl
 ·cases h
theorem jF {cf:CF}{W:Wd}(a:IE) (lo hi:IP) (ih_a:QE cf W a) (ih_lo:QP cf W lo) (ih_hi:QP cf W hi):QE cf W (.cutT a lo hi):=by
 intro X XP k sc N mp m S T e h
 conv at h=>lhs; whnf
 split at h
 ·rename_i x l u p q eu
  cases wT eu
  simp only[Bool.and_eq_true] at h
  obtain⟨⟨h1,h2⟩,h3⟩:=h
  exact qj (zbm (ih_a _ _ _ _ _ _ _ S T x h1).1 (ih_lo _ _ _ _ _ _ _ S T l h2) (ih_hi _ _ _ _ _ _ _ S T u h3)) rfl
 ·cases h
theorem jC {cf:CF}{W:Wd}(o:IO) (ih_o:QO cf W o):QE cf W (.call o):=by
 intro X XP k sc N mp m S T e h
 replace h:=Bool.and_eq_true_iff.mp h
 try simp only[Bool.and_eq_true] at h
 exact qj (ih_o _ _ _ _ _ _ _ S T e h.2).se h.1
theorem Qh {cf:CF}{W:Wd}(a:IL) (ih_a:QL cf W a):QN cf W (.lst a):=by
 intro X XP k sc N mp m S T e g0
 obtain⟨⟨es,p⟩,eu,h⟩:=za g0
 clear g0
 cases Yw eu
 exact⟨zdU (ih_a _ _ _ _ _ _ _ S T es h),fun _=>Qw (fun _ _ _ _ q=>nomatch q)⟩
theorem Qg {cf:CF}{W:Wd}(x:IE) (lo hi:IP) (ih_x:QE cf W x) (ih_lo:QP cf W lo) (ih_hi:QP cf W hi):QN cf W (.cut x lo hi):=by
 intro X XP k sc N mp m S T e g0
 obtain⟨⟨y,l,u,p,q⟩,eu,h⟩:=za g0
 clear g0
 cases wT eu
 simp only[Bool.and_eq_true] at h
 obtain⟨⟨h1,h2⟩,h3⟩:=h
 exact⟨zdT (ih_x _ _ _ _ _ _ _ S T y h1).1 (ih_lo _ _ _ _ _ _ _ S T l h2) (ih_hi _ _ _ _ _ _ _ S T u h3),fun _=>Qw (fun _ _ _ _ q=>nomatch q)⟩
theorem jN {cf:CF}{W:Wd}(x y:IE) (ih_x:QE cf W x) (ih_y:QE cf W y):QN cf W (.back x y):=by
 intro X XP k sc N mp m S T e g0
 obtain⟨⟨y,l,p,q⟩,eu,h⟩:=za g0
 clear g0
 cases VI eu
 simp only[Bool.and_eq_true] at h
 obtain⟨h1,h2⟩:=h
 exact⟨zbz (ih_x _ _ _ _ _ _ _ S T y h1).1 (yi (ih_y _ _ _ _ _ _ _ S T l h2).1),fun _=>Qw (fun _ _ _ _ q=>nomatch q)⟩
theorem Qf {cf:CF}{W:Wd}(a b:IE) (ih_a:QE cf W a) (ih_b:QE cf W b):QN cf W (.cat a b):=by
 intro X XP k sc N mp m S T e g0
 obtain⟨⟨x,op,y,p⟩,eu,h⟩:=za g0
 clear g0
 cases wR eu
 simp only[Bool.and_eq_true,decide_eq_true_eq] at h
 obtain⟨⟨h0,h1⟩,h2⟩:=h
 cases h0
 exact⟨zdS (ih_a _ _ _ _ _ _ _ S T x h1).1 (ih_b _ _ _ _ _ _ _ S T y h2).1,fun _=>Qw (fun _ _ _ _ q=>nomatch q)⟩
theorem jP {cf:CF}{W:Wd}(a:IE) (ih_a:QE cf W a):QN cf W (.list a):=by
 intro X XP k sc N mp m S T e h
 conv at h=>lhs; whnf
 split at h
 ·rename_i f p x q eu
  cases z6 eu
  simp only[Bool.and_eq_true] at h
  obtain⟨⟨h1,h2⟩,h3⟩:=h
  exact⟨zbB (qf S T h1 jk (by decide) (by decide)) (ih_a _ _ _ _ _ _ _ S T x h3).1 (zt h2),fun _=>Qw (fun _ _ _ _ q=>nomatch q)⟩
 ·cases h
theorem jO {cf:CF}{W:Wd}(n kk:Nat) (ix:List Nat) (N':List Str) (t:IT) (src:II) (c:IC) (el:IE) (ih_src:QI cf W src) (ih_c:QC cf W c) (ih_el:QE cf W el):QN cf W (.comp n kk ix N' t src c el):=by
 intro X XP k sc N mp m S T e h
 conv at h=>lhs; whnf
 split at h
 ·rename_i elt tg iter ifs scope p eu
  cases K3 eu
  simp only[Bool.and_eq_true,decide_eq_true_eq] at h
  obtain⟨⟨⟨⟨⟨⟨⟨⟨h1,h3⟩,h4⟩,h5⟩,h6⟩,h7⟩,h8⟩,h9⟩,h10⟩:=h
  subst h1
  have C0:CSc sc N scope N' kk ix:=CSc.of h3
  have C1:=YW S C0
  have hm:∀ j i:Nat,ix[j]?=some i->∃ m,mp[i]?=some m/\m<n:=fun j i e=>by
   have:=List.all_eq_true.mp h5 i (List.mem_of_getElem? e)
   split at this
   ·rename_i q eq; exact⟨q,eq,by simpa using this⟩
   ·cases this
  have hi:=ih_src _ XP _ _ _ _ _ S T tg iter h7
  have hg:∀ cl C s2 H2 fp,SG (X.comp N' scope cl C s2 H2 fp) (mpC mp n kk ix) (·<n) tg t:=fun cl C s2 H2 fp=>ZJ (XSc.comp C0 cl C s2 H2 fp) C0.nd h4 T.calm (fun i h=>by omega) t tg h8
  have hc:∀ cl C s2 H2 fp,SF (X.comp N' scope cl C s2 H2 fp) XP0 (mpC mp n kk ix) ifs (c.ev cf):=fun cl C s2 H2 fp=>ih_c _ _ _ _ _ _ _ (XSc.comp C0 cl C s2 H2 fp) (T.comp cl C s2 H2 fp) ifs h9
  have he:∀ cl C s2 H2 fp,SE (X.comp N' scope cl C s2 H2 fp) XP0 (mpC mp n kk ix) elt (el.ev cf).1:=fun cl C s2 H2 fp=>(ih_el _ _ _ _ _ _ _ (XSc.comp C0 cl C s2 H2 fp) (T.comp cl C s2 H2 fp) elt h10).1
  refine⟨zbA T.calm C1 hm hi hg hc he (jd h6),fun _ a b c' d q=>?_⟩
  cases q
  exact⟨tg,iter,ifs,N',kk,ix,rfl,C1,jd h6,vF C1 hm hi hg hc he⟩
 ·cases h
theorem jK {cf:CF}{W:Wd}(a:IE) (ih_a:QE cf W a):QI cf W (.list a):=by
 intro X XP k sc N mp m S T tg e h
 exact zbw (ih_a _ _ _ _ _ _ _ S T e h).1
theorem Qa {cf:CF}{W:Wd}(a:IE) (ih_a:QE cf W a):QI cf W (.tup a):=by
 intro X XP k sc N mp m S T tg e h
 exact zdO (ih_a _ _ _ _ _ _ _ S T e h).1
theorem ja {cf:CF}{W:Wd}(a:IE) (ih_a:QE cf W a):QI cf W (.range a):=by
 intro X XP k sc N mp m S T tg e h
 conv at h=>lhs; whnf
 split at h
 ·rename_i f p x q eu
  cases z6 eu
  simp only[Bool.and_eq_true] at h
  obtain⟨⟨h1,h2⟩,h3⟩:=h
  have ef:f= "range" :=by
   unfold biB at h1
   simp only[Bool.and_eq_true,decide_eq_true_eq] at h1
   exact h1.1.1
  exact KC (qf S T h1 QU (by decide) (by decide)) ef (ih_a _ _ _ _ _ _ _ S T x h3).1 (zt h2)
 ·cases h
theorem jJ {cf:CF}{W:Wd}(a:IE) (ih_a:QE cf W a):QI cf W (.enum a):=by
 intro X XP k sc N mp m S T tg e h
 conv at h=>lhs; whnf
 split at h
 ·rename_i f p x q eu
  cases z6 eu
  simp only[Bool.and_eq_true] at h
  obtain⟨⟨⟨h0,h1⟩,h2⟩,h3⟩:=h
  have ef:f= "enumerate" :=by
   unfold biB at h1
   simp only[Bool.and_eq_true,decide_eq_true_eq] at h1
   exact h1.1.1
  cases tg with
  | Tuple es x1 pt=>exact zbv (qf S T h1 L2.boot_enumW (by decide) (by decide)) ef (ih_a _ _ _ _ _ _ _ S T x h3).1 (zt h2)
  | _=>simp[kA] at h0
 ·cases h
theorem Qi {cf:CF}{W:Wd}(a:IE) (ih_a:QE cf W a):QO cf W (.dat a):=by
 intro X XP k sc N mp m S T e h
 exact (ih_a _ _ _ _ _ _ _ S T e h).1.so
theorem Qj {cf:CF}{W:Wd}(n:IN) (ih_n:QN cf W n):QO cf W (.own n):=by
 intro X XP k sc N mp m S T e h
 exact (ih_n _ _ _ _ _ _ _ S T e h).1.so
theorem jR {cf:CF}{W:Wd}(g:Str) (n:Nat) (a:IA) (ih_a:QA cf W a):QO cf W (.call g n a):=by
 intro X XP k sc N mp m S T e h
 conv at h=>lhs; whnf
 split at h
 ·rename_i f p xs q eu
  cases Jj eu
  simp only[Bool.and_eq_true,decide_eq_true_eq] at h
  obtain⟨⟨⟨⟨⟨h1,h2⟩,h3⟩,h4⟩,h5⟩,h6⟩:=h
  subst h1
  obtain⟨kn,hrun⟩:=T.fn _ _ h3
  cases xs with
  | nil=>
   cases a with
   | nil=>exact KF T.px kn (Room.atk T) (S.glo _ h2) hrun (j9 h4)
   | cons _ _=>cases h6
   | io _ _ _=>cases h6
   | tmp _=>cases h6
  | cons x xs=>
   rw[List.all_cons,Bool.and_eq_true] at h5
   exact zbD T.px kn (Room.atk T) (S.glo _ h2) hrun (ih_a _ _ _ _ _ _ _ S T (x::xs) h6) (j9 h4) (zt h5.1) (Zd (vH h5.2))
 ·cases h
theorem jS {cf:CF}{W:Wd}(s i:Nat):QO cf W (.move s i):=by
 intro X XP k sc N mp m S T e g0
 obtain⟨⟨x,p⟩,eu,h⟩:=za g0
 clear g0
 cases zv eu
 have n:=JA S h
 exact zbE n.hN n.hv n.hm n.hd n.hcd
theorem qZ {cf:CF}{W:Wd}(a:IE) (ih_a:QE cf W a):QE cf W (.lookT a):=fun X XP k sc N mp m S T e h=>⟨zbk,zbK (ih_a _ _ _ _ _ _ _ S T e h).2⟩
theorem jH {cf:CF}{W:Wd}(a:IE) (ih_a:QE cf W a):QE cf W (.lset a):=by
 intro X XP k sc N mp m S T e h
 conv at h=>lhs; whnf
 split at h
 ·rename_i f p x q eu
  split at h
  ·rename_i g p2 y q2 eu2
   cases z6 eu
   cases z6 eu2
   simp only[Bool.and_eq_true] at h
   obtain⟨⟨⟨h1,h2⟩,h3⟩,h4⟩:=h
   have ef:f= "len" :=by
    unfold biB at h1
    simp only[Bool.and_eq_true,decide_eq_true_eq] at h1
    exact h1.1.1
   have eg:g= "set" :=by
    unfold biB at h2
    simp only[Bool.and_eq_true,decide_eq_true_eq] at h2
    exact h2.1.1
   subst ef eg
   have B1:=qf S T h1 wm (by decide) (by decide)
   have B2:=qf S T h2 wo (by decide) (by decide)
   exact qj (zbo T.calm B1.gl B1.mg B2.gl B2.mg (ih_a _ _ _ _ _ _ _ S T y h4).1 (zt h3)) rfl
  ·cases h
 ·cases h
theorem jQ {cf:CF}{W:Wd}(a:IE) (ih_a:QE cf W a):QN cf W (.lrng a):=by
 intro X XP k sc N mp m S T e h
 conv at h=>lhs; whnf
 split at h
 ·rename_i f p x q eu
  split at h
  ·rename_i g p2 y q2 eu2
   cases z6 eu
   cases z6 eu2
   simp only[Bool.and_eq_true] at h
   obtain⟨⟨⟨h1,h2⟩,h3⟩,h4⟩:=h
   exact⟨zbC T.calm (qf S T h1 jk (by decide) (by decide)) (qf S T h2 QU (by decide) (by decide)) (ih_a _ _ _ _ _ _ _ S T y h4).1 (zt h3),fun _=>Qw (fun _ _ _ _ q=>nomatch q)⟩
  ·cases h
 ·cases h
theorem Qc {cf:CF}{W:Wd}:QL cf W .nil:=by
 intro X XP k sc N mp m S T es h
 cases es with
 | nil=>exact zdQ
 | cons _ _=>cases h
theorem jL {cf:CF}{W:Wd}(e:IE) (a:IL) (ih_e:QE cf W e) (ih_a:QL cf W a):QL cf W (.cons e a):=by
 intro X XP k sc N mp m S T es h
 cases es with
 | nil=>cases h
 | cons x xs=>
  replace h:=Bool.and_eq_true_iff.mp h
  try simp only[Bool.and_eq_true] at h
  obtain⟨⟨h1,h2⟩,h3⟩:=h
  exact zby (ih_e _ _ _ _ _ _ _ S T x h2).1 (ih_a _ _ _ _ _ _ _ S T xs h3) (zt h1)
theorem ZN {cf:CF}{W:Wd}:QA cf W .nil:=by
 intro X XP k sc N mp m S T es h
 cases es with
 | nil=>exact zdx
 | cons _ _=>cases h
theorem jB {cf:CF}{W:Wd}(e:IE) (a:IA) (ih_e:QE cf W e) (ih_a:QA cf W a):QA cf W (.cons e a):=by
 intro X XP k sc N mp m S T es h
 cases es with
 | nil=>cases h
 | cons x xs=>
  replace h:=Bool.and_eq_true_iff.mp h
  try simp only[Bool.and_eq_true] at h
  obtain⟨⟨h1,h2⟩,h3⟩:=h
  exact zbg (ih_e _ _ _ _ _ _ _ S T x h2).1 (ih_a _ _ _ _ _ _ _ S T xs h3) (zt h1)
theorem wt {cf:CF}{W:Wd}(s i:Nat) (a:IA) (ih_a:QA cf W a):QA cf W (.io s i a):=by
 intro X XP k sc N mp m S T es h
 cases es with
 | nil=>cases h
 | cons e xs=>
  replace h:=Bool.and_eq_true_iff.mp h
  try simp only[Bool.and_eq_true] at h
  obtain⟨⟨x,p⟩,eu,h1⟩:=za h.1
  cases zv eu
  have n:=JA S h1
  exact zeY n.hN n.hv n.hm n.hd n.hcd (ih_a _ _ _ _ _ _ _ S T xs h.2) rfl
theorem ZO {cf:CF}{W:Wd}(n:IN) (ih_n:QN cf W n):QA cf W (.tmp n):=by
 intro X XP k sc N mp m S T es h
 match es,h with
 | [],h=>nomatch h
 | [x],h=>
  replace h:=Bool.and_eq_true_iff.mp h
  try simp only[Bool.and_eq_true] at h
  exact zdy (ih_n _ _ _ _ _ _ _ S T x h.2).1 (zt h.1)
 | _::_::_,h=>nomatch h
theorem Qk {cf:CF}{W:Wd}:QP cf W .non:=by
 intro X XP k sc N mp m S T e h
 cases e with
 | none=>exact zbF
 | some _=>cases h
theorem Ql {cf:CF}{W:Wd}(a:IE) (ih_a:QE cf W a):QP cf W (.one a):=by
 intro X XP k sc N mp m S T e h
 cases e with
 | none=>cases h
 | some x=>exact yi (ih_a _ _ _ _ _ _ _ S T x h).1
theorem ZQ {cf:CF}{W:Wd}:QC cf W .yes:=by
 intro X XP k sc N mp m S T es h
 cases es with
 | nil=>exact zdL
 | cons _ _=>cases h
theorem ZP {cf:CF}{W:Wd}(a:IE) (ih_a:QE cf W a):QC cf W (.one a):=by
 intro X XP k sc N mp m S T es h
 match es,h with
 | [],h=>nomatch h
 | [x],h=>exact zdM (ih_a _ _ _ _ _ _ _ S T x h).2
 | _::_::_,h=>nomatch h
theorem Qb {cf:CF}{W:Wd}:QJ cf W .nil:=by
 intro X XP k sc N mp m S T e h
 cases e with
 | nil=>exact zdP
 | cons _ _=>exact Bool.noConfusion (show false=true from h)
theorem jU {cf:CF}{W:Wd}(a:IE) (o:IO) (ih_a:QE cf W a) (ih_o:QO cf W o):QO cf W (.pair a o):=by
 intro X XP k sc N mp m S T e g0
 obtain⟨⟨es,kk,p⟩,eu,g1⟩:=za g0
 clear g0
 cases jY eu
 obtain⟨⟨x,y⟩,ez,h⟩:=za g1
 clear g1
 cases qM ez
 simp only[Bool.and_eq_true] at h
 obtain⟨⟨⟨h1,h2⟩,h3⟩,h4⟩:=h
 exact zbG (ih_a _ XP _ _ _ _ _ S T x h3).1 (ih_o _ XP _ _ _ _ _ S T y h4) (zt h1) (zt h2)
theorem jb {cf:CF}{W:Wd}(n:Nat) (a b:IO) (ih_a:QO cf W a) (ih_b:QO cf W b):QO cf W (.pair2 n a b):=by
 intro X XP k sc N mp m S T e g0
 obtain⟨⟨es,kk,p⟩,eu,g1⟩:=za g0
 clear g0
 cases jY eu
 obtain⟨⟨x,y⟩,ez,h⟩:=za g1
 clear g1
 cases qM ez
 simp only[Bool.and_eq_true,List.all_eq_true,decide_eq_true_eq] at h
 obtain⟨⟨⟨⟨h0,h1⟩,h2⟩,h3⟩,h4⟩:=h
 exact KG h0 (ih_a _ XP _ _ _ _ _ S T x h3) (ih_b _ XP _ _ _ _ _ S T y h4) (zt h1) (zt h2)
theorem ze8 {X:Cx}{XP:XPT}{mp:List Nat}{e:Expr}:ST X XP mp e fNo:=fun M0 F Γ ν σ H Q rs hs hp=>hp.elim
theorem jI {cf:CF}{W:Wd}(n:IM) (ih_n:QM cf W n):QE cf W (.newD n):=by
 intro X XP k sc N mp m S T e h
 exact⟨(ih_n _ _ _ _ _ _ _ S T e h).1.se,ze8⟩
theorem Qd {cf:CF}{W:Wd}:QM cf W .nil:=by
 intro X XP k sc N mp m S T e g0
 obtain⟨⟨ks,vs,p⟩,eu,h⟩:=za g0
 clear g0
 cases vQ eu
 simp only[Bool.and_eq_true,List.isEmpty_iff] at h
 obtain⟨rfl,rfl⟩:=h
 exact⟨zdz,fun _ _ _ _ _ _ q=>nomatch q⟩
theorem Qe {cf:CF}{W:Wd}(a b:IE) (ih_a:QE cf W a) (ih_b:QE cf W b):QM cf W (.one a b):=by
 intro X XP k sc N mp m S T e g0
 obtain⟨⟨ks,vs,p⟩,eu,g1⟩:=za g0
 clear g0
 cases vQ eu
 obtain⟨kx,ek,g2⟩:=za g1
 clear g1
 cases zZ ek
 obtain⟨x,ex,g3⟩:=za g2
 clear g2
 cases ex
 obtain⟨y,ey,h⟩:=za g3
 clear g3
 cases zZ ey
 rw[Bool.and_eq_true] at h
 exact⟨zdA (ih_a _ XP _ _ _ _ _ S T x h.1).1 (ih_b _ XP _ _ _ _ _ S T y h.2).1,fun _ _ _ _ _ _ q=>nomatch q⟩
theorem jM {cf:CF}{W:Wd}(n kk:Nat) (ix:List Nat) (N':List Str) (t:IT) (src:IG) (c:IC) (ek ev:IE) (ih_src:QG cf W src) (ih_c:QC cf W c) (ih_ek:QE cf W ek) (ih_ev:QE cf W ev):QM cf W (.comp n kk ix N' t src c ek ev):=by
 intro X XP k sc N mp m S T e h
 conv at h=>lhs; whnf
 split at h
 ·rename_i kx vx tg iter ifs scope p eu
  cases K0 eu
  simp only[Bool.and_eq_true,decide_eq_true_eq] at h
  obtain⟨⟨⟨⟨⟨⟨⟨⟨⟨h1,h3⟩,h4⟩,h5⟩,h6⟩,h7⟩,h8⟩,h9⟩,h10⟩,h11⟩:=h
  subst h1
  have C0:CSc sc N scope N' kk ix:=CSc.of h3
  have C1:=YW S C0
  have hm:∀ j i:Nat,ix[j]?=some i->∃ m,mp[i]?=some m/\m<n:=fun j i e=>by
   have:=List.all_eq_true.mp h5 i (List.mem_of_getElem? e)
   split at this
   ·rename_i q eq; exact⟨q,eq,by simpa using this⟩
   ·cases this
  have hi:=ih_src _ XP _ _ _ _ _ S T tg iter h7
  have hg:∀ cl C s2 H2 fp,SG (X.comp N' scope cl C s2 H2 fp) (mpC mp n kk ix) (·<n) tg t:=fun cl C s2 H2 fp=>ZJ (XSc.comp C0 cl C s2 H2 fp) C0.nd h4 T.calm (fun i h=>by omega) t tg h8
  have hc:∀ cl C s2 H2 fp,SF (X.comp N' scope cl C s2 H2 fp) XP0 (mpC mp n kk ix) ifs (c.ev cf):=fun cl C s2 H2 fp=>ih_c _ _ _ _ _ _ _ (XSc.comp C0 cl C s2 H2 fp) (T.comp cl C s2 H2 fp) ifs h9
  have hk:∀ cl C s2 H2 fp,SE (X.comp N' scope cl C s2 H2 fp) XP0 (mpC mp n kk ix) kx (ek.ev cf).1:=fun cl C s2 H2 fp=>(ih_ek _ _ _ _ _ _ _ (XSc.comp C0 cl C s2 H2 fp) (T.comp cl C s2 H2 fp) kx h10).1
  have hv:∀ cl C s2 H2 fp,SE (X.comp N' scope cl C s2 H2 fp) XP0 (mpC mp n kk ix) vx (ev.ev cf).1:=fun cl C s2 H2 fp=>(ih_ev _ _ _ _ _ _ _ (XSc.comp C0 cl C s2 H2 fp) (T.comp cl C s2 H2 fp) vx h11).1
  refine⟨zbj T.calm C1 hm hi.1 hg hc hk hv (jd h6),fun hp a b c' d e' q=>?_⟩
  cases q
  cases src with
  | std b=>exact⟨tg,iter,ifs,N',kk,ix,rfl,C1,jd h6,Ks C1 hm (hi.2 b rfl) hg hc hk hv⟩
 ·cases h
theorem Z9 {cf:CF}{W:Wd}(b:II) (ih_b:QI cf W b):QG cf W (.std b):=by
 intro X XP k sc N mp m S T tg e h
 have h':=ih_b _ XP _ _ _ _ _ S T tg e h
 exact⟨zbx h',fun b' q=>by cases q; exact h'⟩
theorem jT {cf:CF}{W:Wd}(n:IM) (ih_n:QM cf W n):QO cf W (.ownD n):=by
 intro X XP k sc N mp m S T e h
 exact (ih_n _ _ _ _ _ _ _ S T e h).1.so
theorem Q3 (cf:CF) (W:Wd) (a:IE):QE cf W a:=IE.rec (motive_1:=QE cf W) (motive_2:=QL cf W) (motive_3:=QA cf W) (motive_4:=QN cf W) (motive_5:=QP cf W) (motive_6:=QI cf W) (motive_7:=QC cf W) (motive_8:=QO cf W) (motive_9:=QJ cf W) (motive_10:=QM cf W) (motive_11:=QG cf W) Z7 ZW jD jE qW qY jG Z6 Z4 ZU ZV qX Z5 Z3 ZS ww ZZ wv Z0 ZX ZR ZT q8 ZY Z2 Z1 jF jC qZ jH jI Qc jL ZN jB wt ZO Qh Qg jN Qf jP jO jQ Qk Ql jK Qa ja jJ ZQ ZP Qi Qj jR jS jU jb jT Qb Qd Qe jM Z9 a
theorem ze3 (cf:CF) (W:Wd) (a:IA):QA cf W a:=IA.rec (motive_1:=QE cf W) (motive_2:=QL cf W) (motive_3:=QA cf W) (motive_4:=QN cf W) (motive_5:=QP cf W) (motive_6:=QI cf W) (motive_7:=QC cf W) (motive_8:=QO cf W) (motive_9:=QJ cf W) (motive_10:=QM cf W) (motive_11:=QG cf W) Z7 ZW jD jE qW qY jG Z6 Z4 ZU ZV qX Z5 Z3 ZS ww ZZ wv Z0 ZX ZR ZT q8 ZY Z2 Z1 jF jC qZ jH jI Qc jL ZN jB wt ZO Qh Qg jN Qf jP jO jQ Qk Ql jK Qa ja jJ ZQ ZP Qi Qj jR jS jU jb jT Qb Qd Qe jM Z9 a
theorem ze6 (cf:CF) (W:Wd) (a:IN):QN cf W a:=IN.rec (motive_1:=QE cf W) (motive_2:=QL cf W) (motive_3:=QA cf W) (motive_4:=QN cf W) (motive_5:=QP cf W) (motive_6:=QI cf W) (motive_7:=QC cf W) (motive_8:=QO cf W) (motive_9:=QJ cf W) (motive_10:=QM cf W) (motive_11:=QG cf W) Z7 ZW jD jE qW qY jG Z6 Z4 ZU ZV qX Z5 Z3 ZS ww ZZ wv Z0 ZX ZR ZT q8 ZY Z2 Z1 jF jC qZ jH jI Qc jL ZN jB wt ZO Qh Qg jN Qf jP jO jQ Qk Ql jK Qa ja jJ ZQ ZP Qi Qj jR jS jU jb jT Qb Qd Qe jM Z9 a
theorem ze4 (cf:CF) (W:Wd) (a:II):QI cf W a:=II.rec (motive_1:=QE cf W) (motive_2:=QL cf W) (motive_3:=QA cf W) (motive_4:=QN cf W) (motive_5:=QP cf W) (motive_6:=QI cf W) (motive_7:=QC cf W) (motive_8:=QO cf W) (motive_9:=QJ cf W) (motive_10:=QM cf W) (motive_11:=QG cf W) Z7 ZW jD jE qW qY jG Z6 Z4 ZU ZV qX Z5 Z3 ZS ww ZZ wv Z0 ZX ZR ZT q8 ZY Z2 Z1 jF jC qZ jH jI Qc jL ZN jB wt ZO Qh Qg jN Qf jP jO jQ Qk Ql jK Qa ja jJ ZQ ZP Qi Qj jR jS jU jb jT Qb Qd Qe jM Z9 a
theorem KE (cf:CF) (W:Wd) (a:IO):QO cf W a:=IO.rec (motive_1:=QE cf W) (motive_2:=QL cf W) (motive_3:=QA cf W) (motive_4:=QN cf W) (motive_5:=QP cf W) (motive_6:=QI cf W) (motive_7:=QC cf W) (motive_8:=QO cf W) (motive_9:=QJ cf W) (motive_10:=QM cf W) (motive_11:=QG cf W) Z7 ZW jD jE qW qY jG Z6 Z4 ZU ZV qX Z5 Z3 ZS ww ZZ wv Z0 ZX ZR ZT q8 ZY Z2 Z1 jF jC qZ jH jI Qc jL ZN jB wt ZO Qh Qg jN Qf jP jO jQ Qk Ql jK Qa ja jJ ZQ ZP Qi Qj jR jS jU jb jT Qb Qd Qe jM Z9 a
theorem ze5 (cf:CF) (W:Wd) (a:IM):QM cf W a:=IM.rec (motive_1:=QE cf W) (motive_2:=QL cf W) (motive_3:=QA cf W) (motive_4:=QN cf W) (motive_5:=QP cf W) (motive_6:=QI cf W) (motive_7:=QC cf W) (motive_8:=QO cf W) (motive_9:=QJ cf W) (motive_10:=QM cf W) (motive_11:=QG cf W) Z7 ZW jD jE qW qY jG Z6 Z4 ZU ZV qX Z5 Z3 ZS ww ZZ wv Z0 ZX ZR ZT q8 ZY Z2 Z1 jF jC qZ jH jI Qc jL ZN jB wt ZO Qh Qg jN Qf jP jO jQ Qk Ql jK Qa ja jJ ZQ ZP Qi Qj jR jS jU jb jT Qb Qd Qe jM Z9 a
end
end L3
set_option maxHeartbeats 4000000
namespace L3
open PySem PySem.Spec PyProof.Rows L2
mutual
/-- what may stand in a try -/
inductive IQ where
 | asg (s i:Nat) (o:IO)
 | expr (e:IE)
 | ite (c:IE) (a b:IQs)
inductive IQs where
 | nil
 | cons (q:IQ) (b:IQs)
end
mutual
inductive IS where
 | pass
 | bad
 | asg (s i:Nat) (o:IO)
 | asgT (t:IT) (e:IE)
 | ite (c:IE) (a b:IB)
 | loop (t:IT) (src:II) (b:IB)
 | ret (o:IO)
 | app (s i:Nat) (e:IE)
 | set (s i:Nat) (ie ve:IE)
 | raise (x:Str)
 | tryq (b:IQs) (hs:List (Str×Nat×Nat×HC))
 | asgP (s i t j:Nat) (o:IO)
inductive IB where
 | nil
 | cons (s:IS) (b:IB)
 | disp (s i:Nat) (x:Str) (kf:List (Str×Str)) (n:Nat) (e:IE) (a:IA)
 | junk (s i:Nat) (b:IB)
end
mutual
noncomputable def IQ.ex (cf:CF) (io:List Nat):IQ->SM
 | .asg _ i o=>sAsg io i (o.ev cf)
 | .expr e=>sExpr (e.ev cf).1
 | .ite c a b=>sIf (c.ev cf).2 (a.ex cf io) (b.ex cf io)
noncomputable def IQs.ex (cf:CF) (io:List Nat):IQs->SM
 | .nil=>sNext
 | .cons s .nil=>s.ex cf io
 | .cons s b=>sSeq (s.ex cf io) (b.ex cf io)
end
mutual
noncomputable def IS.ex (cf:CF) (io:List Nat):IS->SM
 | .pass=>sNext
 | .bad=>zeX
 | .asg _ i o=>sAsg io i (o.ev cf)
 | .asgT t e=>sAsgT t (e.ev cf).1
 | .ite c a b=>sIf (c.ev cf).2 (a.ex cf io) (b.ex cf io)
 | .loop t src b=>sFor t (src.ev cf) (b.ex cf io)
 | .ret o=>sRet (o.ev cf)
 | .app _ i e=>sApp i (e.ev cf).1
 | .set _ i ie ve=>sSet i (ie.ev cf).1 (ve.ev cf).1
 | .raise x=>Qz x
 | .tryq b hs=>vE io (b.ex cf io) hs
 | .asgP _ i _ j o=>vD io i j (o.ev cf)
noncomputable def IB.ex (cf:CF) (io:List Nat):IB->SM
 | .nil=>sNext
 | .cons s .nil=>s.ex cf io
 | .cons s b=>sSeq (s.ex cf io) (b.ex cf io)
 | .disp _ i _ kf _ e a=>zck io kf cf i (e.ev cf).1 (a.ev cf)
 | .junk _ i b=>yh i (b.ex cf io)
end
noncomputable def Ja:IO->Option IN
 | .own n=>some n
 | .dat (.new n)=>some n
 | _=>none
noncomputable def Zt:IO->Option IM
 | .ownD n=>some n
 | .dat (.newD n)=>some n
 | _=>none
noncomputable def YN (o:IO):Expr->Bool
 | .ListComp .. =>okO (Ja o) IN.plain
 | .SetComp .. =>false
 | .DictComp .. =>okO (Zt o) IM.plain
 | _=>true
noncomputable def VJ:Stmt->Option Pos
 | .Pass p=>some p
 | _=>none
noncomputable def Zp:Stmt->Option (Expr×Pos)
 | .Expr x p=>some (x,p)
 | _=>none
noncomputable def zbX:Stmt->Option (Expr×List Stmt×List Stmt×Pos)
 | .If x xs ys p=>some (x,xs,ys,p)
 | _=>none
noncomputable def K7:Stmt->Option (Expr×Expr×List Stmt×List Stmt×Pos)
 | .For tg it b e p=>some (tg,it,b,e,p)
 | _=>none
noncomputable def yv:Stmt->Option (Option Expr×Pos)
 | .Return x p=>some (x,p)
 | _=>none
noncomputable def yu:Stmt->Option (List Expr×Expr×Pos)
 | .Assign ts e p=>some (ts,e,p)
 | _=>none
theorem VL {e:Stmt}{p:Pos}(h:VJ e=some p):e=.Pass p:=by
 unfold VJ at h
 split at h
 ·cases h; rfl
 ·cases h
theorem Zq {e:Stmt}{x:Expr}{p:Pos}(h:Zp e=some (x,p)):e=.Expr x p:=by
 unfold Zp at h
 split at h
 ·cases h; rfl
 ·cases h
theorem vS {e:Stmt}{x:Expr}{xs ys:List Stmt}{p:Pos}(h:zbX e=some (x,xs,ys,p)):e=.If x xs ys p:=by
 unfold zbX at h
 split at h
 ·cases h; rfl
 ·cases h
theorem Yy {e:Stmt}{x y:Expr}{xs ys:List Stmt}{p:Pos}(h:K7 e=some (x,y,xs,ys,p)):e=.For x y xs ys p:=by
 unfold K7 at h
 split at h
 ·cases h; rfl
 ·cases h
theorem wX {e:Stmt}{x:Option Expr}{p:Pos}(h:yv e=some (x,p)):e=.Return x p:=by
 unfold yv at h
 split at h
 ·cases h; rfl
 ·cases h
theorem Yx {e:Stmt}{ts:List Expr}{x:Expr}{p:Pos}(h:yu e=some (ts,x,p)):e=.Assign ts x p:=by
 unfold yu at h
 split at h
 ·cases h; rfl
 ·cases h
noncomputable def KY (s:Stmt):Option (Str×Pos×Str×Pos×List Expr×Pos×Pos):=(Zp s).bind fun (e,q2)=>(zbT e).map fun (x,p,f,p2,xs,q)=>(x,p,f,p2,xs,q,q2)
theorem Ys {st:Stmt}{x f:Str}{p p2 q q2:Pos}{xs:List Expr}(h:KY st=some (x,p,f,p2,xs,q,q2)):st=.Expr (.Call (.Attribute (.Name x p) f p2) xs [] q) q2:=by
 unfold KY at h
 cases e1:Zp st with
 | none=>rw[e1] at h; cases h
 | some z=>
  obtain⟨e,q3⟩:=z
  cases e2:zbT e with
  | none=>simp[e1,e2] at h
  | some z=>
   obtain⟨a1,a2,a3,a4,a5,a6⟩:=z
   simp[e1,e2] at h
   obtain⟨rfl,rfl,rfl,rfl,rfl,rfl,rfl⟩:=h
   rw[Zq e1,K5 e2]
noncomputable def Q4 (s:Stmt):Option (Expr×Expr×Pos):=(yu s).bind fun (ts,e,q)=>(j7 ts).map fun t=>(t,e,q)
theorem qA {st:Stmt}{t e:Expr}{q:Pos}(h:Q4 st=some (t,e,q)):st=.Assign [t] e q:=by
 unfold Q4 at h
 cases e1:yu st with
 | none=>rw[e1] at h; cases h
 | some z=>
  obtain⟨ts,e',q'⟩:=z
  cases e2:j7 ts with
  | none=>simp[e1,e2] at h
  | some t'=>
   simp[e1,e2] at h
   obtain⟨rfl,rfl,rfl⟩:=h
   rw[Yx e1,zZ e2]
noncomputable def yn (s:Stmt):Option (Str×Pos×Expr×Pos×Str×Pos×List Expr×Pos×Pos):=(Zp s).bind fun (e,q2)=>(Q5 e).bind fun (f,xs,ks,q)=>match ks with
 | []=>(wP f).bind fun (z,m,p2)=>(jr z).bind fun (y,b,p3)=>(zI y).map fun (x,p)=>(x,p,b,p3,m,p2,xs,q,q2)
 | _::_=>none
theorem wO {st:Stmt}{x f:Str}{b:Expr}{p p2 p3 q q2:Pos}{xs:List Expr}(h:yn st=some (x,p,b,p3,f,p2,xs,q,q2)):st=.Expr (.Call (.Attribute (.Subscript (.Name x p) b p3) f p2) xs [] q) q2:=by
 unfold yn at h
 cases e1:Zp st with
 | none=>rw[e1] at h; cases h
 | some z=>
  obtain⟨e,q3⟩:=z
  cases e2:Q5 e with
  | none=>simp[e1,e2] at h
  | some z=>
   obtain⟨g,ys,ks,q'⟩:=z
   cases ks with
   | cons _ _=>simp[e1,e2] at h
   | nil=>
    cases e3:wP g with
    | none=>simp[e1,e2,e3] at h
    | some z=>
     obtain⟨w,m,p4⟩:=z
     cases e4:jr w with
     | none=>simp[e1,e2,e3,e4] at h
     | some z=>
      obtain⟨y,b',p5⟩:=z
      cases e5:zI y with
      | none=>simp[e1,e2,e3,e4,e5] at h
      | some z=>
       obtain⟨x',p6⟩:=z
       simp[e1,e2,e3,e4,e5] at h
       obtain⟨rfl,rfl,rfl,rfl,rfl,rfl,rfl,rfl,rfl⟩:=h
       rw[Zq e1,QR e2,wQ e3,qp e4,zv e5]
noncomputable def WJ:Stmt->Option (Option Expr×Option Expr×Pos)
 | .Raise x y p=>some (x,y,p)
 | _=>none
noncomputable def K8:Stmt->Option (List Stmt×List ExceptHandler×List Stmt×List Stmt×Pos)
 | .Try b h e f p=>some (b,h,e,f,p)
 | _=>none
theorem vT {e:Stmt}{x y:Option Expr}{p:Pos}(h:WJ e=some (x,y,p)):e=.Raise x y p:=by
 unfold WJ at h
 split at h
 ·cases h; rfl
 ·cases h
theorem Yz {e:Stmt}{b e1 f:List Stmt}{h1:List ExceptHandler}{p:Pos}(h:K8 e=some (b,h1,e1,f,p)):e=.Try b h1 e1 f p:=by
 unfold K8 at h
 split at h
 ·cases h; rfl
 ·cases h
noncomputable def y9 (sc:Scope) (x:Str):Bool:=decide (sc.names.lookup x=some .local)||decide (sc.names.lookup x=some .cell)
noncomputable def zaJ (W:Wd) (sc:Scope) (x:Str):Bool:=Wo sc x&&W.ex.contains x&& !(x==("__debug__" :Str))
noncomputable def zeb:ExceptHandler->Option (Expr×Stmt×Pos)
 | .ExceptHandler (some e) none [st] p=>some (e,st,p)
 | _=>none
theorem K1 {hd:ExceptHandler}{e:Expr}{st:Stmt}{p:Pos}(h:zeb hd=some (e,st,p)):hd=.ExceptHandler (some e) none [st] p:=by
 unfold zeb at h
 split at h
 ·cases h; rfl
 ·cases h
noncomputable def hcB:HC->Const->Bool
 | .s z,c=>okO (YU c) fun y=>decide (z=y)
 | .b b,c=>okO (V1 c) fun y=>decide (b=y)
theorem zcZ {v:HC}{c:Const}(h:hcB v c=true):c=v.C:=by
 cases v with
 | s z=>
  obtain⟨y,e,h⟩:=za h
  rw[Jm e,of_decide_eq_true h]; rfl
 | b z=>
  obtain⟨y,e,h⟩:=za h
  rw[wu e,of_decide_eq_true h]; rfl
noncomputable def yP (W:Wd) (sc:Scope) (N:List Str) (mp:List Nat):List (Str×Nat×Nat×HC)->List ExceptHandler->Bool
 | [],[]=>true
 | (x,t,j,v)::r,hd::hs=>okO (zeb hd) (fun z=>okO (zI z.1) fun y=>decide (x=y.1)&&zaJ W sc x&&okO (Q4 z.2.1) fun s=>okO (zI s.1) fun q=>okO (jq s.2.1) fun c=>hcB v c.1&&decide (N[t]?=some q.1)&&decide (mp[t]?=some j)&&y9 sc q.1)&&yP W sc N mp r hs
 | _,_=>false
noncomputable def Ww:Expr->Bool
 | .ListComp .. =>false
 | .SetComp .. =>false
 | .DictComp .. =>false
 | _=>true
noncomputable def zP:Expr->Bool
 | .Tuple .. =>false
 | .ListComp .. =>false
 | .SetComp .. =>false
 | .DictComp .. =>false
 | _=>true
noncomputable def zaq (W:Wd) (sc:Scope) (N:List Str) (mp:List Nat) (m:Nat) (s i:Nat) (o:IO) (st:Stmt):Bool:=okO (Q4 st) fun z=>okO (zI z.1) fun x=>decide (N[s]?=some x.1)&&decide (mp[s]?=some i)&&(decide (sc.names.lookup x.1=some .local)||decide (sc.names.lookup x.1=some .cell))&&YN o z.2.1&&o.chk W sc N mp m z.2.1
mutual
noncomputable def IQ.chk (W:Wd) (sc:Scope) (N:List Str) (mp:List Nat) (m:Nat):IQ->Stmt->Bool
 | .asg s i o,st=>zaq W sc N mp m s i o st
 | .expr e,st=>okO (Zp st) fun z=>zP z.1&&e.chk W sc N mp m z.1
 | .ite c a b,st=>okO (zbX st) fun z=>c.chk W sc N mp m z.1&&a.chk W sc N mp m z.2.1&&b.chk W sc N mp m z.2.2.1
noncomputable def IQs.chk (W:Wd) (sc:Scope) (N:List Str) (mp:List Nat) (m:Nat):IQs->List Stmt->Bool
 | .nil,[]=>true
 | .cons s b,x::xs=>s.chk W sc N mp m x&&b.chk W sc N mp m xs
 | _,_=>false
end
mutual
noncomputable def IS.chk (W:Wd) (sc:Scope) (N:List Str) (mp:List Nat) (m np:Nat):IS->Stmt->Bool
 | .pass,st=>okO (VJ st) fun _=>true
 | .bad,_=>true
 | .asg s i o,st=>zaq W sc N mp m s i o st
 | .asgT t e,st=>okO (Q4 st) fun z=>kA z.1&&zP z.2.1&&J2 sc N mp np t z.1&&e.chk W sc N mp m z.2.1
 | .ite c a b,st=>okO (zbX st) fun z=>c.chk W sc N mp m z.1&&a.chk W sc N mp m np z.2.1&&b.chk W sc N mp m np z.2.2.1
 | .loop t src b,st=>okO (K7 st) fun z=>z.2.2.2.1.isEmpty&&qU z.2.1&&J2 sc N mp np t z.1&&src.chk W sc N mp m z.2.1 z.1&&b.chk W sc N mp m np z.2.2.1
 | .ret o,st=>okO (yv st) fun z=>okO z.1 fun x=>o.chk W sc N mp m x
 | .app s i e,st=>okO (KY st) fun (x,_,f,p2,xs,q,_)=>okO (j7 xs) fun a=>nmB sc N mp s i x&&decide (f= "append")&&zq a&&(p2.endLine==q.line)&&e.chk W sc N mp m a
 | .set s i ie ve,st=>okO (Q4 st) fun z=>okO (jr z.1) fun y=>okO (zI y.1) fun x=>nmB sc N mp s i x.1&&qt y.2.1&&Ww z.2.1&&ie.chk W sc N mp m y.2.1&&ve.chk W sc N mp m z.2.1
 | .raise x,st=>okO (WJ st) fun z=>z.2.1.isNone&&okO z.1 fun e=>okO (un1 e) fun (f,_,a,_)=>decide (f=x)&&zaJ W sc x&&okO (jq a) fun c=>okO (YU c.1) fun _=>true
 | .tryq b hs,st=>okO (K8 st) fun (body,hds,els,fin,_)=>els.isEmpty&&fin.isEmpty&& !hds.isEmpty&&yP W sc N mp hs hds&&b.chk W sc N mp m body
 | .asgP s i t j o,st=>okO (Q4 st) fun z=>okO (wW z.1) fun w=>okO (WH w.1) fun ab=>okO (zI ab.1) fun x=>okO (zI ab.2) fun y=>decide (N[s]?=some x.1)&&decide (mp[s]?=some i)&&y9 sc x.1&&decide (N[t]?=some y.1)&&decide (mp[t]?=some j)&&y9 sc y.1&&decide (s≠t)&&zP z.2.1&&o.chk W sc N mp m z.2.1
noncomputable def IB.chk (W:Wd) (sc:Scope) (N:List Str) (mp:List Nat) (m np:Nat):IB->List Stmt->Bool
 | .nil,[]=>true
 | .cons s b,x::xs=>s.chk W sc N mp m np x&&b.chk W sc N mp m np xs
 | .disp s i x kf n e a,xs=>okO (WH xs) fun z=>okO (Q4 z.1) fun (t,v,_)=>okO (zI t) fun r=>okO (jr v) fun (d,w,_)=>okO (zI d) fun y=>okO (yv z.2) fun (o,_)=>okO o fun c=>okO (unN c) fun (g,_,as,_)=>
  decide (N[s]?=some r.1)&&decide (mp[s]?=some i)&&y9 sc r.1&& !(r.1==("__debug__" :Str))&& !(r.1==("__classdict__" :Str))&&decide (x=y.1)&&Wo sc x&&W.gd.contains (x,kf)&& !(x==("__debug__" :Str))&&qt w&&decide (g=r.1)&&kf.all (fun p=>W.fl.contains (p.2,n))&& !as.isEmpty&&as.all zq&&e.chk W sc N mp m w&&a.chk W sc N mp m as
 | .junk s i b,st1::st2::xs=>okO (yn st1) fun (x,_,k,_,f,p2,as,q,_)=>okO (j7 as) fun a=>okO (jr a) fun y=>okO (zI y.1) fun x2=>okO (yn st2) fun (x3,_,k3,_,f3,p3,as3,q3,_)=>okO (j7 as3) fun a3=>okO (jq k) fun c1=>okO (jq y.2.1) fun c2=>okO (jq k3) fun c3=>okO (jq a3) fun c4=>
  nmB sc N mp s i x&&decide (x2.1=x)&&decide (x3=x)&&decide (f= "append")&&decide (f3= "append")&&(p2.endLine==q.line)&&(p3.endLine==q3.line)&&decide (c1.1=.int 0)&&decide (c2.1=.int 1)&&decide (c3.1=.int 1)&&decide (c4.1=.bool true)&&b.chk W sc N mp m np xs
 | _,_=>false
end
theorem JS {e:Expr}{t:Option Expr}{l:Nat}{env:Env}(h:zP e=true):swapsWith e t l env=pure false:=by
 cases e <;> first | rfl | (simp[zP] at h)
theorem Zo {t e:Expr}{l:Nat}{env:Env}(h:zP e=true):swapsWithSole [t] e l env=pure false:=JS (t:=some t) h
theorem jy {t e:Expr}{env:Env}(h:zP e=true):swappedStores [t] e env=pure none:=by
 have hm:(match (generalizing:=false) [t],e with
  | [.Tuple ts _ _],.Tuple vs _ _=>some (ts,vs)
  | [.List ts _],.Tuple vs _ _=>some (ts,vs)
  | _,_=>none)=(none:Option (List Expr×List Expr)):=by
  split
  ·simp[zP] at h
  ·simp[zP] at h
  ·rfl
 unfold swappedStores
 split
 ·rename_i q
  exact absurd (q.symm.trans hm) (fun z=>nomatch z)
 ·rfl
theorem wL {x y e:Expr}{p:Pos}{l:Nat}{env:Env}(h:Ww e=true):swapsWithSole [.Subscript x y p] e l env=pure false:=by
 show swapsWith e (some (.Subscript x y p)) l env=pure false
 cases e <;> first | rfl | (simp[Ww] at h)
theorem JR {x y e:Expr}{p:Pos}{env:Env}:swappedStores [.Subscript x y p] e env=pure none:=by
 cases e <;> rfl
theorem Yp {o:IO}{e:Expr}{x:Str}{p:Pos}{l:Nat}{env:Env}(h:YN o e=true) (hn:∀ a b c d,e≠ .ListComp a b c d) (hn2:∀ a b c d q,e≠ .DictComp a b c d q):swapsWith e (some (.Name x p)) l env=pure false:=by
 cases e with
 | ListComp a b c d=>exact absurd rfl (hn a b c d)
 | SetComp=>simp[YN] at h
 | DictComp a b c d q=>exact absurd rfl (hn2 a b c d q)
 | _=>rfl
theorem VB {elt:Expr}{gens:List Comprehension}{scope:Scope}{q:Pos}{x:Str}{p:Pos}{l:Nat}{env:Env}:∃ b:Bool,swapsWith (.ListComp elt gens scope q) (some (.Name x p)) l env=pure b:=⟨_,rfl⟩
theorem vK {ek ev:Expr}{gens:List Comprehension}{scope:Scope}{q:Pos}{x:Str}{p:Pos}{l:Nat}{env:Env}:∃ b:Bool,swapsWith (.DictComp ek ev gens scope q) (some (.Name x p)) l env=pure b:=⟨_,rfl⟩
theorem v6 {o b:Expr}{p:Pos}{env:Env}(h:qt b=true) (v:Value):assign (.Subscript o b p) env v=(do
  let ov<-holding [v] (eval o env)
  let iv<-holding [v,ov] (eval b env)
  standAt p
  holding [v,ov,iv] (setItem ov iv v)
  release [v,ov,iv] []):=by
 cases b <;> first | rfl | (simp[qt] at h)
variable [Cs]
structure XB (X:Cx) (XP:XPT) (mp io:List Nat) (np:Nat):Prop where
 po:PassesOwn (model X.prog X.w) X.A X.env X.xe
 nd:X.N.Nodup
 mn:mp.Nodup
 io:∀ i∈io,i<np
 rz:zen X XP
 sk:X.stack=X.env::X.outer
 fr:X.env.frame=some X.env.locals
noncomputable abbrev QS (cf:CF) (W:Wd) (a:IS):Prop:=∀ (X:Cx) (XP:XPT) (k:Nat) (sc:Scope) (N:List Str) (mp:List Nat) (m np:Nat) (io:List Nat),XSc X sc N->XW X XP cf W k->XB X XP mp io np->∀ (e:Stmt),a.chk W sc N mp m np e=true->SS X XP mp io e (a.ex cf io)
noncomputable abbrev QB (cf:CF) (W:Wd) (a:IB):Prop:=∀ (X:Cx) (XP:XPT) (k:Nat) (sc:Scope) (N:List Str) (mp:List Nat) (m np:Nat) (io:List Nat),XSc X sc N->XW X XP cf W k->XB X XP mp io np->∀ (e:List Stmt),a.chk W sc N mp m np e=true->SB X XP mp io e (a.ex cf io)
section
variable {cf:CF} {W:Wd}
theorem zaB:QS cf W .pass:=by
 intro X XP k sc N mp m np io S T B e g0
 obtain⟨p,eu,_⟩:=za g0
 clear g0
 cases VL eu
 exact zbJ
theorem zcJ:QS cf W .bad:=fun X XP k sc N mp m np io S T B e h=>zdX
theorem WU {o:IO}{n:IN}(h:Ja o=some n):o=.own n∨o=.dat (.new n):=by
 unfold Ja at h
 split at h <;> first | (cases h; exact .inl rfl) | (cases h; exact .inr rfl) | cases h
theorem w9 {o:IO}{n:IM}(h:Zt o=some n):o=.ownD n∨o=.dat (.newD n):=by
 unfold Zt at h
 split at h <;> first | (cases h; exact .inl rfl) | (cases h; exact .inr rfl) | cases h
theorem YO {X:Cx}{XP:XPT}{k:Nat}{sc:Scope}{N:List Str}{mp io:List Nat}{m:Nat}(s i:Nat) (o:IO) (S:XSc X sc N) (T:XW X XP cf W k) (nd:X.N.Nodup) (mn:mp.Nodup) (st:Stmt) (g0:zaq W sc N mp m s i o st=true):SS X XP mp io st (sAsg io i (o.ev cf)):=by
 unfold zaq at g0
 obtain⟨⟨tx,e,q⟩,eu,g1⟩:=za g0
 clear g0
 cases qA eu
 obtain⟨⟨x,p⟩,ex,h⟩:=za g1
 clear g1
 cases zv ex
 simp only[Bool.and_eq_true,Bool.or_eq_true,decide_eq_true_eq] at h
 obtain⟨⟨⟨⟨h1,h2⟩,h3⟩,h4⟩,h5⟩:=h
 have hi:X.N[s]?=some x:=by rw[S.hN]; exact h1
 have hx:Loc X.env.scope x:=by
  rcases h3 with h3 | h3
  ·exact .inl (S.loc x h3)
  ·exact .inr (S.cel x h3).1
 have hf:X.fn x=true∨X.env.scope.names.lookup x=some .local:=by
  rcases h3 with h3 | h3
  ·exact .inr (S.loc x h3)
  ·exact .inl (S.cel x h3).2
 have plain:swapsWith e (some (.Name x p)) q.line X.env=pure false->SS X XP mp io (.Assign [.Name x p] e q) (sAsg io i (o.ev cf)):=fun hsw=>
  zdW nd hi hx hf mn h2 (KE cf W o _ XP _ _ _ _ _ S T e h5) hsw
 by_cases hl:∃ a b c d,e=.ListComp a b c d
 ·obtain⟨elt,gens,scope,pc,rfl⟩:=hl
  obtain⟨bb,hb⟩:=VB (elt:=elt) (gens:=gens) (scope:=scope) (q:=pc) (x:=x) (p:=p) (l:=q.line) (env:=X.env)
  cases bb with
  | false=>exact plain hb
  | true=>
   obtain⟨n,en,hp⟩:=za (show okO (Ja o) IN.plain=true from h4)
   have go:n.chk W sc N mp m (.ListComp elt gens scope pc)=true->∀ (fo:EM OV),(∀ t,SNt XP mp t (n.ev cf)->SOt XP mp t fo)->SS X XP mp io (.Assign [.Name x p] (.ListComp elt gens scope pc) q) (sAsg io i fo):=fun hn fo hfo=>by
    obtain⟨tg,iter,ifs,N',kk,ix,rfl,C,hfold,hs⟩:=(ze6 cf W n _ XP _ _ _ _ _ S T _ hn).2 hp elt gens scope pc rfl
    exact WE (zbb nd hi hx T.calm C hb hfold hf) mn h2 (List.getElem?_eq_some_iff.mp hi).1 (hfo _ hs)
   rcases WU en with rfl | rfl
   ·exact go h5 _ fun t ht=>ht.so
   ·exact go (Bool.and_eq_true_iff.mp (show IE.chk W sc N mp m (.new n) _=true from h5)).2 _ fun t ht=>ht.sd
 ·by_cases hl2:∃ a b c d q,e=.DictComp a b c d q
  ·obtain⟨kx,vx,gens,scope,pc,rfl⟩:=hl2
   obtain⟨bb,hb⟩:=vK (ek:=kx) (ev:=vx) (gens:=gens) (scope:=scope) (q:=pc) (x:=x) (p:=p) (l:=q.line) (env:=X.env)
   cases bb with
   | false=>exact plain hb
   | true=>
    obtain⟨n,en,hp⟩:=za (show okO (Zt o) IM.plain=true from h4)
    have go:n.chk W sc N mp m (.DictComp kx vx gens scope pc)=true->∀ (fo:EM OV),(∀ t,SDt XP mp t (n.ev cf)->SOt XP mp t fo)->SS X XP mp io (.Assign [.Name x p] (.DictComp kx vx gens scope pc) q) (sAsg io i fo):=fun hn fo hfo=>by
     obtain⟨tg,iter,ifs,N',kk,ix,rfl,C,hfold,hs⟩:=(ze5 cf W n _ XP _ _ _ _ _ S T _ hn).2 hp kx vx gens scope pc rfl
     exact WE (Ki nd hi hx T.calm C hb hfold hf) mn h2 (List.getElem?_eq_some_iff.mp hi).1 (hfo _ hs)
    rcases w9 en with rfl | rfl
    ·exact go h5 _ fun t ht=>ht.so
    ·exact go h5 _ fun t ht=>ht.sd
  ·exact plain (Yp h4 (fun a b c d z=>hl ⟨a,b,c,d,z⟩) fun a b c d q z=>hl2 ⟨a,b,c,d,q,z⟩)
theorem zcI (s i:Nat) (o:IO):QS cf W (.asg s i o):=by
 intro X XP k sc N mp m np io S T B st g0
 exact YO s i o S T B.nd B.mn st g0
theorem zaz (t:IT) (e:IE):QS cf W (.asgT t e):=by
 intro X XP k sc N mp m np io S T B st g0
 obtain⟨⟨tx,x,q⟩,eu,h⟩:=za g0
 clear g0
 cases qA eu
 simp only[Bool.and_eq_true] at h
 obtain⟨⟨⟨h0,h1⟩,h2⟩,h3⟩:=h
 cases tx with
 | Tuple ts n p=>
  have hg:=ZJ (kp:=(·∈io)) S (by rw[<- S.hN]; exact B.nd) B.mn T.calm (fun i hi hm=>absurd (B.io i hm) (by omega)) t _ h2
  exact KI (Q3 cf W e _ XP _ _ _ _ _ S T x h3).1 hg (Zo h1) (jy h1) (Vw zi Wy (Zo h1) (jy h1))
 | _=>cases h0
theorem zcK (c:IE) (a b:IB) (ih_a:QB cf W a) (ih_b:QB cf W b):QS cf W (.ite c a b):=by
 intro X XP k sc N mp m np io S T B e g0
 obtain⟨⟨x,xs,ys,p⟩,eu,h⟩:=za g0
 clear g0
 cases vS eu
 simp only[Bool.and_eq_true] at h
 obtain⟨⟨h1,h2⟩,h3⟩:=h
 exact zco (Q3 cf W c _ XP _ _ _ _ _ S T x h1).2 (ih_a _ XP _ _ _ _ _ _ _ S T B xs h2) (ih_b _ XP _ _ _ _ _ _ _ S T B ys h3)
theorem zaA (t:IT) (src:II) (b:IB) (ih_b:QB cf W b):QS cf W (.loop t src b):=by
 intro X XP k sc N mp m np io S T B e g0
 obtain⟨⟨tg,iter,body,els,p⟩,eu,h⟩:=za g0
 clear g0
 cases Yy eu
 simp only[Bool.and_eq_true] at h
 obtain⟨⟨⟨⟨h0,h1⟩,h2⟩,h3⟩,h4⟩:=h
 cases els with
 | cons _ _=>cases h0
 | nil=>
  have hg:=ZJ (kp:=(·∈io)) S (by rw[<- S.hN]; exact B.nd) B.mn T.calm (fun i hi hm=>absurd (B.io i hm) (by omega)) t _ h2
  exact zdY B.po T.calm (ze4 cf W src _ XP _ _ _ _ _ S T tg iter h3) hg (ih_b _ XP _ _ _ _ _ _ _ S T B body h4) (jd h1)
theorem zcL (o:IO):QS cf W (.ret o):=by
 intro X XP k sc N mp m np io S T B e g0
 obtain⟨⟨x,p⟩,eu,g1⟩:=za g0
 clear g0
 cases wX eu
 obtain⟨y,ey,h⟩:=za g1
 clear g1
 cases ey
 exact zdZ (KE cf W o _ XP _ _ _ _ _ S T y h)
theorem zcH (s i:Nat) (e:IE):QS cf W (.app s i e):=by
 intro X XP k sc N mp m np io S T B st g0
 obtain⟨⟨x,p,f,p2,xs,q,q2⟩,eu,g1⟩:=za g0
 clear g0
 cases Ys eu
 obtain⟨a,ea,h⟩:=za g1
 clear g1
 cases zZ ea
 simp only[Bool.and_eq_true,decide_eq_true_eq] at h
 obtain⟨⟨⟨⟨h1,h2⟩,h3⟩,h4⟩,h5⟩:=h
 subst h2
 exact zdV (JA S h1) (Q3 cf W e _ XP _ _ _ _ _ S T a h5).1 (zt h3) h4
theorem zcM (s i:Nat) (ie ve:IE):QS cf W (.set s i ie ve):=by
 intro X XP k sc N mp m np io S T B st g0
 obtain⟨⟨tx,a,q⟩,eu,g1⟩:=za g0
 clear g0
 cases qA eu
 obtain⟨⟨tn,b,p2⟩,et,g2⟩:=za g1
 clear g1
 cases qp et
 obtain⟨⟨x,p⟩,ex,h⟩:=za g2
 clear g2
 cases zv ex
 simp only[Bool.and_eq_true] at h
 obtain⟨⟨⟨⟨h1,h2⟩,h3⟩,h4⟩,h5⟩:=h
 exact zd0 (JA S h1) (Q3 cf W ie _ XP _ _ _ _ _ S T b h4).1 (Q3 cf W ve _ XP _ _ _ _ _ S T a h5).1 (wL h3) JR (fun he hg=>Vw he hg (wL h3) JR) (fun ho hi hs=>zdn ho hi hs (v6 h2))
theorem Wu {X:Cx}{sc:Scope}{N:List Str}{x:Str}(S:XSc X sc N) (h:y9 sc x=true):Loc X.env.scope x/\(X.fn x=true∨X.env.scope.names.lookup x=some .local):=by
 unfold y9 at h
 simp only[Bool.or_eq_true,decide_eq_true_eq] at h
 rcases h with h | h
 ·exact⟨.inl (S.loc x h),.inr (S.loc x h)⟩
 ·exact⟨.inr (S.cel x h).1,.inl (S.cel x h).2⟩
theorem Y5 {X:Cx}{XP:XPT}{sc:Scope}{N:List Str}{x:Str}{k:Nat}(S:XSc X sc N) (T:XW X XP cf W k) (h:zaJ W sc x=true):∃ C,yA X x C/\W.ex.contains x=true:=by
 unfold zaJ at h
 simp only[Bool.and_eq_true] at h
 obtain⟨⟨h1,h2⟩,h3⟩:=h
 obtain⟨C,e1,e2⟩:=T.ex x h2
 exact⟨C,⟨S.glo x h1,e1,e2,j9 h3⟩,h2⟩
theorem YT (x:Str):QS cf W (.raise x):=by
 intro X XP k sc N mp m np io S T B st g0
 obtain⟨⟨ee,cz,p⟩,eu,g1⟩:=za g0
 clear g0
 cases vT eu
 simp only[Bool.and_eq_true] at g1
 obtain⟨g1,g2⟩:=g1
 obtain⟨e,ee1,g3⟩:=za g2
 clear g2
 cases ee1
 obtain⟨⟨f,p1,a,p2⟩,ea,g4⟩:=za g3
 clear g3
 cases z6 ea
 simp only[Bool.and_eq_true,decide_eq_true_eq] at g4
 obtain⟨⟨h1,h2⟩,g5⟩:=g4
 obtain⟨⟨c,j,p3⟩,ec,g6⟩:=za g5
 clear g5
 cases zQ ec
 obtain⟨z,ez,_⟩:=za g6
 clear g6
 cases Jm ez
 subst h1
 cases cz with
 | some _=>cases g1
 | none=>
  obtain⟨C,k,_⟩:=Y5 S T h2
  exact KJ k T.calm B.rz
theorem zch {X:Cx}{XP:XPT}{sc:Scope}{N:List Str}{mp:List Nat}{k:Nat}(S:XSc X sc N) (T:XW X XP cf W k):∀ (ns:List (Str×Nat×Nat×HC)) (hs:List ExceptHandler),yP W sc N mp ns hs=true->∃ zs,HdNs X (fun x C=>W.ex.contains x=true/\X.mg x=some (.ref C)) mp hs ns zs
 | [],[],_=>⟨[],.nil⟩
 | [],_::_,h=>by simp[yP] at h
 | _::_,[],h=>by simp[yP] at h
 | (x,t,j,v)::ns,hd::hs,h=>by
  simp only[yP,Bool.and_eq_true] at h
  obtain⟨h0,h1⟩:=h
  obtain⟨zs,hz⟩:=zch S T ns hs h1
  obtain⟨⟨e,st,p⟩,eh,g1⟩:=za h0
  clear h0
  cases K1 eh
  obtain⟨⟨y,py⟩,ey,g2⟩:=za g1
  clear g1
  cases zv ey
  simp only[Bool.and_eq_true,decide_eq_true_eq] at g2
  obtain⟨⟨q1,q2⟩,g3⟩:=g2
  obtain⟨⟨tg,va,pa⟩,es,g4⟩:=za g3
  clear g3
  cases qA es
  obtain⟨⟨q,pq⟩,eq,g5⟩:=za g4
  clear g4
  cases zv eq
  obtain⟨⟨c,cj,pc⟩,ec,g7⟩:=za g5
  clear g5
  cases zQ ec
  simp only[Bool.and_eq_true,decide_eq_true_eq] at g7
  obtain⟨⟨⟨r1,r2⟩,r3⟩,r4⟩:=g7
  cases zcZ r1
  subst q1
  obtain⟨C,kx,hxe⟩:=Y5 S T q2
  obtain⟨l1,l2⟩:=Wu S r4
  exact⟨_,.cons ⟨⟨x,py,q,pq,cj,pc,pa,p,rfl,kx,by rw[S.hN]; exact r2,l1,l2⟩,kx,⟨hxe,kx.mg⟩,r3⟩ hz⟩
theorem XW.tried {X:Cx}{XP XP':XPT}{k:Nat}(T:XW X XP cf W k) (pins:List (Addr×Obj)) (E:Value->Shared->Prop) (px:WR (X.tried pins E) XP'):XW (X.tried pins E) XP' cf W k:=⟨T.bi,T.gi,T.gs,T.fn,T.rm,T.hk,T.calm,T.ex,T.mr,T.gd,fun c f h=>⟨(T.fk c f h).cl,(T.fk c f h).no⟩,T.mc,T.ml,px⟩
theorem XSc.tried {X:Cx}{sc:Scope}{N:List Str}(S:XSc X sc N) (pins:List (Addr×Obj)) (E:Value->Shared->Prop):XSc (X.tried pins E) sc N:=⟨S.hN,S.vis,S.loc,S.cel,S.fre,S.glo⟩
theorem Kr {X:Cx}{XP:XPT}{mp io:List Nat}{st:Stmt}{f:SM}(h:SS X XP mp io st f):SB X XP mp io [st] f:=fun M0 F Γ ν σ H D rs hs hl hp=>(ZF ye).wp (h M0 F Γ ν σ H D rs hs hl hp)
noncomputable abbrev QQ (cf:CF) (W:Wd) (a:IQ):Prop:=∀ (X:Cx) (XP:XPT) (k:Nat) (sc:Scope) (N:List Str) (mp:List Nat) (m:Nat) (io:List Nat),XSc X sc N->XW X XP cf W k->X.N.Nodup->mp.Nodup->∀ (e:Stmt),a.chk W sc N mp m e=true->SS X XP mp io e (a.ex cf io)
noncomputable abbrev QQs (cf:CF) (W:Wd) (a:IQs):Prop:=∀ (X:Cx) (XP:XPT) (k:Nat) (sc:Scope) (N:List Str) (mp:List Nat) (m:Nat) (io:List Nat),XSc X sc N->XW X XP cf W k->X.N.Nodup->mp.Nodup->∀ (e:List Stmt),a.chk W sc N mp m e=true->SB X XP mp io e (a.ex cf io)
theorem zcF (s i:Nat) (o:IO):QQ cf W (.asg s i o):=fun X XP k sc N mp m io S T nd mn st g0=>YO s i o S T nd mn st g0
theorem zaw (a:IE):QQ cf W (.expr a):=by
 intro X XP k sc N mp m io S T nd mn e g0
 obtain⟨⟨x,p⟩,eu,h⟩:=za g0
 clear g0
 cases Zq eu
 rw[Bool.and_eq_true] at h
 exact zbI (Q3 cf W a _ XP _ _ _ _ _ S T x h.2).1 (JS h.1)
theorem zcG (c:IE) (a b:IQs) (ih_a:QQs cf W a) (ih_b:QQs cf W b):QQ cf W (.ite c a b):=by
 intro X XP k sc N mp m io S T nd mn e g0
 obtain⟨⟨x,xs,ys,p⟩,eu,h⟩:=za g0
 clear g0
 cases vS eu
 simp only[Bool.and_eq_true] at h
 obtain⟨⟨h1,h2⟩,h3⟩:=h
 exact zco (Q3 cf W c _ XP _ _ _ _ _ S T x h1).2 (ih_a _ XP _ _ _ _ _ _ S T nd mn xs h2) (ih_b _ XP _ _ _ _ _ _ S T nd mn ys h3)
theorem zax:QQs cf W .nil:=by
 intro X XP k sc N mp m io S T nd mn e h
 cases e with
 | nil=>exact Kq
 | cons _ _=>exact Bool.noConfusion (show false=true from h)
theorem YR (s:IQ) (b:IQs) (ih_s:QQ cf W s) (ih_b:QQs cf W b):QQs cf W (.cons s b):=by
 intro X XP k sc N mp m io S T nd mn e h
 cases e with
 | nil=>exact Bool.noConfusion (show false=true from h)
 | cons x xs=>
  replace h:=Bool.and_eq_true_iff.mp h
  try simp only[Bool.and_eq_true] at h
  have h1:=ih_s _ XP _ _ _ _ _ io S T nd mn x h.1
  cases b with
  | nil=>
   cases xs with
   | nil=>exact Kr h1
   | cons _ _=>exact Bool.noConfusion (show false=true from h.2)
  | cons s2 b2=>exact Jh h1 (ih_b _ XP _ _ _ _ _ io S T nd mn xs h.2)
theorem ze7 (a:IQs):QQs cf W a:=IQs.rec (motive_1:=QQ cf W) (motive_2:=QQs cf W) zcF zaw zcG zax YR a
theorem zaC (b:IQs) (hs:List (Str×Nat×Nat×HC)):QS cf W (.tryq b hs):=by
 intro X XP k sc N mp m np io S T B st g0
 obtain⟨⟨body,hds,els,fn,p⟩,eu,g1⟩:=za g0
 clear g0
 cases Yz eu
 simp only[Bool.and_eq_true] at g1
 obtain⟨⟨⟨⟨h1,h2⟩,h3⟩,h4⟩,h5⟩:=g1
 cases els with
 | cons _ _=>cases h1
 | nil=>
 cases fn with
 | cons _ _=>cases h2
 | nil=>
 cases hds with
 | nil=>cases h3
 | cons hd hds=>
  obtain⟨zs,hz⟩:=zch S T hs (hd::hds) h4
  exact zd1 B.mn hz (fun x C y C2 hx hy=>T.mr x C y C2 hx.1 hx.2 hy.1 hy.2) (fun x C hx=>by
   obtain⟨C',e1,e2⟩:=T.ex x hx.1
   have:=hx.2
   rw[e1] at this
   cases this
   exact⟨e1,e2⟩) (fun pins D=>ze7 b _ _ _ _ _ _ _ _ (S.tried pins _) (T.tried pins _ (zdt B.sk B.fr B.nd hz.ks pins D)) B.nd B.mn body h5)
theorem zcD:QB cf W .nil:=by
 intro X XP k sc N mp m np io S T B e h
 cases e with
 | nil=>exact Kq
 | cons _ _=>exact Bool.noConfusion (show false=true from h)
theorem zat (s:IS) (b:IB) (ih_s:QS cf W s) (ih_b:QB cf W b):QB cf W (.cons s b):=by
 intro X XP k sc N mp m np io S T B e h
 cases e with
 | nil=>exact Bool.noConfusion (show false=true from h)
 | cons x xs=>
  replace h:=Bool.and_eq_true_iff.mp h
  try simp only[Bool.and_eq_true] at h
  have h1:=ih_s _ XP _ _ _ _ _ _ _ S T B x h.1
  have h2:=ih_b _ XP _ _ _ _ _ _ _ S T B xs h.2
  cases b with
  | nil=>
   cases xs with
   | nil=>exact Kr h1
   | cons _ _=>exact Bool.noConfusion (show false=true from h.2)
  | cons s' b'=>exact Jh h1 h2
  | disp _ _ _ _ _ _ _=>exact Jh h1 h2
  | junk _ _ _=>exact Jh h1 h2
theorem zX {kf:List (Str×Str)}{k f:Str}(h:kf.lookup k=some f):(k,f)∈kf:=by
 induction kf with
 | nil=>cases h
 | cons p r ih=>
  obtain⟨a,b⟩:=p
  rw[List.lookup_cons] at h
  cases q:(k==a) with
  | true=>
   rw[q] at h
   cases h
   have:=eq_of_beq q
   subst this
   exact List.mem_cons_self
  | false=>rw[q] at h; exact List.mem_cons_of_mem _ (ih h)
theorem zau (s i:Nat) (x:Str) (kf:List (Str×Str)) (n:Nat) (e:IE) (a:IA):QB cf W (.disp s i x kf n e a):=by
 intro X XP k sc N mp m np io S T B xs g0
 obtain⟨⟨st1,st2⟩,e1,g1⟩:=za g0
 clear g0
 cases qM e1
 obtain⟨⟨t,v,q2⟩,e2,g2⟩:=za g1
 clear g1
 cases qA e2
 obtain⟨⟨r,pr⟩,e3,g3⟩:=za g2
 clear g2
 cases zv e3
 obtain⟨⟨d,w,q1⟩,e4,g4⟩:=za g3
 clear g3
 cases qp e4
 obtain⟨⟨y,py⟩,e5,g5⟩:=za g4
 clear g4
 cases zv e5
 obtain⟨⟨o,q4⟩,e6,g6⟩:=za g5
 clear g5
 cases wX e6
 obtain⟨c,e7,g7⟩:=za g6
 clear g6
 cases e7
 obtain⟨⟨g,pg,as,q3⟩,e8,h⟩:=za g7
 clear g7
 cases Jj e8
 simp only[Bool.and_eq_true,decide_eq_true_eq] at h
 obtain⟨⟨⟨⟨⟨⟨⟨⟨⟨⟨⟨⟨⟨⟨⟨h1,h2⟩,h3⟩,h4⟩,h5⟩,h6⟩,h7⟩,h8⟩,h9⟩,h10⟩,h11⟩,h12⟩,h13⟩,h14⟩,h15⟩,h16⟩:=h
 subst h6 h11
 cases as with
 | nil=>cases h13
 | cons a1 as=>
  rw[List.all_cons,Bool.and_eq_true] at h14
  obtain⟨l1,l2⟩:=Wu S h3
  have hv:Vis X.env.scope g:=by
   rcases l1 with z | z
   ·exact .inl z
   ·exact .inr (.inl z)
  have hN:X.N[s]?=some g:=by rw[S.hN]; exact h1
  refine zbh (T.gd x kf h8) (S.glo _ h7) (j9 h9) T.px (fun key f hf=>T.fn f n (List.all_eq_true.mp h12 _ (zX hf))) T.rm (Q3 cf W e _ XP _ _ _ _ _ S T w h15).1
   (zbL (T.gd x kf h8) (S.glo _ h7) (j9 h9) ?_ B.nd hN l1 rfl l2) hN hv (j9 h4) (j9 h5) B.mn h2 (ze3 cf W a _ XP _ _ _ _ _ S T (a1::as) h16) (zt h14.1) (Zd (vH h14.2))
  intro ov iv
  cases w <;> first | rfl | (simp[qt] at h10)
theorem zay (s i t j:Nat) (o:IO):QS cf W (.asgP s i t j o):=by
 intro X XP k sc N mp m np io S T B st g0
 obtain⟨⟨tx,v,q⟩,e1,g1⟩:=za g0
 clear g0
 cases qA e1
 obtain⟨⟨es,kk,pt⟩,e2,g2⟩:=za g1
 clear g1
 cases jY e2
 obtain⟨⟨a,b⟩,e3,g3⟩:=za g2
 clear g2
 cases qM e3
 obtain⟨⟨x,px⟩,e4,g4⟩:=za g3
 clear g3
 cases zv e4
 obtain⟨⟨y,py⟩,e5,h⟩:=za g4
 clear g4
 cases zv e5
 simp only[Bool.and_eq_true,decide_eq_true_eq] at h
 obtain⟨⟨⟨⟨⟨⟨⟨⟨h1,h2⟩,h3⟩,h4⟩,h5⟩,h6⟩,h7⟩,h8⟩,h9⟩:=h
 obtain⟨l1,l2⟩:=Wu S h3
 obtain⟨l3,l4⟩:=Wu S h6
 exact zbH T.calm B.nd (by rw[S.hN]; exact h1) l1 l2 (by rw[S.hN]; exact h4) l3 l4 B.mn h2 h5 h7 (KE cf W o _ XP _ _ _ _ _ S T v h9) (Zo h8) (jy h8)
theorem zav (s i:Nat) (b:IB) (ih_b:QB cf W b):QB cf W (.junk s i b):=by
 intro X XP k sc N mp m np io S T B e h
 match e,h with
 | [],h=>exact Bool.noConfusion (show false=true from h)
 | [_],h=>exact Bool.noConfusion (show false=true from h)
 | st1::st2::xs,g0=>
  obtain⟨⟨x,p1,k0,p2,f,a1,as,q1,q2⟩,e1,g1⟩:=za g0
  clear g0
  cases wO e1
  obtain⟨a,e2,g2⟩:=za g1
  clear g1
  cases zZ e2
  obtain⟨⟨y1,y2,p3⟩,e3,g3⟩:=za g2
  clear g2
  cases qp e3
  obtain⟨⟨x2,p4⟩,e4,g4⟩:=za g3
  clear g3
  cases zv e4
  obtain⟨⟨x3,p5,k3,p6,f3,a2,as3,q3,q4⟩,e5,g5⟩:=za g4
  clear g4
  cases wO e5
  obtain⟨a3,e6,g6⟩:=za g5
  clear g5
  cases zZ e6
  obtain⟨⟨c1,j1,r1⟩,e7,g7⟩:=za g6
  clear g6
  cases zQ e7
  obtain⟨⟨c2,j2,r2⟩,e8,g8⟩:=za g7
  clear g7
  cases zQ e8
  obtain⟨⟨c3,j3,r3⟩,e9,g9⟩:=za g8
  clear g8
  cases zQ e9
  obtain⟨⟨c4,j4,r4⟩,e10,h⟩:=za g9
  clear g9
  cases zQ e10
  simp only[Bool.and_eq_true,decide_eq_true_eq] at h
  obtain⟨⟨⟨⟨⟨⟨⟨⟨⟨⟨⟨h1,h2⟩,h3⟩,h4⟩,h5⟩,h6⟩,h7⟩,h8⟩,h9⟩,h10⟩,h11⟩,h12⟩:=h
  subst h2 h3 h4 h5 h8 h9 h10 h11
  exact zbi (JA S h1) (ih_b _ XP _ _ _ _ _ _ _ S T B xs h12) h6 h7
theorem zcn (cf:CF) (W:Wd) (a:IB):QB cf W a :=
 IB.rec (motive_1:=QS cf W) (motive_2:=QB cf W) zaB zcJ zcI zaz zcK zaA zcL zcH zcM YT zaC zay zcD zat zau zav a
end
end L3
set_option maxHeartbeats 4000000
namespace L3
open PySem PySem.Spec PyProof.Rows L2
variable [Cs]
inductive Kd where
 | fn
 | me (c m:Str)
 | ini (c:Str)
 deriving DecidableEq
structure DefI where
 name:Str
 st:Stmt
 ps:List Str
 N:List Str
 mask:List Bool
 io:List Nat
 body:IB
 kd:Kd:=.fn
noncomputable def outs:List Bool->Gv->List (Option OV)
 | [],_=> []
 | _::bs,[]=>none::outs bs []
 | b::bs,x::Γ=>(if b then x else none)::outs bs Γ
theorem JC:∀ (bs:List Bool) (Γ:Gv),(outs bs Γ).length=bs.length
 | [],_=>rfl
 | _::bs,[]=>by rw[outs,List.length_cons,JC,List.length_cons]
 | b::bs,x::Γ=>by rw[outs,List.length_cons,JC,List.length_cons]
theorem JB:∀ {bs:List Bool}{Γ:Gv}{j:Nat}{o:OV},(outs bs Γ)[j]?=some (some o)->bs[j]?=some true/\Γ[j]?=some (some o)
 | [],_,_,_,h=>by simp[outs] at h
 | b::bs,[],0,_,h=>by simp[outs] at h
 | b::bs,[],j+1,o,h=>by
  have:=JB (bs:=bs) (Γ:= []) (j:=j) (o:=o) (by simpa [outs] using h)
  simp at this
 | b::bs,x::Γ,0,o,h=>by
  simp only[outs,List.getElem?_cons_zero,Option.some.injEq] at h
  split at h
  ·rename_i hb; subst h; exact⟨by simp[hb],rfl⟩
  ·cases h
 | b::bs,x::Γ,j+1,o,h=>by
  have:=JB (bs:=bs) (Γ:=Γ) (j:=j) (o:=o) (by simpa [outs] using h)
  simpa using this
noncomputable def fin (mask:List Bool):R (FL×Gv)->RF
 | .ok (.ret o,Γ)=>.ok o (outs mask Γ)
 | .ok (.next,Γ)=>.ok (.d .none) (outs mask Γ)
 | .exc x Γ=>.exc x (outs mask Γ)
 | _=>.bad
noncomputable def DefI.run (d:DefI) (cf:CF) (args:List OV):RF:=if args.length=d.mask.length then fin d.mask (d.body.ex cf d.io (args.map some++List.replicate (d.N.length-d.mask.length) none)) else .bad
theorem DefI.run_lenX {d:DefI}{cf:CF}{args:List OV}(h:d.run cf args≠ .bad):args.length=d.mask.length:=by
 unfold DefI.run at h
 split at h
 ·assumption
 ·exact absurd rfl h
noncomputable def zk (defs:List DefI):Nat->CF
 | 0,_,_=>.bad
 | n+1,x,args=>match defs.find? fun d=>decide (d.name=x) with
  | some d=>d.run (zk defs n) args
  | none=>.bad
section
variable {M0:Addr->Prop} {F:Fp} {Γ:Gv} {ν:Nu} {H:Hp}
theorem RS.outs {o:OV}{v:V}{mask:List Bool}{us:List V}(r:RS M0 F (Γ++ [some o]) (ν++ [some v]) H) (hu:us.length=mask.length) (hν:∀ j:Nat,mask[j]?=some true->ν[j]?=(us[j]?).map some) :
  ∃ F',RS M0 F' (outs mask Γ++ [some o]) (us.map some++ [some v]) H/\Stp F H F' H:=by
 have hνl:ν.length=Γ.length:=by have:=r.len; simpa using this
 have hjl:∀ j:Nat,mask[j]?=some true->j<Γ.length:=fun j hj=>by
  have h1:j<us.length:=by rw[hu]; exact (List.getElem?_eq_some_iff.mp hj).1
  have h2:=hν j hj
  rw[List.getElem?_eq_getElem h1] at h2
  have:=(List.getElem?_eq_some_iff.mp h2).1
  omega
 let n:=mask.length
 let F':Fp:=fun j=>if j<n then (if mask[j]?=some true then F j else []) else if j=n then F Γ.length else []
 have g1:∀ j,j<n->mask[j]?=some true->F' j=F j:=fun j h1 h2=>by show (if j<n then _ else _)=_; rw[if_pos h1,if_pos h2]
 have g2:∀ j,j<n->mask[j]?≠some true->F' j= []:=fun j h1 h2=>by show (if j<n then _ else _)=_; rw[if_pos h1,if_neg h2]
 have g3:F' n=F Γ.length:=by show (if n<n then _ else _)=_; rw[if_neg (Nat.lt_irrefl _),if_pos rfl]
 have g4:∀ j,n<j->F' j= []:=fun j h=>by show (if j<n then _ else _)=_; rw[if_neg (by omega),if_neg (by omega)]
 have cls:∀ j a,a∈F' j->(j<n/\mask[j]?=some true/\a∈F j)∨(j=n/\a∈F Γ.length):=fun j a h=>by
  by_cases h1:j<n
  ·by_cases h2:mask[j]?=some true
   ·rw[g1 j h1 h2] at h; exact .inl ⟨h1,h2,h⟩
   ·rw[g2 j h1 h2] at h; cases h
  ·by_cases h2:j=n
   ·subst h2; rw[g3] at h; exact .inr ⟨rfl,h⟩
   ·rw[g4 j (by omega)] at h; cases h
 have st:Stp F H F' H:=jX fun j a h=>by
  rcases cls j a h with ⟨_,_,h⟩ | ⟨_,h⟩
  ·exact⟨_,h⟩
  ·exact⟨_,h⟩
 have hol:(L3.outs mask Γ).length=n:=JC _ _
 refine⟨F',⟨r.al0,fun j a h=>?_,fun j=>?_,fun j k a h1 h2=>?_,fun j p e=>?_,fun j h=>?_,by simp[hol,hu,n]⟩,st⟩
 ·rcases cls j a h with ⟨_,_,h⟩ | ⟨_,h⟩
  ·exact r.dis0 _ a h
  ·exact r.dis0 _ a h
 ·by_cases h1:j<n
  ·by_cases h2:mask[j]?=some true
   ·rw[g1 j h1 h2]; exact r.nd _
   ·rw[g2 j h1 h2]; exact .nil
  ·by_cases h2:j=n
   ·subst h2; rw[g3]; exact r.nd _
   ·rw[g4 j (by omega)]; exact .nil
 ·rcases cls j a h1 with ⟨l1,m1,z1⟩ | ⟨rfl,z1⟩
  ·rcases cls k a h2 with ⟨l2,m2,z2⟩ | ⟨rfl,z2⟩
   ·exact r.dis _ _ a z1 z2
   ·have:=r.dis _ _ a z1 z2; have:=hjl _ m1; omega
  ·rcases cls k a h2 with ⟨l2,m2,z2⟩ | ⟨rfl,z2⟩
   ·have:=r.dis _ _ a z1 z2; have:=hjl _ m2; omega
   ·rfl
 ·by_cases hj:j<n
  ·rw[List.getElem?_append_left (by omega)] at e
   obtain⟨hm,hg⟩:=JB e
   have hjj:=hjl j hm
   obtain⟨w,ew,q⟩:=r.at' j p (by rw[List.getElem?_append_left (by omega)]; exact hg)
   rw[List.getElem?_append_left (by omega),hν j hm] at ew
   refine⟨w,?_,?_⟩
   ·rw[List.getElem?_append_left (by simp[hu]; exact hj),List.getElem?_map]; exact ew
   ·rw[g1 j hj hm]; exact q.go (fun _ _ x=>zm st r.al0 x) st.tups fun _ _=>rfl
  ·have hjn:j=n:=by
    have:=(List.getElem?_eq_some_iff.mp e).1
    simp[hol] at this; omega
   subst hjn
   rw[List.getElem?_append_right (by omega),hol] at e
   have:o=p:=by simpa using e
   subst this
   obtain⟨w,ew,q⟩:=r.at' Γ.length o (by rw[List.getElem?_append_right (Nat.le_refl _)]; simp)
   rw[List.getElem?_append_right (by omega),hνl] at ew
   have:v=w:=by simpa using ew
   subst this
   refine⟨v,?_,?_⟩
   ·rw[List.getElem?_append_right (by simp[hu,n]),List.length_map,hu]; simp[n]
   ·rw[g3]; exact q.go (fun _ _ x=>zm st r.al0 x) st.tups fun _ _=>rfl
 ·by_cases hj:j<n
  ·by_cases hm:mask[j]?=some true
   ·rw[g1 j hj hm]
    have hjj:=hjl j hm
    refine r.emp j fun p ep=>?_
    rw[List.getElem?_append_left (by omega)] at ep
    refine h p ?_
    rw[List.getElem?_append_left (by omega)]
    exact outs_put hm ep
   ·exact g2 j hj hm
  ·by_cases hjn:j=n
   ·subst hjn
    exact absurd (by rw[List.getElem?_append_right (by omega),hol]; simp[n]) (h o)
   ·exact g4 j (by omega)
where
 outs_put:∀ {bs:List Bool} {Γ:Gv} {j:Nat} {o:OV},bs[j]?=some true->Γ[j]?=some (some o)->(L3.outs bs Γ)[j]?=some (some o)
  | [],_,_,_,h,_=>by simp at h
  | b::bs,[],_,_,_,h=>by simp at h
  | b::bs,x::Γ,0,o,h,e=>by
   simp at h e
   subst h e
   simp[L3.outs]
  | b::bs,x::Γ,j+1,o,h,e=>by
   have:=outs_put (bs:=bs) (Γ:=Γ) (j:=j) (o:=o) (by simpa using h) (by simpa using e)
   simpa [L3.outs] using this
end
noncomputable def JM (N ps:List Str) (sc:Scope):Bool:=decide (sc.kind=.function)&& !sc.isCoroutine&& !sc.isGenerator&&decide N.Nodup&&decide (N.take ps.length=ps)&&ps.all (fun x=>decide (sc.names.lookup x=some .local)||decide (sc.names.lookup x=some .cell))&&sc.names.all (fun y=>decide (y.2≠ .free))
theorem JN {N ps:List Str}{sc:Scope}(h:JM N ps sc=true):qO N ps sc:=by
 unfold JM at h
 simp only[Bool.and_eq_true,decide_eq_true_eq,List.all_eq_true,Bool.or_eq_true,Bool.not_eq_true'] at h
 obtain⟨⟨⟨⟨⟨⟨h1,h2⟩,h3⟩,h4⟩,h5⟩,h6⟩,h7⟩:=h
 exact⟨h1,h2,h3,h4,h5,h6,h7⟩
noncomputable def DefI.ok (W:Wd) (d:DefI):Bool:=JM d.N d.ps (defScope d.st)&&decide (d.ps.length=d.mask.length)&&d.io.all (fun i=>decide (d.mask[i]?=some true))&&(List.range d.mask.length).all (fun j=>decide (d.mask[j]?≠some true)||d.io.contains j)
 && d.body.chk W (defScope d.st) d.N (List.range d.N.length) d.N.length d.mask.length (defBody d.st)
structure WK (P:Program) (w:World) (K:PySem.W.Frag) (mg:Str->Option Value) (base:Heap) (cf:CF) (W:Wd) (k:Nat):Prop where
 bi:∀ x,W.bi.contains x=true->mg x=none
 gi:∀ x i,W.gi.contains (x,i)=true->∃ t,mg x=some (.int i t)
 gs:∀ x i,W.gs.contains (x,i)=true->∃ t,mg x=some (.str i t)
 fn:∀ x n,W.fl.contains (x,n)=true->Kn P w K mg base (CX1 P w) x k (spX mg n (cf x))/\∀ args,cf x args≠ .bad->args.length=n
 ex:∀ x,W.ex.contains x=true->∃ C,mg x=some (.ref C)/\PySem.W.excIn K C bmV "ValueError.__new__" =true
 mr:∀ x C y C2,W.ex.contains x=true->mg x=some (.ref C)->W.ex.contains y=true->mg y=some (.ref C2)->(mroIn K C).contains (.ref C2)=decide (x=y)
 gd:∀ x kf,W.gd.contains (x,kf)=true->GD w K mg x kf
 fk:∀ c f,W.fk.contains (c,f)=true->Cls K (Cs.adr c)/\Za K (Cs.adr c) f
 mc:∀ c q n,W.mc.contains (c,q,n)=true->mg c=some (.ref (Cs.adr c))/\(∃ j,j+1<=k/\KnI P w K mg base (CX1 P w) (Cs.adr c) j (spX mg n (cf q)))/\∀ args,cf q args≠ .bad->args.length=n
 ml:∀ c m q n,W.ml.contains (c,m,q,n)=true->KnM P w K mg base (CX1 P w) (Cs.adr c) m k (spX mg n (cf q))/\∀ args,cf q args≠ .bad->args.length=n
noncomputable def Lk (K:PySem.W.Frag) (mg:Str->Option Value) (f:Addr) (nm:Str):Kd->Prop
 | .fn=>mg nm=some (.ref f)
 | .me c m=>Cls K (Cs.adr c)/\zcv K (Cs.adr c) m f
 | .ini c=>Mk K (Cs.adr c) f/\mg c=some (.ref (Cs.adr c))
structure Dx (K:PySem.W.Frag) (mg:Str->Option Value) (d:DefI):Prop where
 ex:∃ (x:Str) (f:Addr) (fd:FuncData),Fun K x d.name d.st f fd/\Binds K fd d.ps []/\Lk K mg f d.name d.kd
section
variable {P:Program} {w:World} {K:PySem.W.Frag} {mg:Str->Option Value} {base:Heap} {cf:CF} {W:Wd} {k:Nat}
theorem zei {N:List Str}{x:Str}{sc:Scope}{f:Addr}{cdv:Value}{A:Around}{outer:List Env}{s:Shared}{H:Hp}{E:XK}:XSc (Zh CX0 P w K mg base N x sc f cdv A outer s H E).nox sc N where
 hN:=rfl
 vis x h:=by
  unfold zab at h
  simp only[Bool.or_eq_true,decide_eq_true_eq] at h
  rcases h with (h | h) | h
  ·exact .inl h
  ·exact .inr (.inl h)
  ·exact .inr (.inr h)
 loc x h:=h
 cel x h:=⟨h,rfl⟩
 fre x h:=.inr h
 glo x h:=by
  unfold Wo at h
  simp only[decide_eq_true_eq] at h
  exact h
theorem zb2 {N:List Str}{x:Str}{sc:Scope}{f:Addr}{cdv:Value}{A:Around}{outer:List Env}{s:Shared}{H:Hp}{E:XK}:XSc (Zh (CX1 P w) P w K mg base N x sc f cdv A outer s H E) sc N where
 hN:=rfl
 vis x h:=by
  unfold zab at h
  simp only[Bool.or_eq_true,decide_eq_true_eq] at h
  rcases h with (h | h) | h
  ·exact .inl h
  ·exact .inr (.inl h)
  ·exact .inr (.inr h)
 loc x h:=h
 cel x h:=⟨h,rfl⟩
 fre x h:=.inr h
 glo x h:=by
  unfold Wo at h
  simp only[decide_eq_true_eq] at h
  exact h
theorem zbs {n:Nat}{ν:Nu}:Sees (List.range n) ν ν:=fun s i v e1 e2=>by
 have hs:s<n:=by
  have:=(List.getElem?_eq_some_iff.mp e1).1
  simpa using this
 rw[List.getElem?_range hs] at e1
 cases e1
 exact e2
theorem zds {N:List Str}{x:Str}{sc:Scope}{f:Addr}{cdv:Value}{A:Around}{outer:List Env}{s:Shared}{H:Hp}{E:XK} :
  WR (Zh (CX1 P w) P w K mg base N x sc f cdv A outer s H E) (fun x _ _ _ _ H'=>∀ C,mg x.cls=some (.ref C)->E (.ref C) none H'):=fun σ pins H1 s1 e s' E1 h I hc=>
 WX I rfl rfl rfl hc fun c H' q=>by
  obtain⟨x,Γ,F,ν,C,h1,rfl,h2⟩:=h c H' q
  exact h2 C h1
theorem V8 {x qual:Str}{st:Stmt}{f:Addr}{fd:FuncData}{N ps:List Str}{sp:Sp}(F:Fun K x qual st f fd) (S:qO N ps (defScope st)) (len:∀ vs H Q E,sp vs H Q E->vs.length=ps.length)
  (hbody:∀ (cdv:Value) (A:Around) (outer:List Env) (s:Shared) (H:Hp) (vs:List V) (Q:VK) (E:XK),Room k (A.deeper (envOfC qual (defScope st) s.heap.objs.size f cdv))->sp vs H Q E ->
   wpB (Zh (CX1 P w) P w K mg base N qual (defScope st) f cdv A outer s H E) (defBody st) { nx:=fun _ H'=>Q .non H',rt:=Q } (start N vs) H):FnOk P w K mg base (CX1 P w) (k+1) f fd ps sp:=by
 obtain⟨oc,od,kV,doc,pm,an,cdv,ct,osl,rfl,lk,hcd⟩:=F.ex
 exact zcg lk hcd S len fun A outer s H vs Q E hr hsp=>⟨_,qh,hbody cdv A outer s H vs Q E hr hsp⟩
theorem zew {d:DefI}{x:Str}{f:Addr}{fd:FuncData}(D:Fun K x d.name d.st f fd) (hok:d.ok W=true) (T:WK P w K mg base cf W k) (hk:1<=k):FnOk P w K mg base (CX1 P w) (k+1) f fd d.ps (spX mg d.mask.length (d.run cf)):=by
 unfold DefI.ok at hok
 simp only[Bool.and_eq_true,decide_eq_true_eq,List.all_eq_true,Bool.or_eq_true] at hok
 obtain⟨⟨⟨⟨h1,h2⟩,h3⟩,h4⟩,h5⟩:=hok
 have S:=JN h1
 have hNl:d.mask.length<=d.N.length:=by
  have:=congrArg List.length S.pre
  rw[List.length_take] at this; omega
 refine V8 D S (fun vs H Q E h=>by rw[h.1,h2]) fun cdv A outer s H vs Q E hr hsp=>?_
 obtain⟨hv,M0,F,args,rs,hm⟩:=hsp
 have hal:args.length=d.mask.length:=by have:=rs.len; simpa [hv] using this.symm
 have rs1:=rs.ext (d.N.length-d.mask.length)
 have hst:L2.start d.N vs=vs.map some++List.replicate (d.N.length-d.mask.length) none:=by unfold L2.start; rw[hv]
 rw[hst]
 have hsl:(vs.map some++List.replicate (d.N.length-d.mask.length) none:L2.St).length=d.N.length:=by simp[hv]; omega
 refine zcn cf W d.body (Zh (CX1 P w) P w K mg base d.N d.name (defScope d.st) f cdv A outer s H E) (fun x _ _ _ _ H'=>∀ C,mg x.cls=some (.ref C)->E (.ref C) none H') k (defScope d.st) d.N (List.range d.N.length) d.N.length d.mask.length d.io zb2
  ⟨T.bi,T.gi,T.gs,T.fn,hr,hk,rfl,T.ex,T.mr,T.gd,fun c f h=>⟨(T.fk c f h).1,(T.fk c f h).2⟩,T.mc,T.ml,zds⟩ ⟨PassesOwn.leaving,S.nd,List.nodup_range,fun i hi=>?_,(fun x Γ F ν σ H' h C hC pins s1 I h' ea args hm=>vq I rfl rfl rfl hm (h C hC)),rfl,rfl⟩ (defBody d.st) h5 M0 F _ _ _ H _ rs1 zbs hsl ?_
 ·exact (List.getElem?_eq_some_iff.mp (h3 i hi)).1
 ·have back:∀ {F':Fp} {Γ':Gv} {ν':Nu} {o:OV} {v:V} {H':Hp} {G:Prop},RS M0 F' (Γ'++ [some o]) (ν'++ [some v]) H'->(∀ i∈d.io,ν'[i]?=(vs.map some++List.replicate (d.N.length-d.mask.length) none:Nu)[i]?)->Stp F H F' H' ->
    (∀ F',RS M0 F' (outs d.mask Γ'++ [some o]) (vs.map some++ [some v]) H'->Stp F H F' H'->G)->G:=fun {F' Γ' ν' o v H' G} r' hn s' hq=>by
   obtain⟨F2,r2,s2⟩:=r'.outs hv fun j hj=>by
    have hjl:j<d.mask.length:=(List.getElem?_eq_some_iff.mp hj).1
    have hjm:j∈d.io:=by
     rcases h4 j (List.mem_range.mpr hjl) with z | z
     ·exact absurd hj z
     ·simpa using z
    rw[hn j hjm,List.getElem?_append_left (by simp[hv]; exact hjl),List.getElem?_map]
   exact hq F2 r2 (s'.trans s2)
  unfold DefI.run at hm
  rw[if_pos hal] at hm
  generalize d.body.ex cf d.io (args.map some++List.replicate (d.N.length-d.mask.length) none)=rr at hm
  cases rr with
  | bad=>exact hm.elim
  | exc x Γ'=>exact fun F' ν' σ' H' r' s' _ _ hn C hC=>back (r'.newD .none) hn s' fun F2 r2 s2=>hm C hC F2 H' r2 s2
  | ok z=>
   obtain⟨fl,Γ'⟩:=z
   cases fl with
   | brk=>exact hm.elim
   | cnt=>exact hm.elim
   | next=>
    intro F' ν' σ' H' r' s' hs' hl' hn
    exact back (r'.newD .none) hn s' fun F2 r2 s2=>hm F2 _ H' r2 s2
   | ret o=>
    intro F' ν' v H' r' s' hn
    exact back r' hn s' fun F2 r2 s2=>hm F2 v H' r2 s2
theorem zcW {d:DefI}{x:Str}{f:Addr}{fd:FuncData}(D:Fun K x d.name d.st f fd) (hok:d.ok W=true):FnOk P w K mg base (CX1 P w) 1 f fd d.ps (spX mg d.mask.length fun _=>.bad):=by
 unfold DefI.ok at hok
 simp only[Bool.and_eq_true,decide_eq_true_eq] at hok
 refine V8 (k:=0) D (JN hok.1.1.1.1) (fun vs H Q E h=>by rw[h.1,hok.1.1.1.2]) fun cdv A outer s H vs Q E hr hsp=>?_
 obtain⟨hv,M0,F,args,rs,hm⟩:=hsp
 exact hm.elim
noncomputable def wOk (defs:List DefI) (W:Wd):Bool:=W.fl.all (fun p=>okO (defs.find? fun d=>decide (d.name=p.1)) fun d=>decide (d.mask.length=p.2)&&decide (d.kd=.fn))
 && W.mc.all (fun p=>okO (defs.find? fun d=>decide (d.name=p.2.1)) fun d=>decide (d.mask.length=p.2.2)&&decide (d.kd=.ini p.1))
 && W.ml.all (fun p=>okO (defs.find? fun d=>decide (d.name=p.2.2.1)) fun d=>decide (d.mask.length=p.2.2.2)&&decide (d.kd=.me p.1 p.2.1))
theorem yz {defs:List DefI}{j:Nat}(hd:∀ d∈defs,Dx K mg d/\d.ok W=true) (hw:wOk defs W=true) (hbi:∀ x,W.bi.contains x=true->mg x=none)
  (hgi:∀ x i,W.gi.contains (x,i)=true->∃ t,mg x=some (.int i t)) (hgs:∀ x i,W.gs.contains (x,i)=true->∃ t,mg x=some (.str i t))
  (hex:∀ x,W.ex.contains x=true->∃ C,mg x=some (.ref C)/\PySem.W.excIn K C bmV "ValueError.__new__" =true) (hmr:∀ x C y C2,W.ex.contains x=true->mg x=some (.ref C)->W.ex.contains y=true->mg y=some (.ref C2)->(mroIn K C).contains (.ref C2)=decide (x=y)) (hgd:∀ x kf,W.gd.contains (x,kf)=true->GD w K mg x kf)
  (hfk:∀ c f,W.fk.contains (c,f)=true->Cls K (Cs.adr c)/\Za K (Cs.adr c) f)
  (hF:∀ (d:DefI) (x:Str) (f:Addr) (fd:FuncData),defs.find? (fun e=>decide (e.name=d.name))=some d->Fun K x d.name d.st f fd->d.ok W=true->FnOk P w K mg base (CX1 P w) j f fd d.ps (spX mg d.mask.length (cf d.name))/\∀ args,cf d.name args≠ .bad->args.length=d.mask.length) (hj:j+1<=k):WK P w K mg base cf W k:=by
 unfold wOk at hw
 simp only[Bool.and_eq_true,List.all_eq_true] at hw
 obtain⟨⟨w1,w2⟩,w3⟩:=hw
 have get:∀ (x:Str) (n:Nat) (kd:Kd),okO (defs.find? fun d=>decide (d.name=x)) (fun d=>decide (d.mask.length=n)&&decide (d.kd=kd))=true->∃ (d:DefI) (y:Str) (f:Addr) (fd:FuncData),d.name=x/\Fun K y d.name d.st f fd/\Binds K fd d.ps []/\Lk K mg f x kd/\FnOk P w K mg base (CX1 P w) j f fd d.ps (spX mg n (cf x))/\∀ args,cf x args≠ .bad->args.length=n:=fun x n kd h=>by
  obtain⟨d,e,h⟩:=za h
  simp only[Bool.and_eq_true,decide_eq_true_eq] at h
  obtain⟨rfl,rfl⟩:=h
  have hmem:=List.mem_of_find?_eq_some e
  have hnm:d.name=x:=by simpa using List.find?_some e
  subst hnm
  obtain⟨D,ok⟩:=hd d hmem
  obtain⟨y,f,fd,F,hb,lk⟩:=D.ex
  obtain⟨q1,q2⟩:=hF d y f fd e F ok
  exact⟨d,y,f,fd,rfl,F,hb,lk,q1,q2⟩
 refine⟨hbi,hgi,hgs,fun x n h=>?_,hex,hmr,hgd,hfk,fun c q n h=>?_,fun c m q n h=>?_⟩
 ·obtain⟨d,y,f,fd,e,F,hb,lk,q1,q2⟩:=get x n .fn (w1 (x,n) (List.elem_iff.mp h))
  exact⟨⟨f,fd,d.ps,q1.mono (by omega),lk,F.kp,hb⟩,q2⟩
 ·obtain⟨d,y,f,fd,e,F,hb,lk,q1,q2⟩:=get q n (.ini c) (w2 (c,q,n) (List.elem_iff.mp h))
  exact⟨lk.2,⟨j,hj,f,fd,d.ps,q1,lk.1,hb⟩,q2⟩
 ·obtain⟨d,y,f,fd,e,F,hb,lk,q1,q2⟩:=get q n (.me c m) (w3 (c,m,q,n) (List.elem_iff.mp h))
  exact⟨⟨f,fd,d.ps,q1.mono (by omega),lk.1,lk.2,hb⟩,q2⟩
theorem wk_all {defs:List DefI}(hd:∀ d∈defs,Dx K mg d/\d.ok W=true) (hw:wOk defs W=true) (hbi:∀ x,W.bi.contains x=true->mg x=none)
  (hgi:∀ x i,W.gi.contains (x,i)=true->∃ t,mg x=some (.int i t)) (hgs:∀ x i,W.gs.contains (x,i)=true->∃ t,mg x=some (.str i t))
  (hex:∀ x,W.ex.contains x=true->∃ C,mg x=some (.ref C)/\PySem.W.excIn K C bmV "ValueError.__new__" =true) (hmr:∀ x C y C2,W.ex.contains x=true->mg x=some (.ref C)->W.ex.contains y=true->mg y=some (.ref C2)->(mroIn K C).contains (.ref C2)=decide (x=y)) (hgd:∀ x kf,W.gd.contains (x,kf)=true->GD w K mg x kf)
  (hfk:∀ c f,W.fk.contains (c,f)=true->Cls K (Cs.adr c)/\Za K (Cs.adr c) f):∀ n,WK P w K mg base (zk defs n) W (2*n+2)
 | 0=>yz (j:=1) hd hw hbi hgi hgs hex hmr hgd hfk (fun d x f fd _ F ok=>⟨zcW F ok,fun args e=>absurd rfl e⟩) (by omega)
 | n+1=>yz (j:=2*n+2+1) hd hw hbi hgi hgs hex hmr hgd hfk (fun d x f fd e F ok=>by
   have ec:zk defs (n+1) d.name=d.run (zk defs n):=by
    funext args
    rw[zk,e]
   rw[ec]
   exact⟨zew F ok (wk_all hd hw hbi hgi hgs hex hmr hgd hfk n) (by omega),fun args e=>DefI.run_lenX e⟩) (by omega)
noncomputable def jZ (cells:List Int) (i l t s:Int):OV:=.l [.d (.list (cells.map .int)),.d (.int i),.d (.int l),.d (.int t),.d (.int s)]
theorem law_ok {st:Stmt}{fa:Addr}{fd:FuncData}{N:List Str}{x:Str}{kb:Nat}{body:IB}{rest:List Stmt}{pos' p3 p2 p pos:Pos}(Fn:Fun K "law" "law" st fa fd) (hS:JM N ["_law_script"] (defScope st)=true) (hkb:Kn P w K mg base CX0 "_law_box" kb (KH K)) (hkb2:kb<=k) (T:WK P w K mg base cf W k) (hk:1<=k)
  (hb:defBody st=.Assign [.Name x pos'] (.Call (.Name "_law_box" p3) [.Name "_law_script" p2] [] p) pos::rest) (hN0:N[0]?=some ("_law_script" :Str)) (hN1:N[1]?=some x) (hv0:(defScope st).names.lookup ("_law_script" :Str)=some .local) (hx:Loc (defScope st) x) (hg:(defScope st).names.lookup ("_law_box" :Str)=some .globalImplicit)
  (hchk:body.chk W (defScope st) N (List.range N.length) N.length 0 rest=true)
  (hrun:∀ (cells:List Int) (i l t s:Int),0<=i->∃ Γ',body.ex cf [] (none::some (jZ cells i l t s)::List.replicate (N.length-2) none)=.ok (.ret (.d (.bool true)),Γ')):FnOk P w K mg base CX0 (k+1) fa fd ["_law_script"] (yj K):=by
 have S:=JN hS
 refine Fn.law S fun cdv A outer s H Q E a ns hr hSq hlen kk=>?_
 have hl2:2<=N.length:=by have:=(List.getElem?_eq_some_iff.mp hN1).1; omega
 rw[hb]
 refine zef (X:=(Zh CX0 P w K mg base N "law" (defScope st) fa cdv A outer s H E).nox) (N:=N) S.nd hkb (hr.mono hkb2) hSq hlen (fun b σ1 H1 s1 nb hB rs1 l1=>?_) rfl hN0 hN1 (.inl hv0) hx (.inl rfl) hg rfl rfl
 obtain⟨c,cells,i,l,t,sd,B⟩:=hB
 have hσ:σ1[1]?=some (some (.ref b)):=rs1.av 1 (.ref b) (by
  rw[List.getElem?_set_self]
  simp
  exact hl2)
 have hF:∀ j a,a∈zC (fun _=> []) 1 [b] j->j=1/\a=b:=fun j a h=>by
  by_cases hj:j=1
  ·subst hj; rw[zd] at h; exact⟨rfl,by simpa using h⟩
  ·rw[zh hj] at h; cases h
 have hM:∀ a,MM zA (zC (fun _=> []) 1 [b]) a->a=b:=fun a h=>by
  rcases h with h | ⟨j,h⟩
  ·exact h.elim
  ·exact (hF j a h).2
 have rs:RS zA (zC (fun _=> []) 1 [b]) (none::some (jZ cells i l t sd)::List.replicate (N.length-2) none) (none::some (.ref b)::List.replicate (N.length-2) none) H1:=by
  refine⟨fun a h=>h.elim,fun j a h z=>z,fun j=>?_,fun j k a h1 h2=>by rw[(hF j a h1).1,(hF k a h2).1],fun j o e=>?_,fun j h=>?_,by simp⟩
  ·by_cases hj:j=1
   ·subst hj; rw[zd]; exact List.nodup_cons.mpr ⟨(fun z=>nomatch z),.nil⟩
   ·rw[zh hj]; exact .nil
  ·match j,e with
   | 0,e=>simp at e
   | 1,e=>
    have e':jZ cells i l t sd=o:=by simpa using e
    subst e'
    refine⟨.ref b,rfl,?_⟩
    rw[zd]
    refine .l B.hb (.cons (A:= []) (.d (B.hc.less fun a ha _=>hM a ha)) (.cons (A:= []) (.d (.int _)) (.cons (A:= []) (.d (.int _)) (.cons (A:= []) (.d (.int _)) (.cons (A:= []) (.d (.int _)) .nil)))))
   | j+2,e=>
    rw[List.getElem?_cons_succ,List.getElem?_cons_succ,List.getElem?_replicate] at e
    split at e <;> cases e
  ·by_cases hj:j=1
   ·subst hj; exact absurd rfl (h (jZ cells i l t sd))
   ·rw[zh hj]
 have sees:Sees (List.range N.length) (none::some (.ref b)::List.replicate (N.length-2) none) σ1:=fun s' j v e1 e2=>by
  have hs:s'<N.length:=by
   have:=(List.getElem?_eq_some_iff.mp e1).1
   simpa using this
  rw[List.getElem?_range hs] at e1
  cases e1
  match s',e2 with
  | 0,e2=>simp at e2
  | 1,e2=>
   have:V.ref b=v:=by simpa using e2
   subst this; exact hσ
  | j+2,e2=>
   rw[List.getElem?_cons_succ,List.getElem?_cons_succ,List.getElem?_replicate] at e2
   split at e2 <;> cases e2
 obtain⟨Γ',er⟩:=hrun cells i l t sd B.hi
 refine zcn cf W body (Zh CX0 P w K mg base N "law" (defScope st) fa cdv A outer s H E).nox XP0 k (defScope st) N (List.range N.length) N.length 0 [] zei ⟨T.bi,T.gi,T.gs,T.fn,hr,hk,rfl,T.ex,T.mr,T.gd,fun c f h=>⟨(T.fk c f h).1,(T.fk c f h).2⟩,T.mc,T.ml,yg⟩ ⟨PassesOwn.never,S.nd,List.nodup_range,(fun i hi=>nomatch hi),(fun _ _ _ _ _ _ h=>h.elim),rfl,rfl⟩ rest hchk zA _ _ _ σ1 H1 _ rs sees l1 ?_
 rw[er]
 intro F' ν' v H' r' s' hn
 obtain⟨w',ew,q⟩:=r'.at' Γ'.length (.d (.bool true)) (by rw[List.getElem?_append_right (Nat.le_refl _)]; simp)
 have hlen:=r'.len
 have hνl:ν'.length=Γ'.length:=by simpa using hlen
 rw[List.getElem?_append_right (by omega),hνl] at ew
 have:v=w':=by simpa using ew
 subst this
 generalize F' Γ'.length=Az at q
 cases q with
 | d q=>cases q; exact kk H'
end
noncomputable def csOf (mg:Str->Option Value):Cs:=⟨fun x=>match mg x with
 | some (.ref C)=>C
 | _=>0⟩
theorem zaE {mg:Str->Option Value}{c:Str}{C:Addr}(h:mg c=some (.ref C)):(csOf mg).adr c=C:=by
 show (match mg c with
  | some (.ref C)=>C
  | _=>0)=C
 rw[h]
section
variable {K:PySem.W.Frag} {mg:Str->Option Value} {h:Heap} {d:DefI}
theorem zO (hk:d.kd=.fn) (D:Df K mg d.name d.st d.ps): @Dx (csOf mg) K mg d:=by
 obtain⟨f,fd,F,hm,hb⟩:=D.ex
 exact @Dx.mk (csOf mg) _ _ _ ⟨d.name,f,fd,F,hb,by rw[hk]; exact hm⟩
structure WN (K:PySem.W.Frag) (c:Str) (C:Addr):Prop where
 n:PySem.W.nsIn K mainGlobals c=some (some (.ref C))
 cl:Cls K C
structure Dm (K:PySem.W.Frag) (q c m:Str) (st:Stmt) (ps:List Str):Prop where
 ex:∃ (C f:Addr) (fd:FuncData),WN K c C/\Fun K m q st f fd/\Binds K fd ps []/\zcv K C m f
structure Di (K:PySem.W.Frag) (q c:Str) (st:Stmt) (ps:List Str):Prop where
 ex:∃ (C f:Addr) (fd:FuncData),WN K c C/\Fun K "__init__" q st f fd/\Binds K fd ps []/\Mk K C f
theorem Dm.of {q c m:Str}{st:Stmt}{ps:List Str}{C f:Addr}{oc:Value}{od an:Option Addr}{sl:Array (Option Value)}{kV dc pm cd ct:Value}(o:WN K c C) (a:PySem.W.findIn K (.ref C) m=some (some (.ref f))) (fn:PySem.W.isFn K (.ref f)=true)
  (l:K.lookup f=some ⟨oc,od,.func (PySem.W.fnOf m q (qc st) (defBody st) (defScope st) .none kV dc pm an cd ct),sl⟩) (e:PySem.W.codeIn K cd q=true) (k:PySem.W.keepIn K (.ref f)=true)
  (hb:∀ (kV doc pm:Value) (an:Option Addr) (cdv ct:Value) (us:List Value),us.length=ps.length->bindArgs (PySem.W.fnOf m q (qc st) (defBody st) (defScope st) .none kV doc pm an cdv ct) ⟨us,[]⟩=pure (ps.zip us)):Dm K q c m st ps :=
 ⟨C,f,_,o,Zj (st:=st) l e k,(Zj (st:=st) l e k).binds hb,a,fn,k⟩
theorem Di.of {q c:Str}{st:Stmt}{ps:List Str}{C f:Addr}{oc:Value}{od an:Option Addr}{sl:Array (Option Value)}{kV dc pm cd ct:Value}(o:WN K c C) (mk:PySem.W.makesIn K C=true) (a:PySem.W.findIn K (.ref C) "__init__" =some (some (.ref f))) (fn:PySem.W.isFn K (.ref f)=true) (kc:PySem.W.keepIn K (.ref C)=true)
  (l:K.lookup f=some ⟨oc,od,.func (PySem.W.fnOf "__init__" q (qc st) (defBody st) (defScope st) .none kV dc pm an cd ct),sl⟩) (e:PySem.W.codeIn K cd q=true) (k:PySem.W.keepIn K (.ref f)=true)
  (hb:∀ (kV doc pm:Value) (an:Option Addr) (cdv ct:Value) (us:List Value),us.length=ps.length->bindArgs (PySem.W.fnOf "__init__" q (qc st) (defBody st) (defScope st) .none kV doc pm an cdv ct) ⟨us,[]⟩=pure (ps.zip us)):Di K q c st ps :=
 ⟨C,f,_,o,Zj (st:=st) l e k,(Zj (st:=st) l e k).binds hb,mk,a,fn,kc⟩
theorem zev {c f:Str}{C:Addr}(X:K.In h) (G:h.Ns mainGlobals mg) (o:WN K c C) (n:Za K C f):Cls K ((csOf mg).adr c)/\Za K ((csOf mg).adr c) f:=by
 rw[zaE (PySem.W.mg_of X G o.n)]
 exact⟨o.cl,n⟩
end
end L3
namespace Wx
open PySem L2 L3
scoped instance noCs:L2.Cs:=⟨fun _=>0⟩
noncomputable def jv:IB:=(.cons (.ret (.dat (.and (.isi "int" (.var 0 0)) (.not (.isi "bool" (.var 0 0)))))) .nil)
noncomputable def ju:IB:=(.cons (.asg 2 2 (.dat (.bin .Mod (.bin .Add (.bin .Add (.bin .Mult (.var 0 0) (.cint 48271)) (.bin .Mult (.var 1 1) (.cint 69621))) (.cint 12345)) (.cint 2147483647)))) (.cons (.asg 3 3 (.dat (.bin .Mod (.bin .Add (.bin .Add (.bin .Mult (.var 2 2) (.bin .Add (.bin .Mod (.var 2 2) (.cint 65521)) (.cint 7))) (.bin .Mult (.var 1 1) (.cint 40692))) (.bin .Mod (.var 0 0) (.cint 104729))) (.cint 998244353)))) (.cons (.ret (.dat (.bin .FloorDiv (.var 3 3) (.cint 7)))) .nil)))
noncomputable def qm:IB:=(.cons (.set 0 0 (.cint 3) (.bin .Add (.ix (.var 0 0) (.cint 3)) (.cint 1))) (.cons (.ite (.cmp .Gt (.ix (.var 0 0) (.cint 2)) (.cint 0)) (.cons (.asg 2 2 (.dat (.ix (.var 0 0) (.cint 2)))) (.cons (.set 0 0 (.cint 2) (.bin .FloorDiv (.var 2 2) (.var 1 1))) (.cons (.ret (.dat (.bin .Mod (.var 2 2) (.var 1 1)))) .nil))) .nil) (.cons (.ite (.cmp .GtE (.ix (.var 0 0) (.cint 1)) (.len (.ix (.var 0 0) (.cint 0)))) (.cons (.ret (.dat (.bin .Mod (.call (.call "_law_mixed" 2 (.cons (.ix (.var 0 0) (.cint 4)) (.cons (.ix (.var 0 0) (.cint 3)) .nil)))) (.var 1 1)))) .nil) .nil) (.cons (.asg 3 3 (.dat (.ix (.ix (.var 0 0) (.cint 0)) (.ix (.var 0 0) (.cint 1))))) (.cons (.set 0 0 (.cint 1) (.bin .Add (.ix (.var 0 0) (.cint 1)) (.cint 1))) (.cons (.ite (.cmp .Lt (.var 3 3) (.bin .Pow (.cint 10) (.cint 18))) (.cons (.ret (.dat (.bin .Mod (.call (.call "_law_mixed" 2 (.cons (.var 3 3) (.cons (.ix (.var 0 0) (.cint 3)) .nil)))) (.var 1 1)))) .nil) .nil) (.cons (.set 0 0 (.cint 2) (.bin .FloorDiv (.var 3 3) (.var 1 1))) (.cons (.ret (.dat (.bin .Mod (.var 3 3) (.var 1 1)))) .nil))))))))
noncomputable def b_law_lacks_1:IE:=(.tup (.cons (.call (.call "_law_take" 2 (.io 1 0 (.cons (.bin .Add (.var 2 2) (.cint 1)) .nil)))) (.cons (.call (.call "_law_take" 2 (.io 1 0 (.cons (.bin .Add (.var 2 2) (.cint 1)) .nil)))) .nil)))
noncomputable def b_law_lacks_2:IB:=(.cons (.ite (.cmp .Eq (.var 3 3) (.cint 0)) (.cons (.app 7 7 (.cmp .Eq (.call (.call "_law_take" 2 (.io 0 0 (.cons (.cint 2) .nil)))) (.cint 1))) .nil) (.cons (.ite (.cmp .Eq (.var 3 3) (.cint 1)) (.cons (.app 7 7 (.chain .LtE .Lt (.min (.var 8 8) (.var 9 9)) (.var 6 6) (.max (.var 8 8) (.var 9 9)))) .nil) (.cons (.ite (.cmp .Eq (.var 3 3) (.cint 2)) (.cons (.app 7 7 (.cmp .Lt (.var 6 6) (.var 8 8))) .nil) (.cons (.app 7 7 (.cmp .NotEq (.cmp .Lt (.var 6 6) (.var 8 8)) (.cmp .Eq (.var 6 6) (.var 9 9)))) .nil)) .nil)) .nil)) .nil)
noncomputable def b_law_lacks_3:IB:=(.cons (.asg 7 7 (.own (.lst .nil))) (.cons (.loop (.tp (.cons (.nm 8 8) (.cons (.nm 9 9) .nil))) (.list (.var 4 4)) b_law_lacks_2) (.cons (.app 5 5 (.frz 7 7)) .nil)))
noncomputable def jt:IB:=(.cons (.asg 3 3 (.dat (.call (.call "_law_take" 2 (.io 0 0 (.cons (.cint 4) .nil)))))) (.cons (.asg 4 4 (.dat (.new (.comp 10 1 [0,2] ["_law_dye","_law_box_here","_law_size"] (.nm 0 10) (.range (.var 1 1)) .yes b_law_lacks_1)))) (.cons (.asg 5 5 (.own (.lst .nil))) (.cons (.loop (.nm 6 6) (.range (.var 2 2)) b_law_lacks_3) (.cons (.ret (.move 5 5)) .nil)))))
noncomputable def b_law_cell_1:IB:=(.cons (.asg 7 7 (.dat (.call (.call "_law_take" 2 (.io 0 0 (.cons (.cint 9) .nil)))))) (.cons (.app 4 4 (.var 7 7)) (.cons (.app 5 5 (.bin .Add (.var 7 7) (.int (.var 6 6)))) (.cons (.ite (.and (.cmp .Gt (.var 2 2) (.cint 0)) (.cmp .Eq (.call (.call "_law_take" 2 (.io 0 0 (.cons (.var 2 2) .nil)))) (.cint 0))) (.cons (.set 4 4 (.neg (.cint 1)) (.call (.call "_law_take" 2 (.io 0 0 (.cons (.cint 10) .nil))))) (.cons (.set 5 5 (.neg (.cint 1)) (.call (.call "_law_take" 2 (.io 0 0 (.cons (.cint 10) .nil))))) .nil)) .nil) .nil))))
noncomputable def ji:IB:=(.cons (.asg 4 4 (.own (.lst .nil))) (.cons (.asg 5 5 (.own (.lst .nil))) (.cons (.loop (.nm 6 6) (.list (.var 1 1)) b_law_cell_1) (.cons (.ret (.dat (.tup (.cons (.tuple (.var 4 4)) (.cons (.and (.cmp .Gt (.var 3 3) (.cint 0)) (.cmp .Lt (.call (.call "_law_take" 2 (.io 0 0 (.cons (.cint 5) .nil)))) (.var 3 3))) (.cons (.tuple (.var 5 5)) .nil)))))) .nil))))
noncomputable def b_law_bolt_1:IE:=(.call (.call "_law_cell" 4 (.io 1 0 (.cons (.var 0 6) (.cons (.var 2 3) (.cons (.var 3 4) .nil))))))
noncomputable def Zc:IB:=(.cons (.asg 4 4 (.dat (.call (.call "_law_take" 2 (.io 0 0 (.cons (.cint 4) .nil)))))) (.cons (.asg 5 5 (.dat (.call (.call "_law_lacks" 3 (.io 0 0 (.cons (.var 1 1) (.cons (.var 2 2) .nil))))))) (.cons (.ret (.own (.comp 6 1 [0,3,4] ["_law_row","_law_box_here","_law_loose","_law_wet"] (.nm 0 6) (.list (.var 5 5)) .yes b_law_bolt_1))) .nil)))
noncomputable def qP:IB:=(.cons (.ite (.cmp .Eq (.call (.call "_law_take" 2 (.io 0 0 (.cons (.cint 8) .nil)))) (.cint 0)) (.cons (.ret (.dat (.tup (.cons (.call (.call "_law_take" 2 (.io 0 0 (.cons (.cint 13) .nil)))) (.cons (.call (.call "_law_take" 2 (.io 0 0 (.cons (.cint 41) .nil)))) .nil))))) .nil) .nil) (.cons (.ret (.dat (.tup (.cons (.call (.call "_law_take" 2 (.io 0 0 (.cons (.cint 7) .nil)))) (.cons (.call (.call "_law_take" 2 (.io 0 0 (.cons (.cint 9) .nil)))) .nil))))) .nil))
noncomputable def b_law_boil_1:IE:=(.tup (.cons (.ix (.ix (.var 1 0) (.var 0 1)) (.cint 0)) (.cons (.cbool false) (.cons (.ix (.ix (.var 1 0) (.var 0 1)) (.cint 2)) .nil))))
noncomputable def Zb:IB:=(.cons (.ret (.own (.comp 1 1 [0] ["_law_at","_law_rows"] (.nm 0 1) (.range (.len (.var 0 0))) .yes b_law_boil_1))) .nil)
noncomputable def p_with_wax_1:IE:=(.call (.call "has_cell" 2 (.cons (.var 1 0) (.cons (.var 0 2) .nil))))
noncomputable def p_with_wax_2:IE:=(.tup (.cons (.var 1 3) (.cons (.or (.var 2 4) (.cmp .In (.var 0 2) (.var 4 1))) (.cons (.var 3 5) .nil))))
noncomputable def qI:IB:=(.cons (.ite (.not (.all (.new (.comp 2 1 [0] ["at","bolt"] (.nm 0 2) (.tup (.var 1 1)) .yes p_with_wax_1)))) (.cons (.raise "NoCell") .nil) .nil) (.cons (.ite (.cmp .NotEq (.lset (.var 1 1)) (.len (.var 1 1))) (.cons (.raise "Twice") .nil) .nil) (.cons (.ret (.own (.comp 2 4 [1] ["at","stain","waxed","wish","cells"] (.tp (.cons (.nm 0 2) (.cons (.tp (.cons (.nm 1 3) (.cons (.nm 2 4) (.cons (.nm 3 5) .nil)))) .nil))) (.enum (.var 0 0)) .yes p_with_wax_2))) .nil)))
noncomputable def qH:IB:=(.cons (.ret (.dat (.chain .LtE .Lt (.cint 0) (.var 1 1) (.len (.var 0 0))))) .nil)
noncomputable def b_law_shades_1:IE:=(.call (.call "_law_whole" 1 (.cons (.var 0 2) .nil)))
noncomputable def jj:IB:=(.cons (.ret (.dat (.and (.isi "tuple" (.var 0 0)) (.and (.cmp .Eq (.len (.var 0 0)) (.var 1 1)) (.all (.new (.comp 2 1 [] ["_law_one"] (.nm 0 2) (.tup (.var 0 0)) .yes b_law_shades_1))))))) .nil)
noncomputable def b_law_cells_kind_1:IB:=(.cons (.ite (.or (.not (.isi "tuple" (.var 2 2))) (.or (.cmp .NotEq (.len (.var 2 2)) (.cint 3)) (.not (.isi "bool" (.ix (.var 2 2) (.cint 1)))))) (.cons (.ret (.dat (.cbool false))) .nil) .nil) (.cons (.ite (.or (.not (.call (.call "_law_shades" 2 (.cons (.ix (.var 2 2) (.cint 0)) (.cons (.var 1 1) .nil))))) (.not (.call (.call "_law_shades" 2 (.cons (.ix (.var 2 2) (.cint 2)) (.cons (.var 1 1) .nil)))))) (.cons (.ret (.dat (.cbool false))) .nil) .nil) .nil))
noncomputable def ql:IB:=(.cons (.ite (.not (.isi "list" (.var 0 0))) (.cons (.ret (.dat (.cbool false))) .nil) .nil) (.cons (.loop (.nm 2 2) (.list (.var 0 0)) b_law_cells_kind_1) (.cons (.ret (.dat (.cbool true))) .nil)))
noncomputable def js:IB:=(.cons (.ret (.dat (.and (.call (.call "_law_cells_kind" 2 (.cons (.var 0 0) (.cons (.var 2 2) .nil)))) (.cmp .Eq (.var 0 0) (.var 1 1))))) .nil)
noncomputable def b_law_place_1:IB:=(.cons (.ret (.dat (.ix (.new (.lst (.cons (.neg (.cint 1)) (.cons (.var 1 1) (.cons (.bin .Add (.bin .Add (.var 1 1) (.cint 1)) (.call (.call "_law_take" 2 (.io 0 0 (.cons (.cint 50) .nil))))) (.cons (.bin .Sub (.neg (.cint 1)) (.var 1 1)) .nil)))))) (.call (.call "_law_take" 2 (.io 0 0 (.cons (.cint 4) .nil))))))) .nil)
noncomputable def zS:IB:=(.cons (.ite (.and (.cmp .Gt (.var 1 1) (.cint 0)) (.cmp .Gt (.call (.call "_law_take" 2 (.io 0 0 (.cons (.cint 7) .nil)))) (.cint 0))) (.cons (.ret (.call "_law_take" 2 (.io 0 0 (.cons (.var 1 1) .nil)))) .nil) .nil) b_law_place_1)
noncomputable def b_law_picks_1:IB:=(.cons (.ite (.cmp .Eq (.var 2 2) (.cint 0)) (.cons (.app 4 4 (.call (.call "_law_place" 2 (.io 0 0 (.cons (.var 1 1) .nil))))) .nil) (.cons (.asg 6 6 (.dat (.call (.call "_law_take" 2 (.io 0 0 (.cons (.bin .Add (.var 1 1) (.cint 1)) .nil)))))) (.cons (.ite (.and (.cmp .Lt (.var 6 6) (.var 1 1)) (.cmp .NotIn (.var 6 6) (.var 4 4))) (.cons (.app 4 4 (.var 6 6)) .nil) .nil) .nil))) .nil)
noncomputable def qr:IB:=(.cons (.asg 2 2 (.dat (.call (.call "_law_take" 2 (.io 0 0 (.cons (.cint 3) .nil)))))) (.cons (.asg 3 3 (.dat (.call (.call "_law_take" 2 (.io 0 0 (.cons (.cint 7) .nil)))))) (.cons (.ite (.and (.cmp .Eq (.var 2 2) (.cint 2)) (.cmp .Eq (.var 3 3) (.cint 0))) (.cons (.ret (.dat (.tuple (.new (.back (.new (.lrng (.var 1 1))) (.neg (.cint 1))))))) .nil) .nil) (.cons (.asg 4 4 (.own (.lst .nil))) (.cons (.loop (.nm 5 5) (.range (.var 3 3)) b_law_picks_1) (.cons (.ret (.dat (.tuple (.var 4 4)))) .nil))))))
noncomputable def b_law_picks_word_1:IB:=(.cons (.ite (.or (.cmp .Lt (.var 2 2) (.cint 0)) (.cmp .GtE (.var 2 2) (.var 1 1))) (.cons (.ret (.dat (.cstr "NoCell"))) .nil) .nil) .nil)
noncomputable def zN:IB:=(.cons (.loop (.nm 2 2) (.tup (.var 0 0)) b_law_picks_word_1) (.cons (.ite (.cmp .Lt (.lset (.var 0 0)) (.len (.var 0 0))) (.cons (.ret (.dat (.cstr "Twice"))) .nil) .nil) (.cons (.ret (.dat (.cstr ""))) .nil)))
noncomputable def b_law_wax_1:IE:=(.tup (.cons (.ix (.ix (.var 1 0) (.var 0 2)) (.cint 0)) (.cons (.or (.ix (.ix (.var 1 0) (.var 0 2)) (.cint 1)) (.cmp .In (.var 0 2) (.var 2 1))) (.cons (.ix (.ix (.var 1 0) (.var 0 2)) (.cint 2)) .nil))))
noncomputable def ZM:IB:=(.cons (.ret (.own (.comp 2 1 [0,1] ["_law_at","_law_rows","_law_cells"] (.nm 0 2) (.range (.len (.var 0 0))) .yes b_law_wax_1))) .nil)
noncomputable def p_dipped_1:IE:=(.and (.not (.var 1 3)) (.cmp .GtE (.ix (.var 0 2) (.var 3 1)) (.gint "DEEPEST" (9))))
noncomputable def p_dipped_2:IE:=(.tup (.cons (.ite (.var 1 3) (.var 0 2) (.call (.call "deepened" 2 (.cons (.var 0 2) (.cons (.var 3 1) .nil))))) (.cons (.var 1 3) (.cons (.var 2 4) .nil))))
noncomputable def jg:IB:=(.cons (.ite (.any (.new (.comp 2 3 [1] ["stain","waxed","wish","dye"] (.tp (.cons (.nm 0 2) (.cons (.nm 1 3) (.cons (.nm 2 4) .nil)))) (.list (.var 0 0)) .yes p_dipped_1))) (.cons (.raise "TooDeep") .nil) .nil) (.cons (.ret (.own (.comp 2 3 [1] ["stain","waxed","wish","dye"] (.tp (.cons (.nm 0 2) (.cons (.nm 1 3) (.cons (.nm 2 4) .nil)))) (.list (.var 0 0)) .yes p_dipped_2))) .nil))
noncomputable def Zn:IB:=(.cons (.ret (.dat (.bin .Add (.bin .Add (.cutT (.var 0 0) .non (.one (.var 1 1))) (.tup (.cons (.bin .Add (.ix (.var 0 0) (.var 1 1)) (.cint 1)) .nil))) (.cutT (.var 0 0) (.one (.bin .Add (.var 1 1) (.cint 1))) .non)))) .nil)
noncomputable def b_law_dip_1:IE:=(.bin .Add (.ix (.var 1 3) (.var 0 6)) (.int (.cmp .Eq (.var 0 6) (.var 2 1))))
noncomputable def b_law_dip_2:IB:=(.cons (.ite (.not (.var 4 4)) (.cons (.asg 3 3 (.dat (.tuple (.new (.comp 6 1 [3,1] ["_law_k","_law_stain","_law_dye"] (.nm 0 6) (.range (.len (.var 3 3))) .yes b_law_dip_1))))) .nil) .nil) (.cons (.app 2 2 (.tup (.cons (.var 3 3) (.cons (.var 4 4) (.cons (.var 5 5) .nil))))) .nil))
noncomputable def qV:IB:=(.cons (.asg 2 2 (.own (.lst .nil))) (.cons (.loop (.tp (.cons (.nm 3 3) (.cons (.nm 4 4) (.cons (.nm 5 5) .nil)))) (.list (.var 0 0)) b_law_dip_2) (.cons (.ret (.move 2 2)) .nil)))
noncomputable def b_law_full_1:IE:=(.and (.not (.ix (.var 0 2) (.cint 1))) (.cmp .Eq (.ix (.ix (.var 0 2) (.cint 0)) (.var 1 1)) (.cint 9)))
noncomputable def qC:IB:=(.cons (.ret (.dat (.any (.new (.comp 2 1 [1] ["_law_cell_here","_law_dye"] (.nm 0 2) (.list (.var 0 0)) .yes b_law_full_1))))) .nil)
noncomputable def p_boiled_1:IE:=(.tup (.cons (.var 0 1) (.cons (.cbool false) (.cons (.var 2 3) .nil))))
noncomputable def JE:IB:=(.cons (.ret (.own (.comp 1 3 [] ["stain","waxed","wish"] (.tp (.cons (.nm 0 1) (.cons (.nm 1 2) (.cons (.nm 2 3) .nil)))) (.list (.var 0 0)) .yes p_boiled_1))) .nil)
end Wx
namespace Wx
open PySem L2 L3
noncomputable def qd:IB:=(.cons (.asg 3 3 (.dat (.ix (.var 2 2) (.cint 0)))) (.cons (.ite (.cmp .Eq (.var 3 3) (.cstr "wax")) (.cons (.ret (.pair2 5 (.call "with_wax" 2 (.cons (.var 0 0) (.cons (.ix (.var 2 2) (.cint 1)) .nil))) (.own (.list (.var 1 1))))) .nil) .nil) (.cons (.ite (.cmp .Eq (.var 3 3) (.cstr "boil")) (.cons (.ret (.pair2 5 (.call "boiled" 1 (.cons (.var 0 0) .nil)) (.own (.list (.var 1 1))))) .nil) .nil) (.cons (.asg 4 4 (.dat (.ix (.var 2 2) (.cint 1)))) (.cons (.ite (.not (.ix (.var 1 1) (.var 4 4))) (.cons (.raise "Spent") .nil) .nil) (.cons (.ret (.pair2 5 (.call "dipped" 2 (.cons (.var 0 0) (.cons (.var 4 4) .nil))) (.own (.cat (.new (.cat (.new (.cut (.var 1 1) .non (.one (.var 4 4)))) (.new (.lst (.cons (.cbool false) .nil))))) (.new (.cut (.var 1 1) (.one (.bin .Add (.var 4 4) (.cint 1))) .non)))))) .nil))))))
noncomputable def zz:IB:=(.cons (.ite (.cmp .Eq (.ix (.var 2 2) (.cint 0)) (.cstr "wax")) (.cons (.ret (.call "_law_picks_word" 2 (.cons (.ix (.var 2 2) (.cint 1)) (.cons (.len (.var 0 0)) .nil)))) .nil) .nil) (.cons (.ite (.and (.cmp .Eq (.ix (.var 2 2) (.cint 0)) (.cstr "dip")) (.not (.ix (.var 1 1) (.ix (.var 2 2) (.cint 1))))) (.cons (.ret (.dat (.cstr "Spent"))) .nil) .nil) (.cons (.ite (.and (.cmp .Eq (.ix (.var 2 2) (.cint 0)) (.cstr "dip")) (.call (.call "_law_full" 2 (.cons (.var 0 0) (.cons (.ix (.var 2 2) (.cint 1)) .nil))))) (.cons (.ret (.dat (.cstr "TooDeep"))) .nil) .nil) (.cons (.ret (.dat (.cstr ""))) .nil))))
noncomputable def qe:IB:=(.cons (.ite (.cmp .Eq (.ix (.var 2 2) (.cint 0)) (.cstr "wax")) (.cons (.ret (.dat (.tup (.cons (.call (.call "_law_wax" 2 (.cons (.var 0 0) (.cons (.ix (.var 2 2) (.cint 1)) .nil)))) (.cons (.var 1 1) .nil))))) .nil) .nil) (.cons (.ite (.cmp .Eq (.ix (.var 2 2) (.cint 0)) (.cstr "boil")) (.cons (.ret (.dat (.tup (.cons (.call (.call "_law_boil" 1 (.cons (.var 0 0) .nil))) (.cons (.var 1 1) .nil))))) .nil) .nil) (.cons (.ret (.dat (.tup (.cons (.call (.call "_law_dip" 2 (.cons (.var 0 0) (.cons (.ix (.var 2 2) (.cint 1)) .nil)))) (.cons (.new (.cat (.new (.cat (.new (.cut (.var 1 1) .non (.one (.ix (.var 2 2) (.cint 1))))) (.new (.lst (.cons (.cbool false) .nil))))) (.new (.cut (.var 1 1) (.one (.bin .Add (.ix (.var 2 2) (.cint 1)) (.cint 1))) .non)))) .nil))))) .nil)))
noncomputable def zM:IB:=(.cons (.asg 3 3 (.dat (.call (.call "_law_take" 2 (.io 0 0 (.cons (.cint 5) .nil)))))) (.cons (.ite (.cmp .Lt (.var 3 3) (.cint 2)) (.cons (.ret (.dat (.tup (.cons (.cstr "wax") (.cons (.call (.call "_law_picks" 2 (.io 0 0 (.cons (.var 2 2) .nil)))) .nil))))) .nil) .nil) (.cons (.ite (.cmp .Lt (.var 3 3) (.cint 4)) (.cons (.ret (.dat (.tup (.cons (.cstr "dip") (.cons (.call (.call "_law_take" 2 (.io 0 0 (.cons (.var 1 1) .nil)))) .nil))))) .nil) .nil) (.cons (.ret (.dat (.tup (.cons (.cstr "boil") .nil)))) .nil))))
noncomputable def zT:IB:=(.cons (.asg 3 3 (.dat (.cstr ""))) (.cons (.asg 4 4 (.dat .cnone)) (.cons (.tryq (.cons (.asg 4 4 (.call "moved" 3 (.cons (.var 0 0) (.cons (.var 1 1) (.cons (.var 2 2) .nil))))) .nil) [("NoCell",3,3,.s "NoCell"),("Twice",3,3,.s "Twice"),("Spent",3,3,.s "Spent"),("TooDeep",3,3,.s "TooDeep")]) (.cons (.ret (.pair (.var 3 3) (.move 4 4))) .nil))))
end Wx
set_option maxHeartbeats 4000000
namespace Wx
open PySem L2 L3
noncomputable def runI (n:Nat) (mask:List Bool) (io:List Nat) (body:IB) (cf:CF) (args:List OV):RF:=if args.length=mask.length then fin mask (body.ex cf io (args.map some++List.replicate (n-mask.length) none)) else .bad
end Wx
local macro_rules
  | `(tactic| simp![$xs,*])=>`(tactic| simp[$xs,*,Wx.runI,L3.fin,L3.outs,L3.IB.ex,L3.IS.ex,L3.IE.ev,L3.IL.ev,L3.IA.ev,L3.IN.ev,L3.IP.ev,L3.II.ev,L3.IC.ev,L3.IO.ev,L3.sSeq,L3.sNext,L3.sAsg,L3.sIf,L3.sRet,L3.sRetN,L3.sSet,L3.sApp,L3.sFor,L3.sAsgT,L3.sExpr,L3.fVar,L3.fFrz,L3.fC,L3.fBin,L3.fCmp,L3.fB,L3.fTru,L3.fNotT,L3.fAndT,L3.fOrT,L3.fAndV,L3.fOrV,L3.fIf,L3.fIx,L3.f1,L3.f2,L3.fChain,L3.fTup,L3.fLst,L3.fCons,L3.fNil,L3.fNew,L3.fOwn,L3.fOD,L3.fD,L3.fMove,L3.fCall,L3.fCallW,L3.aNil,L3.aCons,L3.aIo,L3.toArg,L3.toArgs,L3.ios,L3.putBack,L3.derf,L3.derS,L3.derSs,L3.derL,L3.leaves,L3.derfs,L3.itemF,L3.binD,L3.cmpD,L3.truD,L3.R.bind,L3.isOwn,L3.fSeqL,L3.fSeqT,L3.fRange,L3.fEnum,L3.fYes,L3.fComp,L3.fListC,L3.fTupC,L3.gLen,L3.lenD,L3.gInt,L3.gAll,L3.gAny,L3.gMin,L3.gMax,L3.gNeg,L3.fIsi,L3.isiB,L2.tyD,L3.tgF,L3.tgFs,L2.noL])
namespace Wx
open PySem L2 L3
theorem kL (cf:CF) (a b:Int):∃ r,runI 4 [false,false] [] ju cf [.d (.int a),.d (.int b)]=.ok (.d (.int r)) [none,none]:=by
 simp![ju,OV.view,OV.views,z9,ixN,atI]
 rw[if_pos]
 ·simp[outs]
 ·omega
noncomputable def VT (cf:CF):Prop:=∀ a b:Int,∃ r,cf "_law_mixed" [.d (.int a),.d (.int b)]=.ok (.d (.int r)) [none,none]
noncomputable def zu (b:OV):Prop:=∃ cells i l t s,0<=i/\b=jZ cells i l t s
noncomputable def YJ (b:OV) (n:Int) (x:RF):Prop:=∃ (r:Int) (b':OV),0<=r/\r<n/\zu b'/\x=.ok (.d (.int r)) [some b',none]
theorem zbP (cf:CF) (hm:VT cf){b:OV}(hb:zu b){n:Int}(h1:1<=n) (h2:n<1073741824):YJ b n (runI 4 [true,false] [0] qm cf [b,.d (.int n)]):=by
 obtain⟨cells,i,l,t,s,hi,rfl⟩:=hb
 have h0:0<n:=by omega
 have hp:((10:Int) ^ 18)=1000000000000000000:=by decide
 by_cases hl:0<l
 ·refine⟨l % n,jZ cells i (l / n) (t+1) s,Int.emod_nonneg _ (by omega),Int.emod_lt_of_pos _ h0,⟨_,_,_,_,_,hi,rfl⟩,?_⟩
  simp![qm,jZ,hl,h0,h2,OV.view,OV.views,z9,ixN,atI]
 ·by_cases hc:(cells.length:Int)<=i
  ·obtain⟨r,er⟩:=hm s (t+1)
   refine⟨r % n,jZ cells i l (t+1) s,Int.emod_nonneg _ (by omega),Int.emod_lt_of_pos _ h0,⟨_,_,_,_,_,hi,rfl⟩,?_⟩
   simp![qm,jZ,hl,hc,h0,h2,er,OV.view,OV.views,z9,ixN,atI]
  ·have hix:i.toNat<cells.length:=by omega
   have hlt:i<(cells.length:Int):=by omega
   have hg:cells[i.toNat]?=some cells[i.toNat]:=List.getElem?_eq_getElem hix
   by_cases hs:cells[i.toNat]<1000000000000000000
   ·obtain⟨r,er⟩:=hm cells[i.toNat] (t+1)
    refine⟨r % n,jZ cells (i+1) l (t+1) s,Int.emod_nonneg _ (by omega),Int.emod_lt_of_pos _ h0,⟨_,_,_,_,_,by omega,rfl⟩,?_⟩
    simp![qm,jZ,hl,hc,h0,h2,hi,hlt,hg,hs,hp,er,OV.view,OV.views,z9,ixN,atI]
   ·refine⟨cells[i.toNat] % n,jZ cells (i+1) (cells[i.toNat] / n) (t+1) s,Int.emod_nonneg _ (by omega),Int.emod_lt_of_pos _ h0,⟨_,_,_,_,_,by omega,rfl⟩,?_⟩
    simp![qm,jZ,hl,hc,h0,h2,hi,hlt,hg,hs,hp,OV.view,OV.views,z9,ixN,atI]
theorem je {t:IT}{body:SM}(I:List PyData->Gv->Prop){ds:List PyData}{Γ:Gv}(h0:I [] Γ)
  (hs:∀ pre d post,ds=pre++d::post->∀ Γ,I pre Γ->∃ Γ1 Γ2,tgF t d Γ=some Γ1/\body Γ1=.ok (.next,Γ2)/\I (pre++ [d]) Γ2):∃ Γ',qk t body ds Γ=.ok (.next,Γ')/\I ds Γ':=by
 suffices H:∀ post pre Γ,ds=pre++post->I pre Γ->∃ Γ',qk t body post Γ=.ok (.next,Γ')/\I ds Γ' from H ds [] Γ rfl h0
 intro post
 induction post with
 | nil=>intro pre Γ e h; rw[List.append_nil] at e; subst e; exact⟨Γ,rfl,h⟩
 | cons d post ih=>
  intro pre Γ e h
  obtain⟨Γ1,Γ2,e1,e2,h2⟩:=hs pre d post e Γ h
  obtain⟨Γ',e3,h3⟩:=ih (pre++ [d]) Γ2 (by rw[e]; simp) h2
  exact⟨Γ',by rw[qk,e1]; simp only[e2]; exact e3,h3⟩
theorem zU {k:Nat}{t:IT}{cond:EM Bool}{elt:EM FV}(I:List PyData->List PyData->Gv->Prop){ds:List PyData}{Γ:Gv}(h0:I [] [] Γ)
  (hs:∀ pre d post,ds=pre++d::post->∀ ys Γ,I pre ys Γ->∃ Γ2 c Γ3,tgF t d (Γ++List.replicate k none)=some Γ2/\cond Γ2=.ok (c,Γ3)/\(c=true->∃ u Γ4 y,elt Γ3=.ok (u,Γ4)/\derS Γ4 u=some y/\I (pre++ [d]) (ys++ [y]) (Γ4.take Γ.length))/\(c=false->I (pre++ [d]) ys (Γ3.take Γ.length))) :
  ∃ ys Γ',zY k t cond elt ds [] Γ=.ok (ys,Γ')/\I ds ys Γ':=by
 suffices H:∀ post pre ys Γ,ds=pre++post->I pre ys Γ->∃ ys' Γ',zY k t cond elt post ys Γ=.ok (ys',Γ')/\I ds ys' Γ' from H ds [] [] Γ rfl h0
 intro post
 induction post with
 | nil=>intro pre ys Γ e h; rw[List.append_nil] at e; subst e; exact⟨ys,Γ,rfl,h⟩
 | cons d post ih=>
  intro pre ys Γ e h
  obtain⟨Γ2,c,Γ3,e1,e2,ht,hf⟩:=hs pre d post e ys Γ h
  cases c with
  | true=>
   obtain⟨u,Γ4,y,e3,e4,h5⟩:=ht rfl
   obtain⟨ys',Γ',e6,h6⟩:=ih (pre++ [d]) _ _ (by rw[e]; simp) h5
   exact⟨ys',Γ',by rw[zY,e1]; simp only[e2,e3,e4]; exact e6,h6⟩
  | false=>
   obtain⟨ys',Γ',e6,h6⟩:=ih (pre++ [d]) _ _ (by rw[e]; simp) (hf rfl)
   exact⟨ys',Γ',by rw[zY,e1]; simp only[e2]; exact e6,h6⟩
theorem Qo {k:Nat}{t:IT}{cond:EM Bool}{elt:EM FV}(p:PyData->Bool) (f:PyData->PyData){ds:List PyData}{Γ:Gv}
  (hs:∀ d∈ds,∃ Γ2 Γ3,tgF t d (Γ++List.replicate k none)=some Γ2/\cond Γ2=.ok (p d,Γ3)/\Γ3.take Γ.length=Γ/\(p d=true->∃ u Γ4,elt Γ3=.ok (u,Γ4)/\derS Γ4 u=some (f d)/\Γ4.take Γ.length=Γ)) :
  zY k t cond elt ds [] Γ=.ok ((ds.filter p).map f,Γ):=by
 obtain⟨ys,Γ',e,hy,rfl⟩:=zU (k:=k) (t:=t) (cond:=cond) (elt:=elt) (fun pre ys Γ'=>ys=(pre.filter p).map f/\Γ'=Γ) (ds:=ds) (Γ:=Γ) ⟨rfl,rfl⟩ (by
  rintro pre d post e ys Γ' ⟨rfl,rfl⟩
  obtain⟨Γ2,Γ3,e1,e2,e3,h⟩:=hs d (by rw[e]; simp)
  refine⟨Γ2,p d,Γ3,e1,e2,fun hp=>?_,fun hp=>⟨by simp[List.filter_append,hp],e3⟩⟩
  obtain⟨u,Γ4,e4,e5,e6⟩:=h hp
  exact⟨u,Γ4,_,e4,e5,by simp[List.filter_append,hp],e6⟩)
 rw[e,hy]
noncomputable def qg (cf:CF):Prop:=∀ b,zu b->∀ n:Int,1<=n->n<1073741824->YJ b n (cf "_law_take" [b,.d (.int n)])
theorem KD (cf:CF) (ht:qg cf){b:OV}(hb:zu b):∃ (p n:Int) (b':OV),0<=p/\p<=12/\0<=n/\n<=40/\zu b'/\runI 1 [true] [0] qP cf [b]=.ok (.d (.tuple [.int p,.int n])) [some b']:=by
 obtain⟨r1,b1,h1,h1',hb1,e1⟩:=ht b hb 8 (by decide) (by decide)
 by_cases hr:r1=0
 ·obtain⟨r2,b2,h2,h2',hb2,e2⟩:=ht b1 hb1 13 (by decide) (by decide)
  obtain⟨r3,b3,h3,h3',hb3,e3⟩:=ht b2 hb2 41 (by decide) (by decide)
  refine⟨r2,r3,b3,h2,by omega,h3,by omega,hb3,?_⟩
  simp![qP,e1,e2,e3,hr,lay,PyData.eqv,OV.view,OV.views,z9,ixN,atI]
 ·obtain⟨r2,b2,h2,h2',hb2,e2⟩:=ht b1 hb1 7 (by decide) (by decide)
  obtain⟨r3,b3,h3,h3',hb3,e3⟩:=ht b2 hb2 9 (by decide) (by decide)
  refine⟨r2,r3,b3,h2,by omega,h3,by omega,hb3,?_⟩
  simp![qP,e1,e2,e3,hr,lay,PyData.eqv,OV.view,OV.views,z9,ixN,atI]
end Wx
set_option maxHeartbeats 4000000
namespace Wx
open PySem L2 L3
theorem QF {ds pre post:List PyData}{d:PyData}(e:ds=pre++d::post):pre.length<ds.length:=by rw[e]; simp
theorem Ko {n:Nat}{pre post:List PyData}{d:PyData}(e:zG n=pre++d::post):d=.int pre.length/\pre.length<n:=by
 have h:(zG n)[pre.length]?=some d:=by rw[e]; simp
 exact⟨(qK h).2,(qK h).1⟩
theorem Vn (cf:CF) (ht:qg cf){b:OV}(hb:zu b){pots way:Int}{size n:Nat}(hs:size<=1000){o4 o5 o6 o7 o8 o9:Option OV} :
  ∃ (ps:List (Int×Int)) (b':OV),ps.length=n/\zu b'/\zY 1 (.nm 0 10) fYes (b_law_lacks_1.ev cf).1 (zG n) [] [some b,some (.d (.int pots)),some (.d (.int size)),some (.d (.int way)),o4,o5,o6,o7,o8,o9]=.ok (ps.map fun p=>.tuple [.int p.1,.int p.2],[some b',some (.d (.int pots)),some (.d (.int size)),some (.d (.int way)),o4,o5,o6,o7,o8,o9]):=by
 obtain⟨ys,Γ',e,⟨ps,b',hp,hb',rfl,rfl⟩⟩:=zU (k:=1) (t:=.nm 0 10) (cond:=fYes) (elt:=(b_law_lacks_1.ev cf).1) (ds:=zG n) (Γ:= [some b,some (.d (.int pots)),some (.d (.int size)),some (.d (.int way)),o4,o5,o6,o7,o8,o9])
  (fun pre ys Γ=>∃ (ps:List (Int×Int)) (b':OV),ps.length=pre.length/\zu b'/\ys=ps.map (fun p=>PyData.tuple [.int p.1,.int p.2])/\Γ= [some b',some (.d (.int pots)),some (.d (.int size)),some (.d (.int way)),o4,o5,o6,o7,o8,o9]) ⟨[],b,rfl,hb,rfl,rfl⟩ (by
   rintro pre d post e ys Γ ⟨ps,b1,hp,hb1,rfl,rfl⟩
   obtain⟨r2,b2,h2,h2',hb2,e2⟩:=ht b1 hb1 (size+1) (by omega) (by omega)
   obtain⟨r3,b3,h3,h3',hb3,e3⟩:=ht b2 hb2 (size+1) (by omega) (by omega)
   refine⟨_,true,_,by simp[tgF]; rfl,rfl,fun _=>?_,fun z=>nomatch z⟩
   refine⟨.dat (.tuple [.int r2,.int r3]),[some b3,some (.d (.int pots)),some (.d (.int size)),some (.d (.int way)),o4,o5,o6,o7,o8,o9,some (.d d)],_,?_,rfl,ps++ [(r2,r3)],b3,by simp[hp],hb3,by simp,by simp⟩
   simp![b_law_lacks_1,e2,e3,OV.view,OV.views,z9,ixN,atI])
 rw[zl] at hp
 exact⟨ps,b',hp,hb',e⟩
theorem y6 (cf:CF) (ht:qg cf){b:OV}(hb:zu b){pots way:Int}{size:Nat}{at_:Nat}(ps:List (Int×Int)) (hps:ps.length<=1000){o4 o5 o8 o9:Option OV} :
  ∃ (bs:List Bool) (b':OV) (o8' o9':Option OV),bs.length=ps.length/\zu b'/\qk (.tp (.cons (.nm 8 8) (.cons (.nm 9 9) .nil))) (b_law_lacks_2.ex cf [0]) (ps.map fun p=>PyData.tuple [.int p.1,.int p.2]) [some b,some (.d (.int pots)),some (.d (.int size)),some (.d (.int way)),o4,o5,some (.d (.int at_)),some (.l []),o8,o9]
   = .ok (.next,[some b',some (.d (.int pots)),some (.d (.int size)),some (.d (.int way)),o4,o5,some (.d (.int at_)),some (.l (bs.map fun x=>.d (.bool x))),o8',o9']):=by
 obtain⟨Γ',e,⟨bs,b',o8',o9',hl,hb',rfl⟩⟩:=je (t:=.tp (.cons (.nm 8 8) (.cons (.nm 9 9) .nil))) (body:=b_law_lacks_2.ex cf [0]) (ds:=ps.map fun p=>PyData.tuple [.int p.1,.int p.2]) (Γ:= [some b,some (.d (.int pots)),some (.d (.int size)),some (.d (.int way)),o4,o5,some (.d (.int at_)),some (.l []),o8,o9])
  (fun pre Γ=>∃ (bs:List Bool) (b':OV) (o8' o9':Option OV),bs.length=pre.length/\zu b'/\Γ= [some b',some (.d (.int pots)),some (.d (.int size)),some (.d (.int way)),o4,o5,some (.d (.int at_)),some (.l (bs.map fun x=>.d (.bool x))),o8',o9']) ⟨[],b,o8,o9,rfl,hb,rfl⟩ (by
   rintro pre d post e Γ ⟨bs,b1,o8',o9',hl,hb1,rfl⟩
   have hlt:=QF e
   rw[List.length_map] at hlt
   obtain⟨p,-,rfl⟩:∃ p∈ps,PyData.tuple [.int p.1,.int p.2]=d:=by
    have:d∈ps.map fun p=>PyData.tuple [.int p.1,.int p.2]:=by rw[e]; simp
    exact List.mem_map.mp this
   have hsz:bs.length<1000000:=by omega
   have key:∃ (x:Bool) (b2:OV),zu b2/\b_law_lacks_2.ex cf [0] [some b1,some (.d (.int pots)),some (.d (.int size)),some (.d (.int way)),o4,o5,some (.d (.int at_)),some (.l (bs.map fun x=>.d (.bool x))),some (.d (.int p.1)),some (.d (.int p.2))]
     = .ok (.next,[some b2,some (.d (.int pots)),some (.d (.int size)),some (.d (.int way)),o4,o5,some (.d (.int at_)),some (.l ((bs++ [x]).map fun x=>.d (.bool x))),some (.d (.int p.1)),some (.d (.int p.2))]):=by
    by_cases h0:way=0
    ·obtain⟨r2,b2,h2,h2',hb2,e2⟩:=ht b1 hb1 2 (by decide) (by decide)
     refine⟨r2==1,b2,hb2,?_⟩
     simp![b_law_lacks_2,h0,e2,hsz,lay,PyData.eqv,OV.view,OV.views,z9,ixN,atI]
    ·by_cases h1:way=1
     ·refine⟨decide ((if p.2<p.1 then p.2 else p.1)<=(at_:Int))&&decide ((at_:Int)<(if p.2>p.1 then p.2 else p.1)),b1,hb1,?_⟩
      by_cases h3:(if p.2<p.1 then p.2 else p.1)<=(at_:Int)
      ·simp![b_law_lacks_2,h0,h1,h3,hsz,lay,PyData.eqv,OV.view,OV.views,z9,ixN,atI]
      ·simp![b_law_lacks_2,h0,h1,h3,hsz,lay,PyData.eqv,OV.view,OV.views,z9,ixN,atI]
     ·by_cases h2:way=2
      ·refine⟨decide ((at_:Int)<p.1),b1,hb1,?_⟩
       simp![b_law_lacks_2,h0,h1,h2,hsz,lay,PyData.eqv,OV.view,OV.views,z9,ixN,atI]
      ·refine⟨!(decide ((at_:Int)<p.1)==((at_:Int)==p.2)),b1,hb1,?_⟩
       simp![b_law_lacks_2,h0,h1,h2,hsz,lay,PyData.eqv,OV.view,OV.views,z9,ixN,atI]
   obtain⟨x,b2,hb2,ek⟩:=key
   exact⟨_,_,by simp[tgF,tgFs],ek,bs++ [x],b2,_,_,by simp[hl],hb2,rfl⟩)
 refine⟨bs,b',o8',o9',by rw[hl,List.length_map],hb',e⟩
noncomputable def zE (bs:List Bool):PyData:=.list (bs.map .bool)
theorem vW (bs:List Bool):OV.views (bs.map fun x=>.d (.bool x))=bs.map .bool:=by
 rw[OV.views_map,List.map_map]; rfl
noncomputable def VQ (pots size:Nat) (x:RF):Prop:=∃ (rows:List (List Bool)) (b':OV),rows.length=size/\(∀ r∈rows,r.length=pots)/\zu b'/\x=.ok (.l (rows.map fun r=>.d (zE r))) [some b',none,none]
theorem kD (cf:CF) (ht:qg cf){b:OV}(hb:zu b){pots size:Nat}(hp:pots<=1000) (hs:size<=1000):VQ pots size (runI 10 [true,false,false] [0] jt cf [b,.d (.int pots),.d (.int size)]):=by
 obtain⟨way,b1,h1,h1',hb1,e1⟩:=ht b hb 4 (by decide) (by decide)
 obtain⟨ps,b2,hpl,hb2,e2⟩:=Vn cf ht hb1 (pots:=pots) (way:=way) (size:=size) (n:=pots) hs (o4:=none) (o5:=none) (o6:=none) (o7:=none) (o8:=none) (o9:=none)
 obtain⟨Γ',e3,⟨rows,b3,o6,o7,o8,o9,hl,hr,hb3,rfl⟩⟩:=je (t:=.nm 6 6) (body:=b_law_lacks_3.ex cf [0]) (ds:=zG size) (Γ:= [some b2,some (.d (.int pots)),some (.d (.int size)),some (.d (.int way)),some (.d (.list (ps.map fun p=>.tuple [.int p.1,.int p.2]))),some (.l []),none,none,none,none])
  (fun pre Γ=>∃ (rows:List (List Bool)) (b':OV) (o6 o7 o8 o9:Option OV),rows.length=pre.length/\(∀ r∈rows,r.length=pots)/\zu b'/\Γ= [some b',some (.d (.int pots)),some (.d (.int size)),some (.d (.int way)),some (.d (.list (ps.map fun p=>.tuple [.int p.1,.int p.2]))),some (.l (rows.map fun r=>.d (zE r))),o6,o7,o8,o9]) ⟨[],b2,_,_,_,_,rfl,(fun _ h=>nomatch h),hb2,rfl⟩ (by
   rintro pre d post e Γ ⟨rows,b3,o6,o7,o8,o9,hl,hr,hb3,rfl⟩
   obtain⟨rfl,hlt⟩:=Ko e
   obtain⟨bs,b4,o8',o9',hbl,hb4,e4⟩:=y6 cf ht hb3 (pots:=pots) (way:=way) (size:=size) (at_:=pre.length) ps (by omega) (o4:=some (.d (.list (ps.map fun p=>.tuple [.int p.1,.int p.2])))) (o5:=some (.l (rows.map fun r=>.d (zE r)))) (o8:=o8) (o9:=o9)
   refine⟨_,[some b4,some (.d (.int pots)),some (.d (.int size)),some (.d (.int way)),some (.d (.list (ps.map fun p=>.tuple [.int p.1,.int p.2]))),some (.l ((rows++ [bs]).map fun r=>.d (zE r))),some (.d (.int pre.length)),some (.d (zE bs)),o8',o9'],by simp[tgF]; rfl,?_,rows++ [bs],b4,_,_,_,_,by simp[hl],?_,hb4,rfl⟩
   ·have hz:rows.length<1000000:=by omega
    simp![b_law_lacks_3,OV.view,OV.views,z9,ixN,atI]
    rw[e4]
    simp![hz,vW,zE,OV.view,OV.views,z9,ixN,atI]
   ·intro r h
    rcases List.mem_append.mp h with h | h
    ·exact hr r h
    ·have:r=bs:=by simpa using h
     subst this; rw[hbl,hpl])
 rw[zl] at hl
 refine⟨rows,b3,hl,hr,hb3,?_⟩
 have hp1: -1000000<=(pots:Int)/\(pots:Int)<=1000000:=by omega
 have hs1: -1000000<=(size:Int)/\(size:Int)<=1000000:=by omega
 have hp2:pots<=1000000:=by omega
 simp![jt,e1,e2,e3,hp1,hs1,hp2,zl,OV.view,OV.views,z9,ixN,atI]
theorem kr {α:Type}(f:Int->α) (xs:List Int) (a:α):(xs.map f++ [a])[xs.length]?=some a:=by
 rw[List.getElem?_append_right (by simp)]; simp
theorem KA {α:Type}(f:Int->α) (xs:List Int) (a b:α):(xs.map f++ [a]).set xs.length b=xs.map f++ [b]:=by
 rw[List.set_append_right _ _ (by simp)]; simp
noncomputable def zf (xs:List Int):PyData:=.tuple (xs.map .int)
noncomputable def qy (st:List Int) (w:Bool) (wi:List Int):PyData:=.tuple [zf st,.bool w,zf wi]
noncomputable def In9 (xs:List Int):Prop:=∀ x∈xs,0<=x/\x<=9
structure ZK (pots:Nat) (st wi:List Int):Prop where
 sl:st.length=pots
 wl:wi.length=pots
 sn:In9 st
 wn:In9 wi
theorem In9.snoc {xs:List Int}{x:Int}(h:In9 xs) (h1:0<=x) (h2:x<=9):In9 (xs++ [x]):=by
 intro y hy
 rcases List.mem_append.mp hy with hy | hy
 ·exact h y hy
 ·have:y=x:=by simpa using hy
  subst this; exact⟨h1,h2⟩
theorem QY (xs:List Int):leaves (xs.map fun x=>.d (.int x))=some (xs.map .int):=by
 induction xs with
 | nil=>rfl
 | cons x xs ih=>simp[leaves,ih]
noncomputable def YD (pots:Nat) (x:RF):Prop:=∃ (st wi:List Int) (w:Bool) (b':OV),ZK pots st wi/\zu b'/\x=.ok (.d (qy st w wi)) [some b',none,none,none]
theorem yO (cf:CF) (ht:qg cf){b:OV}(hb:zu b) (bs:List Bool) (hl:bs.length<=1000){loose wet:Int}(h0:0<=loose) (h1:loose<=1000) :
  ∃ (st wi:List Int) (b':OV) (o6 o7:Option OV),ZK bs.length st wi/\zu b'/\qk (.nm 6 6) (b_law_cell_1.ex cf [0]) (bs.map .bool) [some b,some (.d (zE bs)),some (.d (.int loose)),some (.d (.int wet)),some (.l []),some (.l []),none,none]
   = .ok (.next,[some b',some (.d (zE bs)),some (.d (.int loose)),some (.d (.int wet)),some (.l (st.map fun x=>.d (.int x))),some (.l (wi.map fun x=>.d (.int x))),o6,o7]):=by
 obtain⟨Γ',e,⟨st,wi,b',o6,o7,hc,hb',rfl⟩⟩:=je (t:=.nm 6 6) (body:=b_law_cell_1.ex cf [0]) (ds:=bs.map .bool) (Γ:= [some b,some (.d (zE bs)),some (.d (.int loose)),some (.d (.int wet)),some (.l []),some (.l []),none,none])
  (fun pre Γ=>∃ (st wi:List Int) (b':OV) (o6 o7:Option OV),ZK pre.length st wi/\zu b'/\Γ= [some b',some (.d (zE bs)),some (.d (.int loose)),some (.d (.int wet)),some (.l (st.map fun x=>.d (.int x))),some (.l (wi.map fun x=>.d (.int x))),o6,o7]) ⟨[],[],b,_,_,⟨rfl,rfl,(fun _ h=>nomatch h),(fun _ h=>nomatch h)⟩,hb,rfl⟩ (by
   rintro pre d post e Γ ⟨st,wi,b1,o6,o7,hc,hb1,rfl⟩
   have hlt:=QF e
   rw[List.length_map] at hlt
   obtain⟨x,-,rfl⟩:∃ x∈bs,PyData.bool x=d:=by
    have:d∈bs.map PyData.bool:=by rw[e]; simp
    exact List.mem_map.mp this
   have hz1:st.length<1000000:=by have:=hc.sl; omega
   have hz2:wi.length<1000000:=by have:=hc.wl; omega
   have hn1:¬ ((st.length:Int)+1<=0):=by omega
   have key:∃ (s1 w1:Int) (b2:OV) (o7':Option OV),0<=s1/\s1<=9/\0<=w1/\w1<=9/\zu b2/\b_law_cell_1.ex cf [0] [some b1,some (.d (zE bs)),some (.d (.int loose)),some (.d (.int wet)),some (.l (st.map fun x=>.d (.int x))),some (.l (wi.map fun x=>.d (.int x))),some (.d (.bool x)),o7]
     = .ok (.next,[some b2,some (.d (zE bs)),some (.d (.int loose)),some (.d (.int wet)),some (.l ((st++ [s1]).map fun x=>.d (.int x))),some (.l ((wi++ [w1]).map fun x=>.d (.int x))),some (.d (.bool x)),o7']):=by
    obtain⟨r2,b2,h2,h2',hb2,e2⟩:=ht b1 hb1 9 (by decide) (by decide)
    have hw:0<=r2+(if x then 1 else 0)/\r2+(if x then 1 else 0)<=9:=by split <;> omega
    by_cases hlo:0<loose
    ·obtain⟨r3,b3,h3,h3',hb3,e3⟩:=ht b2 hb2 loose (by omega) (by omega)
     by_cases hr:r3=0
     ·obtain⟨r4,b4,h4,h4',hb4,e4⟩:=ht b3 hb3 10 (by decide) (by decide)
      obtain⟨r5,b5,h5,h5',hb5,e5⟩:=ht b4 hb4 10 (by decide) (by decide)
      refine⟨r4,r5,b5,some (.d (.int r2)),h4,by omega,h5,by omega,hb5,?_⟩
      have a1:(1:Int)<=st.length+1:=by omega
      have a2:(1:Int)<=wi.length+1:=by omega
      have t1:(-1+((st.length:Int)+1)).toNat=st.length:=by omega
      have t2:(-1+((wi.length:Int)+1)).toNat=wi.length:=by omega
      simp![b_law_cell_1,e2,e3,e4,e5,hr,hlo,hz1,hz2,a1,a2,t1,t2,kr,KA,lay,PyData.eqv,OV.view,OV.views,z9,ixN,atI]
     ·refine⟨r2,r2+(if x then 1 else 0),b3,some (.d (.int r2)),h2,by omega,hw.1,hw.2,hb3,?_⟩
      simp![b_law_cell_1,e2,e3,hr,hlo,hz1,hz2,lay,PyData.eqv,OV.view,OV.views,z9,ixN,atI]
    ·refine⟨r2,r2+(if x then 1 else 0),b2,some (.d (.int r2)),h2,by omega,hw.1,hw.2,hb2,?_⟩
     simp![b_law_cell_1,e2,hlo,hz1,hz2,lay,PyData.eqv,OV.view,OV.views,z9,ixN,atI]
   obtain⟨s1,w1,b2,o7',q1,q2,q3,q4,hb2,ek⟩:=key
   exact⟨_,_,by simp[tgF],ek,st++ [s1],wi++ [w1],b2,_,_,⟨by simp[hc.sl],by simp[hc.wl],hc.sn.snoc q1 q2,hc.wn.snoc q3 q4⟩,hb2,rfl⟩)
 rw[List.length_map] at hc
 exact⟨st,wi,b',o6,o7,hc,hb',e⟩
theorem zaD (cf:CF) (ht:qg cf){b:OV}(hb:zu b) (bs:List Bool) (hl:bs.length<=1000){loose wet:Int}(h0:0<=loose) (h1:loose<=1000):YD bs.length (runI 8 [true,false,false,false] [0] ji cf [b,.d (zE bs),.d (.int loose),.d (.int wet)]):=by
 obtain⟨st,wi,b1,o6,o7,hc,hb1,e1⟩:=yO cf ht hb bs hl (wet:=wet) h0 h1
 have hz1:st.length<=1000000:=by have:=hc.sl; omega
 have hz2:wi.length<=1000000:=by have:=hc.wl; omega
 by_cases hw:0<wet
 ·obtain⟨r2,b2,h2,h2',hb2,e2⟩:=ht b1 hb1 5 (by decide) (by decide)
  refine⟨st,wi,decide (r2<wet),b2,hc,hb2,?_⟩
  simp![ji,zE,OV.view,OV.views,z9,ixN,atI]
  simp only[zE] at e1
  simp![e1,e2,hw,hz1,hz2,QY,qy,zf,OV.view,OV.views,z9,ixN,atI]
 ·refine⟨st,wi,false,b1,hc,hb1,?_⟩
  simp![ji,zE,OV.view,OV.views,z9,ixN,atI]
  simp only[zE] at e1
  simp![e1,hw,hz1,hz2,QY,qy,zf,OV.view,OV.views,z9,ixN,atI]
noncomputable def VO (cf:CF):Prop:=∀ b,zu b->∀ (bs:List Bool) (loose wet:Int),bs.length<=1000->0<=loose->loose<=1000->YD bs.length (cf "_law_cell" [b,.d (zE bs),.d (.int loose),.d (.int wet)])
noncomputable def VR (cf:CF):Prop:=∀ b,zu b->∀ (pots size:Nat),pots<=1000->size<=1000->VQ pots size (cf "_law_lacks" [b,.d (.int pots),.d (.int size)])
structure Cl where
 st:List Int
 w:Bool
 wi:List Int
noncomputable def Cl.D (c:Cl):PyData:=qy c.st c.w c.wi
noncomputable def YC (pots size:Nat) (x:RF):Prop:=∃ (cs:List Cl) (b':OV),cs.length=size/\(∀ c∈cs,ZK pots c.st c.wi)/\zu b'/\x=.ok (.l (cs.map fun c=>.d c.D)) [some b',none,none,none]
theorem zas (cf:CF) (ht:qg cf) (hlk:VR cf) (hce:VO cf){b:OV}(hb:zu b){pots size:Nat}(hp:pots<=1000) (hs:size<=1000){loose:Int}(h0:0<=loose) (h1:loose<=1000) :
  YC pots size (runI 6 [true,false,false,false] [0] Zc cf [b,.d (.int pots),.d (.int size),.d (.int loose)]):=by
 obtain⟨wet,b1,g1,g1',hb1,e1⟩:=ht b hb 4 (by decide) (by decide)
 obtain⟨rows,b2,hl,hr,hb2,e2⟩:=hlk b1 hb1 pots size hp hs
 obtain⟨ys,Γ',e3,⟨cs,b3,hcl,hck,hb3,rfl,rfl⟩⟩:=zU (k:=1) (t:=.nm 0 6) (cond:=fYes) (elt:=(b_law_bolt_1.ev cf).1) (ds:=rows.map zE) (Γ:= [some b2,some (.d (.int pots)),some (.d (.int size)),some (.d (.int loose)),some (.d (.int wet)),some (.d (.list (rows.map zE)))])
  (fun pre ys Γ=>∃ (cs:List Cl) (b':OV),cs.length=pre.length/\(∀ c∈cs,ZK pots c.st c.wi)/\zu b'/\ys=cs.map Cl.D/\Γ= [some b',some (.d (.int pots)),some (.d (.int size)),some (.d (.int loose)),some (.d (.int wet)),some (.d (.list (rows.map zE)))]) ⟨[],b2,rfl,(fun _ h=>nomatch h),hb2,rfl,rfl⟩ (by
   rintro pre d post e ys Γ ⟨cs,b3,hcl,hck,hb3,rfl,rfl⟩
   obtain⟨r,hrm,rfl⟩:∃ r∈rows,zE r=d:=by
    have:d∈rows.map zE:=by rw[e]; simp
    exact List.mem_map.mp this
   have hrl:=hr r hrm
   obtain⟨st,wi,w,b4,hc,hb4,e4⟩:=hce b3 hb3 r loose wet (by omega) h0 h1
   rw[hrl] at hc
   refine⟨_,true,_,by simp[tgF]; rfl,rfl,fun _=>?_,fun z=>nomatch z⟩
   refine⟨.dat (qy st w wi),[some b4,some (.d (.int pots)),some (.d (.int size)),some (.d (.int loose)),some (.d (.int wet)),some (.d (.list (rows.map zE))),some (.d (zE r))],qy st w wi,?_,rfl,cs++ [⟨st,w,wi⟩],b4,by simp[hcl],?_,hb4,by simp[Cl.D],by simp⟩
   ·simp![b_law_bolt_1,e4,OV.view,OV.views,z9,ixN,atI]
   ·intro c h
    rcases List.mem_append.mp h with h | h
    ·exact hck c h
    ·have:c=⟨st,w,wi⟩:=by simpa using h
     subst this; exact hc)
 rw[List.length_map] at hcl
 refine⟨cs,b3,by omega,hck,hb3,?_⟩
 have hz:rows.length<=1000000:=by omega
 have hv:OV.views (rows.map fun r=>.d (zE r))=rows.map zE:=by rw[OV.views_map,List.map_map]; rfl
 simp![Zc,e1,e2,hv,hz,OV.view,OV.views,z9,ixN,atI]
 rw[e3]
 simp[outs]
end Wx
set_option maxHeartbeats 4000000
namespace Wx
open PySem L2 L3
theorem zF (n:Nat) (i:Int):lay n (.int i)=true:=by cases n <;> rfl
theorem vm (n:Nat) (i:Bool):lay n (.bool i)=true:=by cases n <;> rfl
theorem vn {n:Nat}{xs:List PyData}(h:∀ x∈xs,lay n x=true):lay (n+1) (.list xs)=true:=by rw[lay]; exact List.all_eq_true.mpr h
theorem Je {n:Nat}{xs:List PyData}(h:∀ x∈xs,lay n x=true):lay (n+1) (.tuple xs)=true:=by rw[lay]; exact List.all_eq_true.mpr h
theorem kF (n:Nat) (c:Cl):lay (n+2) c.D=true:=Je fun x h=>by
 have:x=zf c.st∨x=.bool c.w∨x=zf c.wi:=by simpa using h
 rcases this with rfl | rfl | rfl
 ·exact Je fun x h=>by obtain⟨i,_,rfl⟩:=List.mem_map.mp h; exact zF _ _
 ·exact vm _ _
 ·exact Je fun x h=>by obtain⟨i,_,rfl⟩:=List.mem_map.mp h; exact zF _ _
theorem vk (n:Nat) (cs:List Cl):lay (n+3) (.list (cs.map Cl.D))=true:=vn fun x h=>by
 obtain⟨c,_,rfl⟩:=List.mem_map.mp h
 exact kF _ _
theorem Jc {n:Nat}{d:PyData}(h:lay n d=true):PyData.eqv d d=true:=PySem.SeqAt.eqv_refl d (zW n d h).1
theorem zJ (i j:Int):PyData.eqv (.int i) (.int j)=(i==j):=rfl
noncomputable def lk (cs:List Cl) (d i:Nat):Bool:=match cs[i]? with
 | some c=>decide (c.st.getD d 0<c.wi.getD d 0)
 | none=>false
noncomputable def zc (cs:List Cl):PyData:=.list (cs.map Cl.D)
noncomputable def Bolt (pots:Nat) (cs:List Cl):Prop:=cs.length<=1000/\∀ c∈cs,ZK pots c.st c.wi
theorem Jb {xs:List Int}{d:Nat}(h:d<xs.length):atI (xs.map PyData.int) (d:Int)=some (.int (xs.getD d 0)):=by
 have e:(xs.map PyData.int)[d]?=some (.int (xs.getD d 0)):=by rw[List.getElem?_map,List.getElem?_eq_getElem h,List.getD_eq_getElem?_getD,List.getElem?_eq_getElem h]; rfl
 unfold atI ixN
 rw[if_pos (by omega),if_pos (by rw[List.length_map]; omega)]
 simpa using e
theorem zeq {α:Type}(a b c:α):atI [a,b,c] 0=some a:=rfl
theorem zer {α:Type}(a b c:α):atI [a,b,c] 2=some c:=rfl
theorem Qt {α:Type}(l:List α):l.filter (fun _=>true)=l:=List.filter_eq_self.mpr fun _ _=>rfl
theorem zae (cf:CF) (i:Int):runI 1 [false] [] jv cf [.d (.int i)]=.ok (.d (.bool true)) [none]:=by
 simp![jv,OV.view,OV.views,z9,ixN,atI]
noncomputable def VZ (cf:CF):Prop:=∀ i:Int,cf "_law_whole" [.d (.int i)]=.ok (.d (.bool true)) [none]
noncomputable def VX (cf:CF):Prop:=∀ b,zu b->∃ (p n:Int) (b':OV),0<=p/\p<=12/\0<=n/\n<=40/\zu b'/\cf "_law_sizes" [b]=.ok (.d (.tuple [.int p,.int n])) [some b']
noncomputable def VN (cf:CF):Prop:=∀ b,zu b->∀ (pots size:Nat) (loose:Int),pots<=1000->size<=1000->0<=loose->loose<=1000->YC pots size (cf "_law_bolt" [b,.d (.int pots),.d (.int size),.d (.int loose)])
theorem qu (cs:List Cl):OV.view (.l (cs.map fun c=>.d c.D))=zc cs:=by
 rw[OV.view,OV.views_map,List.map_map]; rfl
end Wx
set_option maxHeartbeats 4000000
namespace Wx
open PySem L2 L3
theorem zcy {ds:List PyData}:Option.map (fun bs=>PyData.bool (bs.all id)) (zR (ds.map fun _=>PyData.bool true))=some (.bool true):=by
 have:(ds.map fun _=>PyData.bool true)=(ds.map fun _=>true).map .bool:=by rw[List.map_map]; rfl
 rw[this,qQ]
 simp
theorem zB (x:PyData):(OV.d x).view=x:=rfl
theorem Yo (cf:CF) (hw:VZ cf){xs:List Int}{pots:Nat}(h:xs.length=pots) (hl:pots<=1000):runI 2 [false,false] [] jj cf [.d (zf xs),.d (.int pots)]=.ok (.d (.bool true)) [none,none]:=by
 have e:=Qo (k:=1) (t:=.nm 0 2) (cond:=fYes) (elt:=(b_law_shades_1.ev cf).1) (ds:=xs.map .int) (Γ:= [some (.d (zf xs)),some (.d (.int pots))]) (fun _=>true) (fun _=>.bool true) (by
  intro x hx
  obtain⟨i,_,rfl⟩:=List.mem_map.mp hx
  refine⟨[some (.d (zf xs)),some (.d (.int pots)),some (.d (.int i))],_,rfl,rfl,by simp,fun _=>⟨.dat (.bool true),[some (.d (zf xs)),some (.d (.int pots)),some (.d (.int i))],?_,rfl,by simp⟩⟩
  simp![b_law_shades_1,hw i,zB])
 rw[Qt] at e
 have a1:=zcy (ds:=xs.map .int)
 have hml:(xs.map PyData.int).length=pots:=by simpa using h
 unfold zf at e |-
 generalize xs.map PyData.int=X at *
 have hz:X.length<=1000000:=by omega
 have hq:((pots:Int)==(pots:Int))=true:=by simp
 have hz2:pots<=1000000:=by omega
 simp![jj,hml,zF,zJ,hq,hz,hz2,e,a1]
noncomputable def WS (cf:CF):Prop:=∀ (xs:List Int) (pots:Nat),xs.length=pots->pots<=1000->cf "_law_shades" [.d (zf xs),.d (.int pots)]=.ok (.d (.bool true)) [none,none]
noncomputable def JY (pots:Nat) (cs:List Cl):Prop:=∀ c∈cs,c.st.length=pots/\c.wi.length=pots
theorem Bolt.kind {pots:Nat}{cs:List Cl}(h:Bolt pots cs):JY pots cs:=fun c hc=>⟨(h.2 c hc).sl,(h.2 c hc).wl⟩
theorem zaR (cf:CF) (hs:WS cf){pots:Nat}(hp:pots<=1000){cs:List Cl}(hk:JY pots cs):runI 3 [false,false] [] ql cf [.d (zc cs),.d (.int pots)]=.ok (.d (.bool true)) [none,none]:=by
 obtain⟨Γ',e,⟨o2,rfl⟩⟩:=je (t:=.nm 2 2) (body:=b_law_cells_kind_1.ex cf []) (ds:=cs.map Cl.D) (Γ:= [some (.d (zc cs)),some (.d (.int pots)),none])
  (fun pre Γ=>∃ o2:Option OV,Γ= [some (.d (zc cs)),some (.d (.int pots)),o2]) ⟨_,rfl⟩ (by
   rintro pre x post e Γ ⟨o2,rfl⟩
   have hx:x∈cs.map Cl.D:=by rw[e]; simp
   obtain⟨c,hc,rfl⟩:=List.mem_map.mp hx
   obtain⟨h1,h2⟩:=hk c hc
   have e1:=hs c.st pots h1 hp
   have e2:=hs c.wi pots h2 hp
   refine⟨[some (.d (zc cs)),some (.d (.int pots)),some (.d c.D)],[some (.d (zc cs)),some (.d (.int pots)),some (.d c.D)],rfl,?_,_,rfl⟩
   unfold Cl.D qy
   generalize zf c.st=A at *
   generalize zf c.wi=B at *
   have a0:atI [A,PyData.bool c.w,B] 0=some A:=rfl
   have a1:atI [A,PyData.bool c.w,B] 1=some (.bool c.w):=rfl
   have a2:atI [A,PyData.bool c.w,B] 2=some B:=rfl
   generalize c.w=cw at *
   simp![b_law_cells_kind_1,e1,e2,a0,a1,a2,zF,zJ,zB])
 unfold zc at *
 generalize cs.map Cl.D=X at *
 simp![ql,e]
noncomputable def YF (cf:CF):Prop:=∀ (pots:Nat) (cs:List Cl),pots<=1000->JY pots cs->cf "_law_cells_kind" [.d (zc cs),.d (.int pots)]=.ok (.d (.bool true)) [none,none]
theorem YL (cf:CF) (hk:YF cf){pots:Nat}(hp:pots<=1000){cs:List Cl}(h:JY pots cs):runI 3 [false,false,false] [] js cf [.d (zc cs),.d (zc cs),.d (.int pots)]=.ok (.d (.bool true)) [none,none,none]:=by
 have e:=hk pots cs hp h
 have hy:lay 20 (zc cs)=true:=vk 17 _
 have hq:=Jc hy
 generalize zc cs=X at *
 simp![js,e,hy,hq,zB]
noncomputable def VM (cf:CF):Prop:=∀ (pots:Nat) (cs:List Cl),pots<=1000->JY pots cs->cf "_law_alike" [.d (zc cs),.d (zc cs),.d (.int pots)]=.ok (.d (.bool true)) [none,none,none]
noncomputable def Q7 (d:Nat) (st:List Int):List Int:=(List.range st.length).map fun k=>st.getD k 0+(if k=d then 1 else 0)
noncomputable def zV (d:Nat) (c:Cl):Cl:=if c.w then c else ⟨Q7 d c.st,c.w,c.wi⟩
noncomputable def zD (d:Nat) (c:Cl):Bool:= !c.w&&decide (9<=c.st.getD d 0)
theorem vg (d:Nat) (st:List Int):(Q7 d st).length=st.length:=by unfold Q7; simp
theorem ky {d:Nat}{st:List Int}(h:d<st.length):st.take d++ [st.getD d 0+1]++st.drop (d+1)=Q7 d st:=by
 apply List.ext_getElem?
 intro k
 unfold Q7
 rw[List.getElem?_map]
 by_cases hk:k<st.length
 ·rw[List.getElem?_range hk]
  simp only[Option.map_some]
  rw[List.append_assoc]
  by_cases h1:k<d
  ·rw[List.getElem?_append_left (by simp; omega),List.getElem?_take_of_lt h1,List.getElem?_eq_getElem hk,if_neg (by omega),List.getD_eq_getElem?_getD,List.getElem?_eq_getElem hk]
   simp
  ·rw[List.getElem?_append_right (by simp; omega)]
   by_cases h2:k=d
   ·subst h2
    rw[if_pos rfl]
    have:k-(st.take k).length=0:=by simp; omega
    rw[this]; rfl
   ·rw[if_neg h2]
    have:k-(st.take d).length=(k-d-1)+1:=by simp; omega
    rw[this,List.singleton_append,List.getElem?_cons_succ,List.getElem?_drop,show d+1+(k-d-1)=k by omega,List.getElem?_eq_getElem hk,List.getD_eq_getElem?_getD,List.getElem?_eq_getElem hk]
    simp
 ·rw[List.getElem?_eq_none (by simp; omega),List.getElem?_eq_none (by simp; omega)]; rfl
theorem WB {n d:Nat}(h:d<=n) (z:Nat):HT.sIx n z (some (d:Int))=d:=by
 show (if (d:Int)<0 then ((d:Int)+(n:Int)).toNat else min ((d:Int).toNat) n)=d
 rw[if_neg (by omega)]
 simp; omega
theorem W9 (cf:CF){st:List Int}{d:Nat}(h:d<st.length) (hl:st.length<=1000):runI 2 [false,false] [] Zn cf [.d (zf st),.d (.int d)]=.ok (.d (zf (Q7 d st))) [none,none]:=by
 have a1:=Jb h
 have hn:(st.map PyData.int).length=st.length:=by simp
 have s1:HT.sIx (st.map PyData.int).length (st.map PyData.int).length (some (d:Int))=d:=by rw[hn]; exact WB (by omega) _
 have s2:HT.sIx (st.map PyData.int).length 0 (some ((d:Int)+1))=d+1:=by
  have:=WB (n:=st.length) (d:=d+1) (by omega) 0
  rw[hn]; exact this
 have c1:j6 (st.map PyData.int) none (some (d:Int))=(st.take d).map PyData.int:=by
  unfold j6
  rw[s1]
  have:HT.sIx (st.map PyData.int).length 0 none=0:=rfl
  rw[this]; simp
 have c2:j6 (st.map PyData.int) (some ((d:Int)+1)) none=(st.drop (d+1)).map PyData.int:=by
  unfold j6
  rw[s2]
  have:HT.sIx (st.map PyData.int).length (st.map PyData.int).length none=st.length:=by rw[hn]; rfl
  rw[this,List.map_drop]
  exact List.take_of_length_le (by simp)
 have hne:¬ (HT.sIx (st.map PyData.int).length 0 none=0/\HT.sIx (st.map PyData.int).length (st.map PyData.int).length (some (d:Int))=(st.map PyData.int).length):=by rw[s1,hn]; omega
 have hne2:¬ (HT.sIx (st.map PyData.int).length 0 (some ((d:Int)+1))=0/\HT.sIx (st.map PyData.int).length (st.map PyData.int).length none=(st.map PyData.int).length):=by rw[s2]; omega
 have z1:((st.take d).map PyData.int).length+1<=1000000:=by simp; omega
 have z2:((st.take d).map PyData.int).length+1+((st.drop (d+1)).map PyData.int).length<=1000000:=by simp; omega
 have hfin:(st.take d).map PyData.int++.int (st.getD d 0+1)::(st.drop (d+1)).map PyData.int=(Q7 d st).map PyData.int:=by
  rw[<- ky h]
  simp
 unfold zf
 rw[<- hfin]
 generalize st.getD d 0=g at *
 generalize (st.take d).map PyData.int=T1 at *
 generalize (st.drop (d+1)).map PyData.int=T2 at *
 generalize st.map PyData.int=X at *
 simp only[Zn]
 simp![V6,Y9,Vk,hne,hne2,c1,c2,a1,z1,z2]
noncomputable def vX (cf:CF):Prop:=∀ (st:List Int) (d:Nat),d<st.length->st.length<=1000->cf "deepened" [.d (zf st),.d (.int d)]=.ok (.d (zf (Q7 d st))) [none,none]
noncomputable def Ji:Exc:=⟨"TooDeep",.none⟩
theorem zaG (cf:CF){pots:Nat}{cs:List Cl}(hb:Bolt pots cs){d:Nat}(hd:d<pots) :
  zY 3 (.tp (.cons (.nm 0 2) (.cons (.nm 1 3) (.cons (.nm 2 4) .nil)))) fYes (p_dipped_1.ev cf).1 (cs.map Cl.D) [] [some (.d (zc cs)),some (.d (.int d))]=.ok ((cs.map (zD d)).map .bool,[some (.d (zc cs)),some (.d (.int d))]):=by
 obtain⟨ys,Γ',e,hy,rfl⟩:=zU (k:=3) (t:=.tp (.cons (.nm 0 2) (.cons (.nm 1 3) (.cons (.nm 2 4) .nil)))) (cond:=fYes) (elt:=(p_dipped_1.ev cf).1) (ds:=cs.map Cl.D) (Γ:= [some (.d (zc cs)),some (.d (.int d))])
  (fun pre ys Γ=>ys=((cs.take pre.length).map (zD d)).map .bool/\Γ= [some (.d (zc cs)),some (.d (.int d))]) ⟨rfl,rfl⟩ (by
   rintro pre x post e ys Γ ⟨hy,rfl⟩
   have hx:x∈cs.map Cl.D:=by rw[e]; simp
   have hlt:pre.length<cs.length:=by have:=congrArg List.length e; simp at this; omega
   have hxe:x=(cs[pre.length]).D:=by
    have:(cs.map Cl.D)[pre.length]?=some x:=by rw[e]; simp
    rw[List.getElem?_map,List.getElem?_eq_getElem hlt] at this
    simpa using this.symm
   have hc:=hb.2 _ (List.getElem_mem hlt)
   have hnx:(cs.take (pre.length+1)).map (zD d)=(cs.take pre.length).map (zD d)++ [zD d cs[pre.length]]:=by
    rw[List.take_add_one,List.getElem?_eq_getElem hlt,List.map_append]; rfl
   generalize cs[pre.length]=c at *
   subst hxe
   have a1:=Jb (xs:=c.st) (d:=d) (by rw[hc.sl]; exact hd)
   refine⟨[some (.d (zc cs)),some (.d (.int d)),some (.d (zf c.st)),some (.d (.bool c.w)),some (.d (zf c.wi))],true,_,rfl,rfl,fun _=>⟨.dat (.bool (zD d c)),[some (.d (zc cs)),some (.d (.int d)),some (.d (zf c.st)),some (.d (.bool c.w)),some (.d (zf c.wi))],.bool (zD d c),?_,rfl,?_,rfl⟩,fun h=>nomatch h⟩
   ·unfold zD zf
    generalize c.st.getD d 0=g at *
    generalize c.st.map PyData.int=X at *
    cases hw:c.w with
    | true=>simp![p_dipped_1]
    | false=>simp![p_dipped_1,a1]
   ·rw[hy]
    simp only[List.length_append,List.length_cons,List.length_nil,Nat.zero_add]
    rw[hnx,List.map_append]; rfl)
 rw[e,hy]
 have:(cs.take (cs.map Cl.D).length)=cs:=by rw[List.length_map,List.take_length]
 rw[this]
theorem zaH (cf:CF) (hdp:vX cf){pots:Nat}(hp:pots<=1000){cs:List Cl}(hb:Bolt pots cs){d:Nat}(hd:d<pots) :
  zY 3 (.tp (.cons (.nm 0 2) (.cons (.nm 1 3) (.cons (.nm 2 4) .nil)))) fYes (p_dipped_2.ev cf).1 (cs.map Cl.D) [] [some (.d (zc cs)),some (.d (.int d))]=.ok ((cs.map (zV d)).map Cl.D,[some (.d (zc cs)),some (.d (.int d))]):=by
 obtain⟨ys,Γ',e,hy,rfl⟩:=zU (k:=3) (t:=.tp (.cons (.nm 0 2) (.cons (.nm 1 3) (.cons (.nm 2 4) .nil)))) (cond:=fYes) (elt:=(p_dipped_2.ev cf).1) (ds:=cs.map Cl.D) (Γ:= [some (.d (zc cs)),some (.d (.int d))])
  (fun pre ys Γ=>ys=((cs.take pre.length).map (zV d)).map Cl.D/\Γ= [some (.d (zc cs)),some (.d (.int d))]) ⟨rfl,rfl⟩ (by
   rintro pre x post e ys Γ ⟨hy,rfl⟩
   have hlt:pre.length<cs.length:=by have:=congrArg List.length e; simp at this; omega
   have hxe:x=(cs[pre.length]).D:=by
    have:(cs.map Cl.D)[pre.length]?=some x:=by rw[e]; simp
    rw[List.getElem?_map,List.getElem?_eq_getElem hlt] at this
    simpa using this.symm
   have hc:=hb.2 _ (List.getElem_mem hlt)
   have hnx:(cs.take (pre.length+1)).map (zV d)=(cs.take pre.length).map (zV d)++ [zV d cs[pre.length]]:=by
    rw[List.take_add_one,List.getElem?_eq_getElem hlt,List.map_append]; rfl
   generalize cs[pre.length]=c at *
   subst hxe
   have e1:=hdp c.st d (by rw[hc.sl]; exact hd) (by rw[hc.sl]; exact hp)
   refine⟨[some (.d (zc cs)),some (.d (.int d)),some (.d (zf c.st)),some (.d (.bool c.w)),some (.d (zf c.wi))],true,_,rfl,rfl,fun _=>⟨.dat (zV d c).D,[some (.d (zc cs)),some (.d (.int d)),some (.d (zf c.st)),some (.d (.bool c.w)),some (.d (zf c.wi))],(zV d c).D,?_,rfl,?_,rfl⟩,fun h=>nomatch h⟩
   ·unfold zV
    cases hw:c.w with
    | true=>simp![p_dipped_2,hw,Cl.D,qy]
    | false=>simp![p_dipped_2,hw,Cl.D,qy,e1,zB]
   ·rw[hy]
    simp only[List.length_append,List.length_cons,List.length_nil,Nat.zero_add]
    rw[hnx,List.map_append]; rfl)
 rw[e,hy]
 have:(cs.take (cs.map Cl.D).length)=cs:=by rw[List.length_map,List.take_length]
 rw[this]
theorem wb (bs:List Bool):Option.map (fun bs=>PyData.bool (bs.any id)) (zR (bs.map .bool))=some (.bool (bs.any id)):=by rw[qQ]; rfl
theorem yU (cf:CF) (hdp:vX cf){pots:Nat}(hp:pots<=1000){cs:List Cl}(hb:Bolt pots cs){d:Nat}(hd:d<pots) :
  runI 2 [false,false] [] jg cf [.d (zc cs),.d (.int d)]=if cs.any (zD d) then .exc Ji [none,none] else .ok (.l ((cs.map (zV d)).map fun c=>.d c.D)) [none,none]:=by
 have e1:=zaG cf hb hd
 have e2:=zaH cf hdp hp hb hd
 have hz:cs.length<=1000000:=by have:=hb.1; omega
 have hb1:=wb (cs.map (zD d))
 have ha:(cs.map (zD d)).any id=cs.any (zD d):=by rw[List.any_map]; rfl
 rw[ha] at hb1
 have hml:((cs.map (zD d)).map PyData.bool).length<=1000000:=by simpa using hz
 have hvv:((cs.map (zV d)).map Cl.D).map OV.d=(cs.map (zV d)).map fun c=>OV.d c.D:=by rw[List.map_map]; rfl
 rw[<- hvv]
 unfold zc at *
 have hxl:(cs.map Cl.D).length<=1000000:=by simpa using hz
 generalize (cs.map (zD d)).map PyData.bool=BB at *
 generalize (cs.map (zV d)).map Cl.D=DD at *
 generalize cs.map Cl.D=X at *
 generalize cs.any (zD d)=b at *
 cases b with
 | true=>simp![jg,e1,hb1,hxl,hml,Qz,Ji]
 | false=>simp![jg,e1,e2,hb1,hxl,hml]
theorem Vi (cf:CF) (d:Int):runI 2 [false,false] [] jg cf [.d (zc []),.d (.int d)]=.ok (.l []) [none,none]:=by
 simp![jg,zc,zY,zR]
noncomputable def WP (cf:CF):Prop:=(∀ (pots:Nat) (cs:List Cl) (d:Nat),pots<=1000->Bolt pots cs->d<pots->cf "dipped" [.d (zc cs),.d (.int d)]=if cs.any (zD d) then .exc Ji [none,none] else .ok (.l ((cs.map (zV d)).map fun c=>.d c.D)) [none,none])/\∀ d:Int,cf "dipped" [.d (zc []),.d (.int d)]=.ok (.l []) [none,none]
end Wx
set_option maxHeartbeats 4000000
namespace Wx
open PySem L2 L3
noncomputable def Vp:Exc:=⟨"NoCell",.none⟩
theorem zcY (cf:CF){cs:List Cl}(hl:cs.length<=1000) (a:Int):runI 2 [false,false] [] qH cf [.d (zc cs),.d (.int a)]=.ok (.d (.bool (decide (0<=a/\a<cs.length)))) [none,none]:=by
 have hxl:(cs.map Cl.D).length=cs.length:=by simp
 unfold zc
 generalize cs.map Cl.D=X at *
 by_cases h1:0<=a
 ·by_cases h2:a<cs.length
  ·have h3:a<(X.length:Int):=by omega
   simp![qH,hxl,h1,h2]
  ·simp![qH,hxl,h1,h2]
 ·simp![qH,hxl,h1]
noncomputable def zb5 (cf:CF):Prop:=∀ (cs:List Cl) (a:Int),cs.length<=1000->cf "has_cell" [.d (zc cs),.d (.int a)]=.ok (.d (.bool (decide (0<=a/\a<cs.length)))) [none,none]
theorem YZ {α:Type}(X:List α){a:Nat}(h:a<=X.length):j6 X none (some (a:Int))=X.take a:=by
 unfold j6
 rw[WB h]
 have:HT.sIx X.length 0 none=0:=rfl
 rw[this]; simp
theorem YY {α:Type}(X:List α){a:Nat}(h:a<=X.length):j6 X (some (a:Int)) none=X.drop a:=by
 unfold j6
 rw[WB h]
 have:HT.sIx X.length X.length none=X.length:=rfl
 rw[this]
 exact List.take_of_length_le (by simp)
theorem exS {cf:CF}{io:List Nat}{s:IS}{b:IB}(h:b≠ .nil):IB.ex cf io (.cons s b)=sSeq (s.ex cf io) (b.ex cf io):=by
 cases b with
 | nil=>exact absurd rfl h
 | cons s b=>rfl
 | disp _ _ _ _ _ _ _=>rfl
 | junk _ _ _=>rfl
theorem JK:b_law_place_1≠ .nil:=fun h=>nomatch h
theorem Ke (size u:Int){v:Int}(h0:0<=v) (h1:v<4):∃ a:Int,atI [PyData.int (-1),.int size,.int (size+1+u),.int (-1-size)] v=some (.int a):=by
 obtain⟨j,rfl⟩:∃ k:Nat,v=k:=⟨v.toNat,by omega⟩
 have hj:j<4:=by omega
 match j,hj with
 | 0,_=>exact⟨_,rfl⟩
 | 1,_=>exact⟨_,rfl⟩
 | 2,_=>exact⟨_,rfl⟩
 | 3,_=>exact⟨_,rfl⟩
theorem Kf (cf:CF) (ht:qg cf){b:OV}(hb:zu b){size:Nat}(hs:size<=1000):∃ (a:Int) (b':OV),zu b'/\runI 2 [true,false] [0] zS cf [b,.d (.int size)]=.ok (.d (.int a)) [some b',none]:=by
 have fall:∀ b1,zu b1->(runI 2 [true,false] [0] zS cf [b,.d (.int size)]=fin [true,false] ((b_law_place_1.ex cf [0]) [some b1,some (.d (.int size))]))->∃ (a:Int) (b':OV),zu b'/\runI 2 [true,false] [0] zS cf [b,.d (.int size)]=.ok (.d (.int a)) [some b',none]:=fun b1 hb1 e0=>by
  obtain⟨u,b2,hu0,hu1,hb2,e2⟩:=ht b1 hb1 50 (by decide) (by decide)
  obtain⟨v,b3,hv0,hv1,hb3,e3⟩:=ht b2 hb2 4 (by decide) (by decide)
  obtain⟨a,ea⟩:=Ke size u hv0 hv1
  refine⟨a,b3,hb3,?_⟩
  rw[e0]
  simp![b_law_place_1,e2,e3,ea,zB]
 by_cases h0:size=0
 ·subst h0
  refine fall b hb ?_
  simp![zS,exS JK]
 ·have hgt:(0:Int)<(size:Int):=by omega
  have hgt2:0<size:=by omega
  obtain⟨r,b1,hr0,hr1,hb1,e1⟩:=ht b hb 7 (by decide) (by decide)
  by_cases hr:0<r
  ·obtain⟨q,b2,hq0,hq1,hb2,e2⟩:=ht b1 hb1 (size:Int) (by omega) (by omega)
   refine⟨q,b2,hb2,?_⟩
   simp![zS,exS JK,hgt,hgt2,e1,hr,e2,zB]
  ·have hr':r=0:=by omega
   subst hr'
   refine fall b1 hb1 ?_
   simp![zS,exS JK,hgt,hgt2,e1,zB]
noncomputable def w5 (cf:CF):Prop:=∀ b,zu b->∀ size:Nat,size<=1000->∃ (a:Int) (b':OV),zu b'/\cf "_law_place" [b,.d (.int size)]=.ok (.d (.int a)) [some b',none]
end Wx
set_option maxHeartbeats 4000000
namespace Wx
open PySem L2 L3
noncomputable def KW:Exc:=⟨"Twice",.none⟩
noncomputable def qN (n:Nat) (i:Int):Bool:=decide (0<=i/\i<(n:Int))
noncomputable def Y3 (xs:List Int):Bool:=decide ((Tab.dedup xs).length<xs.length)
noncomputable def WL (xs:List Int) (i:Nat) (c:Cl):Cl:=⟨c.st,c.w||xs.contains (i:Int),c.wi⟩
noncomputable def WM (xs:List Int) (cs:List Cl) (k:Nat):List Cl:=(List.range k).filterMap fun i=>(cs[i]?).map (WL xs i)
noncomputable def j8 (xs:List Int) (cs:List Cl):List Cl:=WM xs cs cs.length
theorem wY (xs:List Int){cs:List Cl}{k:Nat}{c:Cl}(h:cs[k]?=some c):WM xs cs (k+1)=WM xs cs k++ [WL xs k c]:=by
 unfold WM
 rw[List.range_succ,List.filterMap_append]
 congr 1
 rw[List.filterMap_cons,h]; rfl
theorem zac (xs:List Int) (cs:List Cl) (k:Nat):(WM xs cs k).length<=k:=by
 have:=List.length_filterMap_le (fun i=>(cs[i]?).map (WL xs i)) (List.range k)
 rw[List.length_range] at this; exact this
theorem zad {pots:Nat}{xs:List Int}{cs:List Cl}(h:JY pots cs):JY pots (j8 xs cs):=fun c hc=>by
 obtain⟨i,_,e⟩:=List.mem_filterMap.mp hc
 cases q:cs[i]? with
 | none=>rw[q] at e; cases e
 | some c0=>
  rw[q] at e
  cases e
  exact h c0 (List.mem_of_getElem? q)
theorem Wq (xs:List Int) (i:Int):inD (.int i) (xs.map .int)=xs.contains i:=by
 unfold inD
 rw[List.any_map]
 induction xs with
 | nil=>rfl
 | cons x xs ih=>
  rw[List.any_cons,ih,List.contains_cons]
  congr 1
  show PyData.eqv (.int x) (.int i)=(i==x)
  rw[zJ,Bool.eq_iff_iff,beq_iff_eq,beq_iff_eq]
  exact⟨Eq.symm,Eq.symm⟩
theorem Qu (xs:List Int):(∀ x∈xs.map PyData.int,lay 20 x=true)=True:=eq_true fun x hx=>by
 obtain⟨i,_,rfl⟩:=List.mem_map.mp hx
 exact zF _ _
noncomputable def zbY (cs:List Cl) (xs:List Int):RF:=if xs.all (qN cs.length) then (if Y3 xs then .exc KW [none,none] else .ok (.l ((j8 xs cs).map fun c=>.d c.D)) [none,none]) else .exc Vp [none,none]
theorem zbZ (cf:CF){cs:List Cl}{xs:List Int} :
  zY 4 (.tp (.cons (.nm 0 2) (.cons (.tp (.cons (.nm 1 3) (.cons (.nm 2 4) (.cons (.nm 3 5) .nil)))) .nil))) fYes (p_with_wax_2.ev cf).1 (jc (cs.map Cl.D)) [] [some (.d (zc cs)),some (.d (zf xs))]=.ok ((j8 xs cs).map Cl.D,[some (.d (zc cs)),some (.d (zf xs))]):=by
 obtain⟨ys,Γ',e,hy,rfl⟩:=zU (k:=4) (t:=.tp (.cons (.nm 0 2) (.cons (.tp (.cons (.nm 1 3) (.cons (.nm 2 4) (.cons (.nm 3 5) .nil)))) .nil))) (cond:=fYes) (elt:=(p_with_wax_2.ev cf).1) (ds:=jc (cs.map Cl.D)) (Γ:= [some (.d (zc cs)),some (.d (zf xs))])
  (fun pre ys Γ=>ys=(WM xs cs pre.length).map Cl.D/\Γ= [some (.d (zc cs)),some (.d (zf xs))]) ⟨rfl,rfl⟩ (by
   rintro pre x post e ys Γ ⟨hy,rfl⟩
   obtain⟨c,hc,rfl⟩:∃ c,cs[pre.length]?=some c/\x=.tuple [.int (pre.length:Nat),c.D]:=by
    have h1:(jc (cs.map Cl.D))[pre.length]?=some x:=by rw[e]; simp
    obtain⟨y,hy1,hy2⟩:=wF h1
    rw[List.getElem?_map] at hy1
    cases q:cs[pre.length]? with
    | none=>rw[q] at hy1; cases hy1
    | some c=>
     rw[q] at hy1
     cases hy1
     exact⟨c,rfl,hy2⟩
   have hin:=Wq xs (pre.length:Int)
   have hal:=Qu xs
   have hnx:=wY xs hc
   refine⟨[some (.d (zc cs)),some (.d (zf xs)),some (.d (.int (pre.length:Nat))),some (.d (zf c.st)),some (.d (.bool c.w)),some (.d (zf c.wi))],true,_,rfl,rfl,fun _=>⟨.dat (WL xs pre.length c).D,[some (.d (zc cs)),some (.d (zf xs)),some (.d (.int (pre.length:Nat))),some (.d (zf c.st)),some (.d (.bool c.w)),some (.d (zf c.wi))],(WL xs pre.length c).D,?_,rfl,?_,rfl⟩,fun h=>nomatch h⟩
   ·unfold WL Cl.D qy
    have hxi:zf xs=.tuple (xs.map .int):=rfl
    rw[hxi]
    generalize zf c.st=A at *
    generalize zf c.wi=B at *
    generalize xs.map PyData.int=X at *
    generalize xs.contains (pre.length:Int)=ci at *
    cases hw:c.w with
    | true=>simp![p_with_wax_2]
    | false=>simp![p_with_wax_2,hin,hal,zF]
   ·rw[hy]
    simp only[List.length_append,List.length_cons,List.length_nil,Nat.zero_add]
    rw[hnx,List.map_append]; rfl)
 rw[e,hy]
 have:(jc (cs.map Cl.D)).length=cs.length:=by simp[jc]
 rw[this]; rfl
theorem zb0 (cf:CF) (hh:zb5 cf){cs:List Cl}(hl:cs.length<=1000){xs:List Int}(hx:xs.length<=60) :
  runI 2 [false,false] [] qI cf [.d (zc cs),.d (zf xs)]=zbY cs xs:=by
 have e1:=Qo (k:=1) (t:=.nm 0 2) (cond:=fYes) (elt:=(p_with_wax_1.ev cf).1) (ds:=xs.map .int) (Γ:= [some (.d (zc cs)),some (.d (zf xs))]) (fun _=>true) (fun x=>match x with | .int i=>.bool (qN cs.length i) | _=>.none) (by
  intro x hx
  obtain⟨i,_,rfl⟩:=List.mem_map.mp hx
  have e:=hh cs i hl
  refine⟨[some (.d (zc cs)),some (.d (zf xs)),some (.d (.int i))],_,rfl,rfl,by simp,fun _=>⟨.dat (.bool (qN cs.length i)),[some (.d (zc cs)),some (.d (zf xs)),some (.d (.int i))],?_,rfl,by simp⟩⟩
  unfold qN
  generalize zc cs=B at *
  simp![p_with_wax_1,e,zB])
 rw[Qt,List.map_map] at e1
 have em:(xs.map ((fun x=>match x with | .int i=>PyData.bool (qN cs.length i) | _=>.none)∘PyData.int))=(xs.map (qN cs.length)).map .bool:=by rw[List.map_map]; rfl
 rw[em] at e1
 have hb1:=qQ (xs.map (qN cs.length))
 have ha:(xs.map (qN cs.length)).all id=xs.all (qN cs.length):=by rw[List.all_map]; rfl
 have e2:=zbZ cf (cs:=cs) (xs:=xs)
 have hio:=Ju xs
 have hdl:=wE xs
 have hml:(xs.map PyData.int).length=xs.length:=by simp
 have hz:xs.length<=1000000:=by omega
 have hzl:((xs.map (qN cs.length)).map PyData.bool).length<=1000000:=by simp; omega
 have hel:(jc (cs.map Cl.D)).length<=1000000:=by simp[jc]; omega
 have hcl:(cs.map Cl.D).length<=1000000:=by simp; omega
 have hvv:((j8 xs cs).map Cl.D).map OV.d=(j8 xs cs).map fun c=>OV.d c.D:=by rw[List.map_map]; rfl
 unfold zbY Y3
 rw[<- hvv,<- ha]
 unfold zc zf at *
 generalize (j8 xs cs).map Cl.D=WW at *
 generalize (xs.map (qN cs.length)).map PyData.bool=BB at *
 generalize xs.map (qN cs.length)=B2 at *
 generalize xs.map PyData.int=X at *
 generalize cs.map Cl.D=Y at *
 cases hal:B2.all id with
 | false=>
  simp![qI,hml,hz,e1,hb1,hzl,hal,Qz,Vp]
 | true=>
  by_cases hd:(Tab.dedup xs).length<xs.length
  ·have hne:(((Tab.dedup xs).length:Int)==(xs.length:Int))=false:=by rw[beq_eq_false_iff_ne]; omega
   simp![qI,hml,hz,e1,hb1,hzl,hal,Jp,hio,hx,hd,zF,zJ,hne,Qz,KW]
  ·have hne:(((Tab.dedup xs).length:Int)==(xs.length:Int))=true:=by rw[beq_iff_eq]; omega
   have heq:(Tab.dedup xs).length=xs.length:=by omega
   simp![qI,hml,hz,e1,hb1,hzl,hal,Jp,hio,hx,hd,zF,zJ,heq,e2,hel,hcl]
noncomputable def YK (cf:CF):Prop:=∀ (cs:List Cl) (xs:List Int),cs.length<=1000->xs.length<=60->cf "with_wax" [.d (zc cs),.d (zf xs)]=zbY cs xs
end Wx
set_option maxHeartbeats 4000000
namespace Wx
open PySem L2 L3
theorem zaU (cf:CF){cs:List Cl}(hl:cs.length<=1000){xs:List Int}:runI 2 [false,false] [] ZM cf [.d (zc cs),.d (zf xs)]=.ok (.l ((j8 xs cs).map fun c=>.d c.D)) [none,none]:=by
 obtain⟨ys,Γ',e,hy,rfl⟩:=zU (k:=1) (t:=.nm 0 2) (cond:=fYes) (elt:=(b_law_wax_1.ev cf).1) (ds:=zG cs.length) (Γ:= [some (.d (zc cs)),some (.d (zf xs))])
  (fun pre ys Γ=>ys=(WM xs cs pre.length).map Cl.D/\Γ= [some (.d (zc cs)),some (.d (zf xs))]) ⟨rfl,rfl⟩ (by
   rintro pre x post e ys Γ ⟨hy,rfl⟩
   have h1:(zG cs.length)[pre.length]?=some x:=by rw[e]; simp
   obtain⟨hlt,rfl⟩:=qK h1
   have hc:cs[pre.length]?=some cs[pre.length]:=List.getElem?_eq_getElem hlt
   have a1:atI (cs.map Cl.D) (pre.length:Int)=some (cs[pre.length]).D:=Wa (by rw[List.getElem?_map,hc]; rfl)
   have hin:=Wq xs (pre.length:Int)
   have hal:=Qu xs
   have hnx:=wY xs hc
   generalize cs[pre.length]=c at *
   have hcd:c.D=.tuple [zf c.st,.bool c.w,zf c.wi]:=rfl
   rw[hcd] at a1
   have b0:atI [zf c.st,PyData.bool c.w,zf c.wi] 0=some (zf c.st):=rfl
   have b1:atI [zf c.st,PyData.bool c.w,zf c.wi] 1=some (.bool c.w):=rfl
   have b2:atI [zf c.st,PyData.bool c.w,zf c.wi] 2=some (zf c.wi):=rfl
   refine⟨[some (.d (zc cs)),some (.d (zf xs)),some (.d (.int (pre.length:Nat)))],true,_,rfl,rfl,fun _=>⟨.dat (WL xs pre.length c).D,[some (.d (zc cs)),some (.d (zf xs)),some (.d (.int (pre.length:Nat)))],(WL xs pre.length c).D,?_,rfl,?_,rfl⟩,fun h=>nomatch h⟩
   ·unfold WL Cl.D qy
    have hxi:zf xs=.tuple (xs.map .int):=rfl
    have hbd:zc cs=.list (cs.map Cl.D):=rfl
    rw[hxi,hbd]
    generalize cs.map Cl.D=Y at *
    generalize zf c.st=A at *
    generalize zf c.wi=B at *
    generalize xs.map PyData.int=X at *
    generalize xs.contains (pre.length:Int)=ci at *
    cases hw:c.w with
    | true=>
     rw[hw] at a1 b0 b1 b2
     simp![b_law_wax_1,a1,b0,b1,b2]
    | false=>
     rw[hw] at a1 b0 b1 b2
     simp![b_law_wax_1,a1,b0,b1,b2,hin,hal,zF]
   ·rw[hy]
    simp only[List.length_append,List.length_cons,List.length_nil,Nat.zero_add]
    rw[hnx,List.map_append]; rfl)
 rw[zl] at hy
 subst hy
 have hz: -1000000<=(cs.length:Int)/\(cs.length:Int)<=1000000:=by omega
 have hz2:cs.length<=1000000:=by omega
 have hml:(cs.map Cl.D).length=cs.length:=by simp
 have hvv:((WM xs cs cs.length).map Cl.D).map OV.d=(j8 xs cs).map fun c=>OV.d c.D:=by rw[List.map_map]; rfl
 rw[<- hvv]
 unfold zc at *
 generalize (WM xs cs cs.length).map Cl.D=WW at *
 generalize cs.map Cl.D=Y at *
 simp![ZM,hml,hz,hz2,zl,e]
noncomputable def YH (cf:CF):Prop:=∀ (cs:List Cl) (xs:List Int),cs.length<=1000->cf "_law_wax" [.d (zc cs),.d (zf xs)]=.ok (.l ((j8 xs cs).map fun c=>.d c.D)) [none,none]
theorem wZ (cf:CF){size:Nat}{o0:Option OV}:∀ (xs:List Int) (o2:Option OV),(xs.all (qN size)=true->∃ o2',qk (.nm 2 2) (b_law_picks_word_1.ex cf []) (xs.map .int) [o0,some (.d (.int size)),o2]=.ok (.next,[o0,some (.d (.int size)),o2'])) /\
  (xs.all (qN size)=false->∃ Γ',qk (.nm 2 2) (b_law_picks_word_1.ex cf []) (xs.map .int) [o0,some (.d (.int size)),o2]=.ok (.ret (.d (.str "NoCell")),Γ'))
 | [],o2=>⟨fun _=>⟨o2,rfl⟩,fun h=>by cases h⟩
 | x::xs,o2=>by
  obtain⟨h1,h2⟩:=wZ cf (size:=size) (o0:=o0) xs (some (.d (.int x)))
  have good:qN size x=true->b_law_picks_word_1.ex cf [] [o0,some (.d (.int size)),some (.d (.int x))]=.ok (.next,[o0,some (.d (.int size)),some (.d (.int x))]):=fun h=>by
   unfold qN at h
   simp only[decide_eq_true_eq] at h
   have g1:¬ (x<0):=by omega
   have g2:¬ ((size:Int)<=x):=by omega
   simp![b_law_picks_word_1,g1,g2]
  have bad:qN size x=false->b_law_picks_word_1.ex cf [] [o0,some (.d (.int size)),some (.d (.int x))]=.ok (.ret (.d (.str "NoCell")),[o0,some (.d (.int size)),some (.d (.int x))]):=fun h=>by
   unfold qN at h
   simp only[decide_eq_false_iff_not] at h
   by_cases g1:x<0
   ·simp![b_law_picks_word_1,g1]
   ·have g2:(size:Int)<=x:=by omega
    simp![b_law_picks_word_1,g1,g2]
  have htg:tgF (.nm 2 2) (PyData.int x) [o0,some (.d (.int size)),o2]=some [o0,some (.d (.int size)),some (.d (.int x))]:=rfl
  refine⟨fun h=>?_,fun h=>?_⟩
  ·rw[List.all_cons,Bool.and_eq_true] at h
   obtain⟨o2',e⟩:=h1 h.2
   refine⟨o2',?_⟩
   rw[List.map_cons,qk,htg]
   simp only[good h.1]
   exact e
  ·rw[List.all_cons,Bool.and_eq_false_iff] at h
   cases hx:qN size x with
   | false=>
    refine⟨[o0,some (.d (.int size)),some (.d (.int x))],?_⟩
    rw[List.map_cons,qk,htg]
    simp only[bad hx]
   | true=>
    rcases h with h | h
    ·rw[hx] at h; cases h
    ·obtain⟨Γ',e⟩:=h2 h
     refine⟨Γ',?_⟩
     rw[List.map_cons,qk,htg]
     simp only[good hx]
     exact e
noncomputable def jA (xs:List Int) (size:Nat):Str:=if xs.all (qN size) then (if Y3 xs then "Twice" else "") else "NoCell"
theorem Kl (cf:CF){xs:List Int}(hx:xs.length<=60) (size:Nat):runI 3 [false,false] [] zN cf [.d (zf xs),.d (.int size)]=.ok (.d (.str (jA xs size))) [none,none]:=by
 obtain⟨h1,h2⟩:=wZ cf (size:=size) (o0:=some (.d (zf xs))) xs none
 have hio:=Ju xs
 have hml:(xs.map PyData.int).length=xs.length:=by simp
 have hz:xs.length<=1000000:=by omega
 unfold jA Y3
 unfold zf at *
 generalize xs.map PyData.int=X at *
 cases hal:xs.all (qN size) with
 | false=>
  obtain⟨Γ',e⟩:=h2 hal
  simp![zN,hml,hz,e]
  cases Γ' with
  | nil=>rfl
  | cons y r=>
   cases r <;> rfl
 | true=>
  obtain⟨o2',e⟩:=h1 hal
  by_cases hd:(Tab.dedup xs).length<xs.length
  ·have hd2:((Tab.dedup xs).length:Int)<(xs.length:Int):=by omega
   simp![zN,hml,hz,e,Jp,hio,hx,hd,hd2]
  ·have hd2:¬ (((Tab.dedup xs).length:Int)<(xs.length:Int)):=by omega
   simp![zN,hml,hz,e,Jp,hio,hx,hd,hd2]
noncomputable def VV (cf:CF):Prop:=∀ (xs:List Int) (size:Nat),xs.length<=60->cf "_law_picks_word" [.d (zf xs),.d (.int size)]=.ok (.d (.str (jA xs size))) [none,none]
theorem Yh (cf:CF) (ht:qg cf) (hpl:w5 cf){b:OV}(hb:zu b){size:Nat}(hs:size<=1000){sp:Int}{o3 o6:Option OV}{xs:List Int}(hl:xs.length<1000){x:PyData} :
  ∃ (b':OV) (ys:List Int) (o6':Option OV),zu b'/\ys.length<=xs.length+1/\b_law_picks_1.ex cf [0] [some b,some (.d (.int size)),some (.d (.int sp)),o3,some (.l (xs.map fun i=>.d (.int i))),some (.d x),o6]=.ok (.next,[some b',some (.d (.int size)),some (.d (.int sp)),o3,some (.l (ys.map fun i=>.d (.int i))),some (.d x),o6']):=by
 have hz:xs.length<1000000:=by omega
 have hml:(xs.map fun i=>OV.d (.int i)).length=xs.length:=by simp
 have happ:∀ a:Int,((xs++ [a]).map fun i=>OV.d (.int i))=(xs.map fun i=>OV.d (.int i))++ [.d (.int a)]:=fun a=>by simp
 by_cases h0:sp=0
 ·subst h0
  obtain⟨a,b1,hb1,e1⟩:=hpl b hb size hs
  refine⟨b1,xs++ [a],o6,hb1,by simp,?_⟩
  rw[happ]
  generalize (xs.map fun i=>OV.d (.int i))=XO at *
  simp![b_law_picks_1,zF,zJ,e1,hml,hz,zB]
 ·have hq:(sp==0)=false:=by simpa using h0
  obtain⟨r,b1,hr0,hr1,hb1,e1⟩:=ht b hb ((size:Int)+1) (by omega) (by omega)
  by_cases hlt:r<(size:Int)
  ·have hvw:(OV.l (xs.map fun i=>.d (.int i))).view=.list (xs.map .int):=by rw[OV.view,OV.views_map,List.map_map]; rfl
   have hin:=Wq xs r
   have hal:=Qu xs
   cases hc:xs.contains r with
   | true=>
    rw[hc] at hin
    refine⟨b1,xs,some (.d (.int r)),hb1,by omega,?_⟩
    generalize (xs.map fun i=>OV.d (.int i))=XO at *
    generalize xs.map PyData.int=X at *
    simp![b_law_picks_1,zF,zJ,hq,h0,e1,hlt,hvw,hin,hal,zB]
   | false=>
    rw[hc] at hin
    refine⟨b1,xs++ [r],some (.d (.int r)),hb1,by simp,?_⟩
    rw[happ]
    generalize (xs.map fun i=>OV.d (.int i))=XO at *
    generalize xs.map PyData.int=X at *
    simp![b_law_picks_1,zF,zJ,hq,h0,e1,hlt,hvw,hin,hal,hml,hz,zB]
  ·refine⟨b1,xs,some (.d (.int r)),hb1,by omega,?_⟩
   generalize (xs.map fun i=>OV.d (.int i))=XO at *
   simp![b_law_picks_1,zF,zJ,hq,h0,e1,hlt,zB]
theorem Kc (cf:CF) (ht:qg cf) (hpl:w5 cf){b:OV}(hb:zu b){size:Nat}(hs:size<=50):∃ (xs:List Int) (b':OV),zu b'/\xs.length<=60/\runI 7 [true,false] [0] qr cf [b,.d (.int size)]=.ok (.d (zf xs)) [some b',none]:=by
 obtain⟨sp,b1,hs0,hs1,hb1,e1⟩:=ht b hb 3 (by decide) (by decide)
 obtain⟨m,b2,hm0,hm1,hb2,e2⟩:=ht b1 hb1 7 (by decide) (by decide)
 obtain⟨M,rfl⟩:∃ k:Nat,m=k:=⟨m.toNat,by omega⟩
 by_cases hsp:sp=2/\(M:Int)=0
 ·obtain⟨rfl,hM⟩:=hsp
  rw[hM] at e2
  have hz:(size:Int)<=1000000:=by omega
  refine⟨(List.range size).reverse.map fun (i:Nat)=>(i:Int),b2,hb2,by simp; omega,?_⟩
  have hr:(zG size).reverse=((List.range size).reverse.map fun (i:Nat)=>(i:Int)).map .int:=by
   unfold zG
   rw[<- List.map_reverse,List.map_map]; rfl
  unfold zf
  rw[<- hr]
  simp![qr,e1,e2,zF,zJ,Y8,hz,Y7,Vk,zB]
 ·obtain⟨Γ',e3,⟨b3,xs,o5,o6,hb3,hxl,rfl⟩⟩:=je (t:=.nm 5 5) (body:=b_law_picks_1.ex cf [0]) (ds:=zG M) (Γ:= [some b2,some (.d (.int size)),some (.d (.int sp)),some (.d (.int M)),some (.l []),none,none])
   (fun pre Γ=>∃ (b3:OV) (xs:List Int) (o5 o6:Option OV),zu b3/\xs.length<=pre.length/\Γ= [some b3,some (.d (.int size)),some (.d (.int sp)),some (.d (.int M)),some (.l (xs.map fun i=>.d (.int i))),o5,o6]) ⟨b2,[],none,none,hb2,Nat.le_refl _,rfl⟩ (by
    rintro pre x post e Γ ⟨b3,xs,o5,o6,hb3,hxl,rfl⟩
    have hpl2:pre.length<M:=by
     have:=congrArg List.length e
     rw[zl] at this; simp at this; omega
    obtain⟨b4,ys,o6',hb4,hyl,es⟩:=Yh cf ht hpl hb3 (size:=size) (by omega) (sp:=sp) (o3:=some (.d (.int M))) (o6:=o6) (xs:=xs) (by omega) (x:=x)
    exact⟨_,_,rfl,es,b4,ys,_,o6',hb4,by simp; omega,rfl⟩)
  rw[zl] at hxl
  refine⟨xs,b3,hb3,by omega,?_⟩
  have hz: -1000000<=(M:Int)/\(M:Int)<=1000000:=by omega
  have hlv:leaves (xs.map fun i=>OV.d (.int i))=some (xs.map .int):=by
   have:=kI (xs.map PyData.int)
   rw[List.map_map] at this; exact this
  have hz2:M<=1000000:=by omega
  unfold zf
  generalize (xs.map fun i=>OV.d (.int i))=XO at *
  generalize xs.map PyData.int=X at *
  by_cases h2:sp=2
  ·have hM:¬ ((M:Int)=0):=fun z=>hsp ⟨h2,z⟩
   have hM0:¬ (M=0):=by omega
   have hq2:((M:Int)==0)=false:=by simpa using hM0
   subst h2
   simp![qr,e1,e2,zF,zJ,hq2,hM0,hz,hz2,zl,e3,hlv,zB]
  ·have hq1:(sp==2)=false:=by simpa using h2
   simp![qr,e1,e2,zF,zJ,hq1,h2,hz,hz2,zl,e3,hlv,zB]
noncomputable def VW (cf:CF):Prop:=∀ b,zu b->∀ size:Nat,size<=50->∃ (xs:List Int) (b':OV),zu b'/\xs.length<=60/\cf "_law_picks" [b,.d (.int size)]=.ok (.d (zf xs)) [some b',none]
end Wx
set_option maxHeartbeats 4000000
namespace Wx
open PySem L2 L3
theorem kJ (cf:CF){pots:Nat}{cs:List Cl}(hb:Bolt pots cs){d:Nat}(hd:d<pots) :
  runI 2 [false,false] [] qC cf [.d (zc cs),.d (.int d)]=.ok (.d (.bool (cs.any (zD d)))) [none,none]:=by
 obtain⟨ys,Γ',e,hy,rfl⟩:=zU (k:=1) (t:=.nm 0 2) (cond:=fYes) (elt:=(b_law_full_1.ev cf).1) (ds:=cs.map Cl.D) (Γ:= [some (.d (zc cs)),some (.d (.int d))])
  (fun pre ys Γ=>ys=((cs.take pre.length).map (zD d)).map .bool/\Γ= [some (.d (zc cs)),some (.d (.int d))]) ⟨rfl,rfl⟩ (by
   rintro pre x post e ys Γ ⟨hy,rfl⟩
   have hlt:pre.length<cs.length:=by have:=congrArg List.length e; simp at this; omega
   have hxe:x=(cs[pre.length]).D:=by
    have:(cs.map Cl.D)[pre.length]?=some x:=by rw[e]; simp
    rw[List.getElem?_map,List.getElem?_eq_getElem hlt] at this
    simpa using this.symm
   have hc:=hb.2 _ (List.getElem_mem hlt)
   have hnx:(cs.take (pre.length+1)).map (zD d)=(cs.take pre.length).map (zD d)++ [zD d cs[pre.length]]:=by
    rw[List.take_add_one,List.getElem?_eq_getElem hlt,List.map_append]; rfl
   generalize cs[pre.length]=c at *
   subst hxe
   have hdl:d<c.st.length:=by rw[hc.sl]; exact hd
   have a1:=Jb (xs:=c.st) (d:=d) hdl
   have h9:c.st.getD d 0<=9:=by
    rw[List.getD_eq_getElem?_getD,List.getElem?_eq_getElem hdl]
    exact (hc.sn _ (List.getElem_mem hdl)).2
   have hq:(c.st.getD d 0==9)=decide (9<=c.st.getD d 0):=by
    rw[Bool.eq_iff_iff,beq_iff_eq,decide_eq_true_eq]; omega
   refine⟨[some (.d (zc cs)),some (.d (.int d)),some (.d c.D)],true,_,rfl,rfl,fun _=>⟨.dat (.bool (zD d c)),[some (.d (zc cs)),some (.d (.int d)),some (.d c.D)],.bool (zD d c),?_,rfl,?_,rfl⟩,fun h=>nomatch h⟩
   ·unfold zD Cl.D qy
    rw[<- hq]
    generalize c.st.getD d 0=g at *
    have a0:atI [zf c.st,PyData.bool c.w,zf c.wi] 0=some (zf c.st):=rfl
    have a2:atI [zf c.st,PyData.bool c.w,zf c.wi] 1=some (.bool c.w):=rfl
    unfold zf at *
    generalize c.st.map PyData.int=X at *
    generalize c.wi.map PyData.int=Y at *
    cases hw:c.w with
    | true=>
     rw[hw] at a0 a2
     simp![b_law_full_1,a0,a2]
    | false=>
     rw[hw] at a0 a2
     simp![b_law_full_1,a0,a2,a1,zF,zJ]
   ·rw[hy]
    simp only[List.length_append,List.length_cons,List.length_nil,Nat.zero_add]
    rw[hnx,List.map_append]; rfl)
 have ht:(cs.take (cs.map Cl.D).length)=cs:=by rw[List.length_map,List.take_length]
 rw[ht] at hy
 subst hy
 have hz:cs.length<=1000000:=by have:=hb.1; omega
 have hb1:=wb (cs.map (zD d))
 have ha:(cs.map (zD d)).any id=cs.any (zD d):=by rw[List.any_map]; rfl
 rw[ha] at hb1
 have hml:((cs.map (zD d)).map PyData.bool).length<=1000000:=by simpa using hz
 unfold zc at *
 have hxl:(cs.map Cl.D).length<=1000000:=by simpa using hz
 generalize (cs.map (zD d)).map PyData.bool=BB at *
 generalize cs.map Cl.D=X at *
 generalize cs.any (zD d)=b at *
 simp![qC,e,hb1,hxl,hml]
theorem y8 (cf:CF) (d:Int):runI 2 [false,false] [] qC cf [.d (zc []),.d (.int d)]=.ok (.d (.bool false)) [none,none]:=by
 simp![qC,zc,zY,zR]
theorem zaS (cf:CF){st:List Int}(hl:st.length<=1000){d:Nat}{o0 o2 o4 o5:Option OV} :
  zY 1 (.nm 0 6) fYes (b_law_dip_1.ev cf).1 (zG st.length) [] [o0,some (.d (.int d)),o2,some (.d (zf st)),o4,o5]=.ok ((Q7 d st).map .int,[o0,some (.d (.int d)),o2,some (.d (zf st)),o4,o5]):=by
 have e:=Qo (k:=1) (t:=.nm 0 6) (cond:=fYes) (elt:=(b_law_dip_1.ev cf).1) (ds:=zG st.length) (Γ:= [o0,some (.d (.int d)),o2,some (.d (zf st)),o4,o5]) (fun _=>true) (fun x=>match x with | .int i=>.int (st.getD i.toNat 0+(if i.toNat=d then 1 else 0)) | _=>.none) (by
  intro x hx
  obtain⟨i,hi,rfl⟩:=List.mem_map.mp hx
  have hi':i<st.length:=by simpa using hi
  have a1:=Jb (xs:=st) (d:=i) hi'
  refine⟨[o0,some (.d (.int d)),o2,some (.d (zf st)),o4,o5,some (.d (.int i))],_,rfl,rfl,by simp,fun _=>⟨.dat (.int (st.getD i 0+(if i=d then 1 else 0))),[o0,some (.d (.int d)),o2,some (.d (zf st)),o4,o5,some (.d (.int i))],?_,rfl,by simp⟩⟩
  have hq:((i:Int)==(d:Int))=decide (i=d):=by
   rw[Bool.eq_iff_iff,beq_iff_eq,decide_eq_true_eq]; omega
  unfold zf
  generalize st.getD i 0=g at *
  generalize st.map PyData.int=X at *
  by_cases hid:i=d
  ·subst hid
   simp![b_law_dip_1,a1,zF,zJ]
  ·have hn:((i:Int)==(d:Int))=false:=by rw[hq]; simpa using hid
   simp![b_law_dip_1,a1,zF,zJ,hn,hid])
 rw[e,Qt]
 unfold zG Q7
 rw[List.map_map,List.map_map]
 rfl
theorem zaT (cf:CF){pots:Nat}(hp:pots<=1000){cs:List Cl}(hb:Bolt pots cs) (d:Nat) :
  runI 6 [false,false] [] qV cf [.d (zc cs),.d (.int d)]=.ok (.l ((cs.map (zV d)).map fun c=>.d c.D)) [none,none]:=by
 obtain⟨Γ',e,⟨o3,o4,o5,rfl⟩⟩:=je (t:=.tp (.cons (.nm 3 3) (.cons (.nm 4 4) (.cons (.nm 5 5) .nil)))) (body:=b_law_dip_2.ex cf []) (ds:=cs.map Cl.D) (Γ:= [some (.d (zc cs)),some (.d (.int d)),some (.l []),none,none,none])
  (fun pre Γ=>∃ o3 o4 o5:Option OV,Γ= [some (.d (zc cs)),some (.d (.int d)),some (.l (((cs.take pre.length).map (zV d)).map fun c=>.d c.D)),o3,o4,o5]) ⟨_,_,_,rfl⟩ (by
   rintro pre x post e Γ ⟨o3,o4,o5,rfl⟩
   have hlt:pre.length<cs.length:=by have:=congrArg List.length e; simp at this; omega
   have hxe:x=(cs[pre.length]).D:=by
    have:(cs.map Cl.D)[pre.length]?=some x:=by rw[e]; simp
    rw[List.getElem?_map,List.getElem?_eq_getElem hlt] at this
    simpa using this.symm
   have hc:=hb.2 _ (List.getElem_mem hlt)
   have hnx:(cs.take (pre.length+1)).map (zV d)=(cs.take pre.length).map (zV d)++ [zV d cs[pre.length]]:=by
    rw[List.take_add_one,List.getElem?_eq_getElem hlt,List.map_append]; rfl
   have hz:(((cs.take pre.length).map (zV d)).map fun c=>OV.d c.D).length<1000000:=by
    have:=hb.1
    simp; omega
   generalize cs[pre.length]=c at *
   subst hxe
   have hpl:(pre++ [c.D]).length=pre.length+1:=by simp
   rw[hpl,hnx,List.map_append]
   have e1:=zaS cf (st:=c.st) (by rw[hc.sl]; exact hp) (d:=d) (o0:=some (.d (zc cs))) (o2:=some (.l (((cs.take pre.length).map (zV d)).map fun c=>.d c.D))) (o4:=some (.d (.bool c.w))) (o5:=some (.d (zf c.wi)))
   have hz1: -1000000<=(c.st.length:Int)/\(c.st.length:Int)<=1000000:=by rw[hc.sl]; omega
   have hz2:c.st.length<=1000000:=by rw[hc.sl]; omega
   have hz3:((Q7 d c.st).map PyData.int).length<=1000000:=by simp[vg]; rw[hc.sl]; omega
   generalize ((cs.take pre.length).map (zV d)).map (fun c=>OV.d c.D)=AA at *
   refine⟨[some (.d (zc cs)),some (.d (.int d)),some (.l AA),some (.d (zf c.st)),some (.d (.bool c.w)),some (.d (zf c.wi))],[some (.d (zc cs)),some (.d (.int d)),some (.l (AA++ [.d (zV d c).D])),some (.d (zf (zV d c).st)),some (.d (.bool c.w)),some (.d (zf c.wi))],rfl,?_,_,_,_,rfl⟩
   unfold zV
   have hl0:(c.st.map PyData.int).length=c.st.length:=by simp
   cases hw:c.w with
   | true=>
    simp![b_law_dip_2,hw,Cl.D,qy,hz]
   | false=>
    rw[hw] at e1
    unfold zf at *
    generalize c.st.map PyData.int=X at *
    generalize hY:(Q7 d c.st).map PyData.int=Y at *
    generalize hZ:c.wi.map PyData.int=Z at *
    simp![b_law_dip_2,hw,Cl.D,qy,zf,hl0,hz1,hz2,hz3,e1,hz,zl]
    exact⟨⟨hY.symm,hZ.symm⟩,hY.symm⟩)
 have ht:(cs.take (cs.map Cl.D).length)=cs:=by rw[List.length_map,List.take_length]
 rw[ht] at e
 unfold zc at *
 generalize cs.map Cl.D=X at *
 generalize (cs.map (zV d)).map (fun c=>OV.d c.D)=DD at *
 simp![qV,e]
theorem kH (cf:CF) (d:Int):runI 6 [false,false] [] qV cf [.d (zc []),.d (.int d)]=.ok (.l []) [none,none]:=by
 simp![qV,zc,qk]
noncomputable def VP (cf:CF):Prop:=(∀ (pots:Nat) (cs:List Cl) (d:Nat),Bolt pots cs->d<pots->cf "_law_full" [.d (zc cs),.d (.int d)]=.ok (.d (.bool (cs.any (zD d)))) [none,none])/\∀ d:Int,cf "_law_full" [.d (zc []),.d (.int d)]=.ok (.d (.bool false)) [none,none]
noncomputable def YG (cf:CF):Prop:=(∀ (pots:Nat) (cs:List Cl) (d:Nat),pots<=1000->Bolt pots cs->cf "_law_dip" [.d (zc cs),.d (.int d)]=.ok (.l ((cs.map (zV d)).map fun c=>.d c.D)) [none,none])/\∀ d:Int,cf "_law_dip" [.d (zc []),.d (.int d)]=.ok (.l []) [none,none]
theorem Y0 {pots d:Nat}{cs:List Cl}(h:JY pots cs):JY pots (cs.map (zV d)):=fun c hc=>by
 obtain⟨a,ha,rfl⟩:=List.mem_map.mp hc
 obtain⟨h1,h2⟩:=h a ha
 unfold zV
 split
 ·exact⟨h1,h2⟩
 ·exact⟨by rw[vg]; exact h1,h2⟩
end Wx
namespace Wx
open PySem L2 L3
end Wx
set_option maxHeartbeats 4000000
namespace Wx
open PySem L2 L3
end Wx
set_option maxHeartbeats 4000000
namespace Wx
open PySem L2 L3
noncomputable def tS (i:Int):Str:=Str.ofString (toString i)
theorem KM (s:String):PyData.strOk (Str.ofString s)=true:=by
 rw[Str.ofString_eq_toList]
 unfold PyData.strOk
 rw[Array.all_eq_true]
 intro i hi
 have key:∀ c:Char,c.toNat<0x110000:=fun c=>by
  have:=c.valid
  rcases this with h | h
  ·have h1:c.toNat<0xd800:=h
   omega
  ·exact h.2
 simp only[decide_eq_true_eq]
 have:∀ x∈(s.toList.map Char.toNat),x<0x110000:=fun x hx=>by
  obtain⟨c,_,rfl⟩:=List.mem_map.mp hx
  exact key c
 have hi':i<(s.toList.map Char.toNat).length:=by simpa using hi
 have:=this _ (List.getElem_mem hi')
 simpa using this
inductive Deed where
 | hang (n:Str) (k:Int)
 | fold (n:Str)
 | twin (n m:Str)
 | wish (n:Str) (k:Int) (sh:List Int)
 | wax (n:Str) (cs:List Int)
 | dip (ns:List Str) (k:Int)
 | boil (ns:List Str)
 | brew (k:Int)
noncomputable def zcp (ns:List Str):PyData:=.tuple (ns.map .str)
noncomputable def Deed.D:Deed->PyData
 | .hang n k=>.tuple [.str "hang",.str n,.int k]
 | .fold n=>.tuple [.str "fold",.str n]
 | .twin n m=>.tuple [.str "twin",.str n,.str m]
 | .wish n k sh=>.tuple [.str "wish",.str n,.int k,zf sh]
 | .wax n cs=>.tuple [.str "wax",.str n,zf cs]
 | .dip ns k=>.tuple [.str "dip",zcp ns,.int k]
 | .boil ns=>.tuple [.str "boil",zcp ns]
 | .brew k=>.tuple [.str "brew",.int k]
noncomputable def Nm (x:Str):Prop:=1<=x.length/\x.length<=8/\∀ c∈x.cps.toList,97<=c/\c<=122
noncomputable def Nb (i:Int):Prop:=0<=i/\i<1000000
noncomputable def Deed.Ok:Deed->Prop
 | .hang n k=>Nm n/\Nb k
 | .fold n=>Nm n
 | .twin n m=>Nm n/\Nm m
 | .wish n k sh=>Nm n/\Nb k/\sh.length<=12/\∀ x∈sh,0<=x/\x<=9
 | .wax n cs=>Nm n/\cs.length<=8/\∀ x∈cs,Nb x
 | .dip ns k=>ns.length<=4/\(∀ n∈ns,Nm n)/\Nb k
 | .boil ns=>ns.length<=4/\∀ n∈ns,Nm n
 | .brew k=>Nb k
theorem Nm.ok {x:Str}(h:Nm x):PyData.strOk x=true:=by
 unfold PyData.strOk
 rw[Array.all_eq_true]
 intro i hi
 have:=(h.2.2 x.cps[i] (by simp)).2
 simp only[decide_eq_true_eq]; omega
theorem Nb.abs {i:Int}(h:Nb i):i.natAbs<1000000000:=by have:=h.1; have:=h.2; omega
noncomputable def shS (sh:List Int):Str:=if sh.isEmpty then "-" else Str.join "" (sh.map tS)
noncomputable def Deed.words:Deed->List Str
 | .hang n k=> ["hang",n,tS k]
 | .fold n=> ["fold",n]
 | .twin n m=> ["twin",n,m]
 | .wish n k sh=> ["wish",n,tS k,shS sh]
 | .wax n cs=> "wax" ::n::cs.map tS
 | .dip ns k=> "dip" ::tS k::ns
 | .boil ns=> "boil" ::ns
 | .brew k=> ["brew",tS k]
noncomputable def Deed.row (d:Deed):Str:=Str.join " " d.words
theorem kQ {x y:String}(h:Str.ofString x=Str.ofString y):x=y:=by
 rw[Str.ofString_eq_toList,Str.ofString_eq_toList] at h
 have h1:x.toList.map Char.toNat=y.toList.map Char.toNat:=by
  have:=congrArg (fun z:Str=>z.cps.toList) h
  simpa using this
 have key:∀ a b:List Char,a.map Char.toNat=b.map Char.toNat->a=b:=by
  intro a
  induction a with
  | nil=>intro b e; cases b with
   | nil=>rfl
   | cons _ _=>cases e
  | cons c r ih=>
   intro b e
   cases b with
   | nil=>cases e
   | cons d s=>
    rw[List.map_cons,List.map_cons,List.cons.injEq] at e
    rw[ih s e.2,show c=d from Char.ext (UInt32.toNat_inj.mp e.1)]
 exact String.toList_inj.mp (key _ _ h1)
theorem wq (x y:String):PyData.eqv (.str (Str.ofString x)) (.str (Str.ofString y))=decide (x=y):=by
 show decide (Str.ofString x=Str.ofString y)=_
 by_cases h:x=y
 ·subst h; simp
 ·rw[decide_eq_false h,decide_eq_false (fun e=>h (kQ e))]
theorem z7 (s:String) (n:Nat):lay n (.str (Str.ofString s))=true:=by
 have:=KM s
 cases n <;> exact this
end Wx
set_option maxHeartbeats 4000000
namespace Wx
open PySem L2 L3
theorem zb8 {α:Type}{k:Nat}{t:IT}{elt:EM FV}(g f:α->PyData){xs:List α}{Γ:Gv}
  (hs:∀ a∈xs,∃ Γ2 u Γ4,tgF t (g a) (Γ++List.replicate k none)=some Γ2/\elt Γ2=.ok (u,Γ4)/\derS Γ4 u=some (f a)/\Γ4.take Γ.length=Γ) :
  zY k t fYes elt (xs.map g) [] Γ=.ok (xs.map f,Γ):=by
 obtain⟨ys,Γ',e,hy,rfl⟩:=zU (k:=k) (t:=t) (cond:=fYes) (elt:=elt) (fun pre ys Γ'=>ys=(xs.take pre.length).map f/\Γ'=Γ) (ds:=xs.map g) (Γ:=Γ) ⟨rfl,rfl⟩ (by
  rintro pre d post e ys Γ' ⟨rfl,rfl⟩
  have hlen:pre.length<xs.length:=by
   have:=congrArg List.length e
   simp at this; omega
  have hd:d=g xs[pre.length]:=by
   have h1:(xs.map g)[pre.length]?=some d:=by rw[e]; simp
   rw[List.getElem?_map,List.getElem?_eq_getElem hlen] at h1
   exact (Option.some.inj h1).symm
  obtain⟨Γ2,u,Γ4,e1,e2,e3,e4⟩:=hs xs[pre.length] (List.getElem_mem hlen)
  rw[<- hd] at e1
  refine⟨Γ2,true,Γ2,e1,rfl,fun _=>⟨u,Γ4,f xs[pre.length],e2,e3,?_,e4⟩,fun z=>nomatch z⟩
  rw[List.length_append,List.length_singleton,List.take_add_one,List.map_append,List.getElem?_eq_getElem hlen]
  rfl)
 rw[e]
 rw[hy]
 simp
noncomputable def bK (c:Cl):Cl:=⟨c.st,false,c.wi⟩
theorem v7 (cf:CF){cs:List Cl}(hl:cs.length<=1000):runI 1 [false] [] JE cf [.d (zc cs)]=.ok (.l ((cs.map bK).map fun c=>.d c.D)) [none]:=by
 have e:=zb8 (k:=3) (t:=.tp (.cons (.nm 0 1) (.cons (.nm 1 2) (.cons (.nm 2 3) .nil)))) (elt:=(p_boiled_1.ev cf).1) Cl.D (fun c=>(bK c).D) (xs:=cs) (Γ:= [some (.d (zc cs))]) (by
  intro c hc
  refine⟨[some (.d (zc cs)),some (.d (zf c.st)),some (.d (.bool c.w)),some (.d (zf c.wi))],.dat (bK c).D,[some (.d (zc cs)),some (.d (zf c.st)),some (.d (.bool c.w)),some (.d (zf c.wi))],rfl,?_,rfl,rfl⟩
  unfold bK Cl.D qy
  generalize zf c.st=A at *
  generalize zf c.wi=B at *
  simp![p_boiled_1])
 have hz:(cs.map Cl.D).length<=1000000:=by simp; omega
 have hvv:(cs.map fun c=>(bK c).D).map OV.d=(cs.map bK).map fun c=>OV.d c.D:=by rw[List.map_map,List.map_map]; rfl
 rw[<- hvv]
 unfold zc at *
 generalize (cs.map fun c=>(bK c).D)=DD at *
 generalize cs.map Cl.D=X at *
 simp![JE,e,hz]
noncomputable def J8 (cf:CF):Prop:=∀ cs:List Cl,cs.length<=1000->cf "boiled" [.d (zc cs)]=.ok (.l ((cs.map bK).map fun c=>.d c.D)) [none]
theorem y7 (cf:CF){cs:List Cl}(hl:cs.length<=1000):runI 1 [false] [] Zb cf [.d (zc cs)]=.ok (.l ((cs.map bK).map fun c=>.d c.D)) [none]:=by
 obtain⟨ys,Γ',e,hy,rfl⟩:=zU (k:=1) (t:=.nm 0 1) (cond:=fYes) (elt:=(b_law_boil_1.ev cf).1) (ds:=zG cs.length) (Γ:= [some (.d (zc cs))])
  (fun pre ys Γ=>ys=((cs.take pre.length).map bK).map Cl.D/\Γ= [some (.d (zc cs))]) ⟨rfl,rfl⟩ (by
   rintro pre x post e ys Γ ⟨rfl,rfl⟩
   have h1:(zG cs.length)[pre.length]?=some x:=by rw[e]; simp
   obtain⟨hlt,rfl⟩:=qK h1
   have hc:cs[pre.length]?=some cs[pre.length]:=List.getElem?_eq_getElem hlt
   have a1:atI (cs.map Cl.D) (pre.length:Int)=some (cs[pre.length]).D:=Wa (by rw[List.getElem?_map,hc]; rfl)
   have hnx:(cs.take (pre.length+1)).map bK=(cs.take pre.length).map bK++ [bK cs[pre.length]]:=by
    rw[List.take_add_one,hc,List.map_append]; rfl
   generalize cs[pre.length]=c at *
   refine⟨[some (.d (zc cs)),some (.d (.int (pre.length:Nat)))],true,_,rfl,rfl,fun _=>⟨.dat (bK c).D,[some (.d (zc cs)),some (.d (.int (pre.length:Nat)))],(bK c).D,?_,rfl,?_,rfl⟩,fun h=>nomatch h⟩
   ·unfold bK
    have hbd:zc cs=.list (cs.map Cl.D):=rfl
    rw[hbd]
    unfold Cl.D qy at *
    generalize zf c.st=A at *
    generalize zf c.wi=B at *
    generalize (cs.map fun c=>PyData.tuple [zf c.st,PyData.bool c.w,zf c.wi])=Y at *
    simp![b_law_boil_1,a1,zeq,zer]
   ·simp only[List.length_append,List.length_cons,List.length_nil,Nat.zero_add]
    rw[hnx,List.map_append]; rfl)
 rw[zl,List.take_length] at hy
 subst hy
 have hz: -1000000<=(cs.length:Int)/\(cs.length:Int)<=1000000:=by omega
 have hz2:cs.length<=1000000:=by omega
 have hml:(cs.map Cl.D).length=cs.length:=by simp
 have hvv:((cs.map bK).map Cl.D).map OV.d=(cs.map bK).map fun c=>OV.d c.D:=by rw[List.map_map]; rfl
 rw[<- hvv]
 unfold zc at *
 generalize (cs.map bK).map Cl.D=WW at *
 generalize cs.map Cl.D=Y at *
 simp![Zb,hml,hz,hz2,zl,e]
noncomputable def WQ (cf:CF):Prop:=∀ cs:List Cl,cs.length<=1000->cf "_law_boil" [.d (zc cs)]=.ok (.l ((cs.map bK).map fun c=>.d c.D)) [none]
theorem jf (x y:String):(Str.ofString x=Str.ofString y)=(x=y):=propext ⟨kQ,fun h=>by rw[h]⟩
noncomputable def fbD (fr:List Bool):List PyData:=fr.map .bool
inductive Mv where
 | wax (xs:List Int)
 | dip (d:Nat)
 | boil
noncomputable def Mv.D:Mv->PyData
 | .wax xs=>.tuple [.str "wax",zf xs]
 | .dip d=>.tuple [.str "dip",.int d]
 | .boil=>.tuple [.str "boil"]
noncomputable def Mv.Ok (pots:Nat):Mv->Prop
 | .wax xs=>xs.length<=60
 | .dip d=>d<pots
 | .boil=>True
noncomputable def Mv.word (cs:List Cl) (fr:List Bool):Mv->Str
 | .wax xs=>jA xs cs.length
 | .dip d=>if fr.getD d false then (if cs.any (zD d) then "TooDeep" else "") else "Spent"
 | .boil=> ""
noncomputable def Mv.cs (cs:List Cl):Mv->List Cl
 | .wax xs=>j8 xs cs
 | .dip d=>cs.map (zV d)
 | .boil=>cs.map bK
noncomputable def Mv.fr (fr:List Bool):Mv->List Bool
 | .dip d=>fr.set d false
 | _=>fr
noncomputable def two (cs:List Cl) (fr:List Bool):OV:=.t [.l (cs.map fun c=>.d c.D),.l ((fbD fr).map .d)]
noncomputable def VU (cf:CF):Prop:=∀ (pots:Nat) (cs:List Cl) (fr:List Bool) (m:Mv),pots<=12->Bolt pots cs->fr.length=pots->m.Ok pots->cf "moved" [.d (zc cs),.d (.list (fbD fr)),.d m.D]=if m.word cs fr= "" then .ok (two (m.cs cs) (m.fr fr)) [none,none,none] else .exc ⟨m.word cs fr,.none⟩ [none,none,none]
theorem at1 {α:Type}(x:α):atI [x] 0=some x:=rfl
theorem Zu {α:Type}(a b:α):atI [a,b] 0=some a:=rfl
theorem Zv {α:Type}(a b:α):atI [a,b] 1=some b:=rfl
theorem zcm (Γ:Gv) (F:List PyData):z9 Γ (.dat (.list F))=some F:=rfl
theorem zcf {fr:List Bool}{d:Nat}(h:d<fr.length):atI (fbD fr) (d:Int)=some (.bool (fr.getD d false)):=Wa (by
 unfold fbD
 rw[List.getElem?_map,List.getElem?_eq_getElem h,List.getD_eq_getElem?_getD,List.getElem?_eq_getElem h]; rfl)
theorem kg {fr:List Bool}{d:Nat}(h:d<fr.length):(fbD fr).take d++ [PyData.bool false]++(fbD fr).drop (d+1)=fbD (fr.set d false):=by
 unfold fbD
 rw[List.set_eq_take_append_cons_drop,if_pos h,List.map_append,List.map_cons,List.map_take,List.map_drop]
 simp
theorem kM (cf:CF) (hw:YK cf) (hb:J8 cf) (hd:WP cf) (pots:Nat) (cs:List Cl) (fr:List Bool) (m:Mv) (hp:pots<=12) (hB:Bolt pots cs) (hf:fr.length=pots) (hm:m.Ok pots) :
  runI 5 [false,false,false] [] qd cf [.d (zc cs),.d (.list (fbD fr)),.d m.D]=if m.word cs fr= "" then .ok (two (m.cs cs) (m.fr fr)) [none,none,none] else .exc ⟨m.word cs fr,.none⟩ [none,none,none]:=by
 cases m with
 | wax xs=>
  have e1:=hw cs xs hB.1 hm
  unfold zbY at e1
  show runI 5 [false,false,false] [] qd cf [.d (zc cs),.d (.list (fbD fr)),.d (.tuple [.str "wax",zf xs])]=if jA xs cs.length= "" then .ok (two (j8 xs cs) fr) [none,none,none] else .exc ⟨jA xs cs.length,.none⟩ [none,none,none]
  unfold jA two
  generalize zc cs=B at *
  generalize zf xs=XS at *
  generalize ((j8 xs cs).map fun c=>OV.d c.D)=W at *
  generalize hFO:(fbD fr).map OV.d=FO at *
  generalize fbD fr=F at *
  generalize xs.all (qN cs.length)=al at *
  generalize Y3 xs=du at *
  cases al with
  | false=>
   rw[if_neg (by decide)] at e1
   simp![qd,qT,Zu,Zv,e1,Vp,jf,wq,z7,zB]
  | true=>
   rw[if_pos rfl] at e1
   cases du with
   | true=>
    rw[if_pos rfl] at e1
    simp![qd,qT,Zu,Zv,e1,KW,jf,wq,z7,zB]
   | false=>
    rw[if_neg (by decide)] at e1
    simp![qd,qT,Zu,Zv,e1,zcm,hFO,wq,z7,zB]
 | boil=>
  have e1:=hb cs hB.1
  show runI 5 [false,false,false] [] qd cf [.d (zc cs),.d (.list (fbD fr)),.d (.tuple [.str "boil"])]=if ("" :Str)= "" then .ok (two (cs.map bK) fr) [none,none,none] else .exc ⟨"",.none⟩ [none,none,none]
  unfold two
  generalize zc cs=B at *
  generalize ((cs.map bK).map fun c=>OV.d c.D)=W at *
  generalize hFO:(fbD fr).map OV.d=FO at *
  generalize fbD fr=F at *
  simp![qd,qT,at1,e1,zcm,hFO,wq,z7,zB]
 | dip d=>
  have hdl:d<fr.length:=by rw[hf]; exact hm
  have e1:=hd.1 pots cs d (by omega) hB hm
  have a1:=zcf hdl
  have c1:j6 (fbD fr) none (some (d:Int))=(fbD fr).take d:=YZ _ (by simp[fbD]; omega)
  have c2:j6 (fbD fr) (some ((d:Int)+1)) none=(fbD fr).drop (d+1):=by
   have:=YY (fbD fr) (a:=d+1) (by simp[fbD]; omega)
   exact this
  have c3:=kg hdl
  have z1:((fbD fr).take d).length<=1000:=by simp[fbD]; omega
  have z2:((fbD fr).drop (d+1)).length<=1000:=by simp[fbD]; omega
  show runI 5 [false,false,false] [] qd cf [.d (zc cs),.d (.list (fbD fr)),.d (.tuple [.str "dip",.int d])]=if (if fr.getD d false then (if cs.any (zD d) then ("TooDeep" :Str) else "") else "Spent")= "" then .ok (two (cs.map (zV d)) (fr.set d false)) [none,none,none] else .exc ⟨if fr.getD d false then (if cs.any (zD d) then "TooDeep" else "") else "Spent",.none⟩ [none,none,none]
  unfold two
  rw[<- c3]
  generalize zc cs=B at *
  generalize ((cs.map (zV d)).map fun c=>OV.d c.D)=W at *
  generalize (fbD fr).take d=T1 at *
  generalize (fbD fr).drop (d+1)=T2 at *
  generalize fbD fr=F at *
  generalize fr.getD d false=g at *
  generalize cs.any (zD d)=fu at *
  generalize (d:Int)=I at *
  have y1:T1.length+1<=1000000:=by omega
  have y2:T1.length+1+T2.length<=1000000:=by omega
  have y3:T1.length<=1000000:=by omega
  have y4:T2.length<=1000000:=by omega
  cases g with
  | false=>simp![qd,qT,Zu,Zv,a1,Qz,jf,wq,z7,zB]
  | true=>
   cases fu with
   | true=>
    rw[if_pos rfl] at e1
    simp![qd,qT,Zu,Zv,a1,e1,Ji,jf,wq,z7,zB]
   | false=>
    rw[if_neg (by decide)] at e1
    simp![qd,qT,zaL,zaK,Y9,Vk,Zu,Zv,a1,e1,c1,c2,y1,y2,y3,y4,wq,z7,zB]
noncomputable def Jl (w:Str):Prop:=w= "" ∨w= "NoCell" ∨w= "Twice" ∨w= "Spent" ∨w= "TooDeep"
theorem Mv.isWord (m:Mv) (cs:List Cl) (fr:List Bool):Jl (m.word cs fr):=by
 cases m with
 | wax xs=>
  show Jl (jA xs cs.length)
  unfold jA Jl
  split
  ·split
   ·exact .inr (.inr (.inl rfl))
   ·exact .inl rfl
  ·exact .inr (.inl rfl)
 | dip d=>
  show Jl (if fr.getD d false then (if cs.any (zD d) then "TooDeep" else "") else "Spent")
  unfold Jl
  split
  ·split
   ·exact .inr (.inr (.inr (.inr rfl)))
   ·exact .inl rfl
  ·exact .inr (.inr (.inr (.inl rfl)))
 | boil=>exact .inl rfl
noncomputable def Zi (w:Str) (cs:List Cl) (fr:List Bool):OV:=if w= "" then two cs fr else .d .none
noncomputable def VY (cf:CF):Prop:=∀ (pots:Nat) (cs:List Cl) (fr:List Bool) (m:Mv),pots<=12->Bolt pots cs->fr.length=pots->m.Ok pots->cf "_law_tried" [.d (zc cs),.d (.list (fbD fr)),.d m.D]=.ok (.t [.d (.str (m.word cs fr)),Zi (m.word cs fr) (m.cs cs) (m.fr fr)]) [none,none,none]
theorem KQ (cf:CF) (hm:VU cf) (pots:Nat) (cs:List Cl) (fr:List Bool) (m:Mv) (hp:pots<=12) (hB:Bolt pots cs) (hf:fr.length=pots) (ho:m.Ok pots):runI 5 [false,false,false] [] zT cf [.d (zc cs),.d (.list (fbD fr)),.d m.D]=.ok (.t [.d (.str (m.word cs fr)),Zi (m.word cs fr) (m.cs cs) (m.fr fr)]) [none,none,none]:=by
 have e1:=hm pots cs fr m hp hB hf ho
 have hw:=m.isWord cs fr
 unfold Zi
 have ht:∃ xs,two (m.cs cs) (m.fr fr)=.t xs:=⟨_,rfl⟩
 obtain⟨xs,ht⟩:=ht
 rw[ht] at e1 |-
 generalize zc cs=B at *
 generalize fbD fr=F at *
 generalize m.D=MD at *
 generalize m.word cs fr=w at *
 rcases hw with rfl | rfl | rfl | rfl | rfl
 ·rw[if_pos rfl] at e1
  simp![zT,e1,Jq,vE,IQ.ex,IQs.ex,zB,jf]
 ·rw[if_neg (by rw[jf]; decide)] at e1
  simp![zT,e1,Jq,vE,IQ.ex,IQs.ex,jp,HC.D,zB,jf]
 ·rw[if_neg (by rw[jf]; decide)] at e1
  simp![zT,e1,Jq,vE,IQ.ex,IQs.ex,jp,HC.D,zB,jf]
 ·rw[if_neg (by rw[jf]; decide)] at e1
  simp![zT,e1,Jq,vE,IQ.ex,IQs.ex,jp,HC.D,zB,jf]
 ·rw[if_neg (by rw[jf]; decide)] at e1
  simp![zT,e1,Jq,vE,IQ.ex,IQs.ex,jp,HC.D,zB,jf]
noncomputable def VS (cf:CF):Prop:=∀ (pots:Nat) (cs:List Cl) (fr:List Bool) (m:Mv),Bolt pots cs->fr.length=pots->m.Ok pots->cf "_law_move_word" [.d (zc cs),.d (.list (fbD fr)),.d m.D]=.ok (.d (.str (m.word cs fr))) [none,none,none]
theorem kP (cf:CF) (hp:VV cf) (hl:VP cf) (pots:Nat) (cs:List Cl) (fr:List Bool) (m:Mv) (hB:Bolt pots cs) (hf:fr.length=pots) (hm:m.Ok pots):runI 3 [false,false,false] [] zz cf [.d (zc cs),.d (.list (fbD fr)),.d m.D]=.ok (.d (.str (m.word cs fr))) [none,none,none]:=by
 cases m with
 | wax xs=>
  have e1:=hp xs cs.length hm
  have hz:(cs.map Cl.D).length=cs.length:=by simp
  show runI 3 [false,false,false] [] zz cf [.d (zc cs),.d (.list (fbD fr)),.d (.tuple [.str "wax",zf xs])]=.ok (.d (.str (jA xs cs.length))) [none,none,none]
  unfold zc
  generalize jA xs cs.length=w at *
  generalize zf xs=XS at *
  generalize cs.map Cl.D=Y at *
  generalize fbD fr=F at *
  simp![zz,Zu,Zv,e1,hz,wq,z7,zB]
 | boil=>
  show runI 3 [false,false,false] [] zz cf [.d (zc cs),.d (.list (fbD fr)),.d (.tuple [.str "boil"])]=.ok (.d (.str "")) [none,none,none]
  generalize zc cs=B at *
  generalize fbD fr=F at *
  simp![zz,at1,wq,z7,zB]
 | dip d=>
  have hdl:d<fr.length:=by rw[hf]; exact hm
  have e1:=hl.1 pots cs d hB hm
  have a1:=zcf hdl
  show runI 3 [false,false,false] [] zz cf [.d (zc cs),.d (.list (fbD fr)),.d (.tuple [.str "dip",.int d])]=.ok (.d (.str (if fr.getD d false then (if cs.any (zD d) then "TooDeep" else "") else "Spent"))) [none,none,none]
  generalize zc cs=B at *
  generalize fbD fr=F at *
  generalize fr.getD d false=g at *
  generalize cs.any (zD d)=fu at *
  generalize (d:Int)=I at *
  cases g with
  | false=>simp![zz,Zu,Zv,a1,wq,z7,zB]
  | true=>cases fu <;> simp![zz,Zu,Zv,a1,e1,wq,z7,zB]
noncomputable def YI (cf:CF):Prop:=∀ (pots:Nat) (cs:List Cl) (fr:List Bool) (m:Mv),pots<=12->Bolt pots cs->fr.length=pots->m.Ok pots->cf "_law_due" [.d (zc cs),.d (.list (fbD fr)),.d m.D]=.ok (.d (.tuple [zc (m.cs cs),.list (fbD (m.fr fr))])) [none,none,none]
theorem zaV (cf:CF) (hw:YH cf) (hb:WQ cf) (hd:YG cf) (pots:Nat) (cs:List Cl) (fr:List Bool) (m:Mv) (hp:pots<=12) (hB:Bolt pots cs) (hf:fr.length=pots) (hm:m.Ok pots):runI 3 [false,false,false] [] qe cf [.d (zc cs),.d (.list (fbD fr)),.d m.D]=.ok (.d (.tuple [zc (m.cs cs),.list (fbD (m.fr fr))])) [none,none,none]:=by
 cases m with
 | wax xs=>
  have e1:=hw cs xs hB.1
  have vb:=qu (j8 xs cs)
  show runI 3 [false,false,false] [] qe cf [.d (zc cs),.d (.list (fbD fr)),.d (.tuple [.str "wax",zf xs])]=.ok (.d (.tuple [zc (j8 xs cs),.list (fbD fr)])) [none,none,none]
  generalize zc (j8 xs cs)=B2 at *
  generalize OV.l ((j8 xs cs).map fun c=>.d c.D)=W at *
  generalize zc cs=B at *
  generalize zf xs=XS at *
  generalize fbD fr=F at *
  simp![qe,Zu,Zv,e1,vb,wq,z7,zB]
 | boil=>
  have e1:=hb cs hB.1
  have vb:=qu (cs.map bK)
  show runI 3 [false,false,false] [] qe cf [.d (zc cs),.d (.list (fbD fr)),.d (.tuple [.str "boil"])]=.ok (.d (.tuple [zc (cs.map bK),.list (fbD fr)])) [none,none,none]
  generalize zc (cs.map bK)=B2 at *
  generalize OV.l ((cs.map bK).map fun c=>.d c.D)=W at *
  generalize zc cs=B at *
  generalize fbD fr=F at *
  simp![qe,at1,e1,vb,wq,z7,zB]
 | dip d=>
  have hdl:d<fr.length:=by rw[hf]; exact hm
  have e1:=hd.1 pots cs d (by omega) hB
  have vb:=qu (cs.map (zV d))
  have c1:j6 (fbD fr) none (some (d:Int))=(fbD fr).take d:=YZ _ (by simp[fbD]; omega)
  have c2:j6 (fbD fr) (some ((d:Int)+1)) none=(fbD fr).drop (d+1):=by
   have:=YY (fbD fr) (a:=d+1) (by simp[fbD]; omega)
   exact this
  have c3:=kg hdl
  have z1:((fbD fr).take d).length<=1000:=by simp[fbD]; omega
  have z2:((fbD fr).drop (d+1)).length<=1000:=by simp[fbD]; omega
  show runI 3 [false,false,false] [] qe cf [.d (zc cs),.d (.list (fbD fr)),.d (.tuple [.str "dip",.int d])]=.ok (.d (.tuple [zc (cs.map (zV d)),.list (fbD (fr.set d false))])) [none,none,none]
  rw[<- c3]
  generalize zc (cs.map (zV d))=B2 at *
  generalize OV.l ((cs.map (zV d)).map fun c=>.d c.D)=W at *
  generalize zc cs=B at *
  generalize (fbD fr).take d=T1 at *
  generalize (fbD fr).drop (d+1)=T2 at *
  generalize fbD fr=F at *
  generalize (d:Int)=I at *
  have y1:T1.length+1<=1000000:=by omega
  have y2:T1.length+1+T2.length<=1000000:=by omega
  have y3:T1.length<=1000000:=by omega
  have y4:T2.length<=1000000:=by omega
  simp![qe,zaL,zaK,Y9,Vk,Zu,Zv,e1,vb,c1,c2,y1,y2,y3,y4,wq,z7,zB]
noncomputable def J9 (cf:CF):Prop:=∀ b,zu b->∀ pots size:Nat,1<=pots->pots<=12->size<=50->∃ (m:Mv) (b':OV),m.Ok pots/\zu b'/\cf "_law_drawn_move" [b,.d (.int pots),.d (.int size)]=.ok (.d m.D) [some b',none,none]
theorem Vj (cf:CF) (ht:qg cf) (hp:VW cf){b:OV}(hb:zu b){pots size:Nat}(h1:1<=pots) (h2:pots<=12) (hs:size<=50):∃ (m:Mv) (b':OV),m.Ok pots/\zu b'/\runI 4 [true,false,false] [0] zM cf [b,.d (.int pots),.d (.int size)]=.ok (.d m.D) [some b',none,none]:=by
 obtain⟨w,b1,hw0,hw1,hb1,e1⟩:=ht b hb 5 (by decide) (by decide)
 by_cases q1:w<2
 ·obtain⟨xs,b2,hb2,hx,e2⟩:=hp b1 hb1 size hs
  refine⟨.wax xs,b2,hx,hb2,?_⟩
  show _=RF.ok (.d (.tuple [.str "wax",zf xs])) _
  generalize zf xs=XS at *
  generalize (pots:Int)=P at *
  generalize (size:Int)=S at *
  simp![zM,e1,e2,q1,zB]
 ·by_cases q2:w<4
  ·obtain⟨d,b2,hd0,hd1,hb2,e2⟩:=ht b1 hb1 (pots:Int) (by omega) (by omega)
   obtain⟨j,rfl⟩:=Int.eq_ofNat_of_zero_le hd0
   refine⟨.dip j,b2,by show j<pots; omega,hb2,?_⟩
   show _=RF.ok (.d (.tuple [.str "dip",.int j])) _
   generalize (pots:Int)=P at *
   generalize (size:Int)=S at *
   generalize (j:Int)=J at *
   simp![zM,e1,e2,q1,q2,zB]
  ·refine⟨.boil,b1,True.intro,hb1,?_⟩
   show _=RF.ok (.d (.tuple [.str "boil"])) _
   generalize (pots:Int)=P at *
   generalize (size:Int)=S at *
   simp![zM,e1,q1,q2,zB]
end Wx
namespace L3
open PySem L2
section
variable [Cs] {K:PySem.W.Frag} {mg:Str->Option Value} {h:Heap} {d:DefI}
theorem el1 {α:Type}{P:List α->Prop}(h:∀ a0,P [a0]):∀ us:List α,us.length=1->P us:=fun us e=>by
 match us,e with
 | [a0],_=>exact h a0
theorem el2 {α:Type}{P:List α->Prop}(h:∀ a0 a1,P [a0,a1]):∀ us:List α,us.length=2->P us:=fun us e=>by
 match us,e with
 | [a0,a1],_=>exact h a0 a1
theorem el3 {α:Type}{P:List α->Prop}(h:∀ a0 a1 a2,P [a0,a1,a2]):∀ us:List α,us.length=3->P us:=fun us e=>by
 match us,e with
 | [a0,a1,a2],_=>exact h a0 a1 a2
theorem el4 {α:Type}{P:List α->Prop}(h:∀ a0 a1 a2 a3,P [a0,a1,a2,a3]):∀ us:List α,us.length=4->P us:=fun us e=>by
 match us,e with
 | [a0,a1,a2,a3],_=>exact h a0 a1 a2 a3
noncomputable def biOk (K:PySem.W.Frag) (L:List Str):Bool:=L.all fun x=>match PySem.W.nsIn K mainGlobals x with
 | some none=>true
 | _=>false
theorem bi_all {L:List Str}(X:K.In h) (G:h.Ns mainGlobals mg) (hk:biOk K L=true) (x:Str) (hx:L.contains x=true):mg x=none:=by
 have:=List.all_eq_true.mp hk x (List.elem_iff.mp hx)
 split at this
 ·exact PySem.W.mg_none_of X G (by assumption)
 ·cases this
noncomputable def giOk (K:PySem.W.Frag) (L:List (Str×Int)):Bool:=L.all fun p=>match PySem.W.nsIn K mainGlobals p.1 with
 | some (some (.int i _))=>decide (i=p.2)
 | _=>false
theorem gi_of {L:List (Str×Int)}(X:K.In h) (G:h.Ns mainGlobals mg) (hk:giOk K L=true) (x:Str) (i:Int) (hx:L.contains (x,i)=true):∃ t,mg x=some (.int i t):=by
 have:=List.all_eq_true.mp hk _ (List.elem_iff.mp hx)
 split at this
 ·rename_i e
  exact⟨_,(PySem.W.mg_of X G e).trans (by rw[of_decide_eq_true this])⟩
 ·cases this
noncomputable def gsOk (K:PySem.W.Frag) (L:List (Str×Str)):Bool:=L.all fun p=>match PySem.W.nsIn K mainGlobals p.1 with
 | some (some (.str i _))=>decide (i=p.2)
 | _=>false
theorem gs_of {L:List (Str×Str)}(X:K.In h) (G:h.Ns mainGlobals mg) (hk:gsOk K L=true) (x:Str) (i:Str) (hx:L.contains (x,i)=true):∃ t,mg x=some (.str i t):=by
 have:=List.all_eq_true.mp hk _ (List.elem_iff.mp hx)
 split at this
 ·rename_i e
  exact⟨_,(PySem.W.mg_of X G e).trans (by rw[of_decide_eq_true this])⟩
 ·cases this
noncomputable def exOk (K:PySem.W.Frag) (L:List Str):Bool:=L.all fun x=>match PySem.W.nsIn K mainGlobals x with
 | some (some (.ref a))=>PySem.W.excIn K a bmV "ValueError.__new__" &&L.all fun y=>match PySem.W.nsIn K mainGlobals y with
  | some (some (.ref b))=>decide ((mroIn K a).contains (.ref b)=decide (x=y))
  | _=>false
 | _=>false
theorem ex_of {L:List Str}(X:K.In h) (G:h.Ns mainGlobals mg) (hk:exOk K L=true):(∀ x,L.contains x=true->∃ C,mg x=some (.ref C)/\PySem.W.excIn K C bmV "ValueError.__new__" =true)/\∀ x C y C2,L.contains x=true->mg x=some (.ref C)->L.contains y=true->mg y=some (.ref C2)->(mroIn K C).contains (.ref C2)=decide (x=y):=by
 have hk:=List.all_eq_true.mp hk
 refine⟨fun x hx=>?_,fun x C y C2 hx e1 hy e2=>?_⟩
 ·have:=hk x (List.elem_iff.mp hx)
  split at this
  ·rename_i e
   simp only[Bool.and_eq_true] at this
   exact⟨_,PySem.W.mg_of X G e,this.1⟩
  ·cases this
 ·have:=hk x (List.elem_iff.mp hx)
  split at this
  ·rename_i e
   simp only[Bool.and_eq_true] at this
   have h2:=List.all_eq_true.mp this.2 y (List.elem_iff.mp hy)
   split at h2
   ·rename_i e'
    rw[PySem.W.mg_of X G e] at e1
    rw[PySem.W.mg_of X G e'] at e2
    cases e1
    cases e2
    exact of_decide_eq_true h2
   ·cases h2
  ·cases this
noncomputable def fkOk (K:PySem.W.Frag) (L:List (Str×Str)):Bool:=L.all fun p=>match PySem.W.nsIn K mainGlobals p.1 with
 | some (some (.ref C))=>PySem.W.plainGet K C Str.empty&&(PySem.W.hasDictIn K C&&(PySem.W.plainOver K C&&((match PySem.W.findIn K (.ref C) "__setattr__" with
   | some (some (.builtin b))=>decide (b= "object.__setattr__")
   | _=>false)&&match PySem.W.findIn K (.ref C) p.2 with
   | some none=>true
   | _=>false)))
 | _=>false
theorem fk_all {L:List (Str×Str)}(X:K.In h) (G:h.Ns mainGlobals mg) (hk:fkOk K L=true) (c f:Str) (hx:L.contains (c,f)=true):Cls K ((csOf mg).adr c)/\Za K ((csOf mg).adr c) f:=by
 have:=List.all_eq_true.mp hk _ (List.elem_iff.mp hx)
 split at this
 ·rename_i e
  simp only[Bool.and_eq_true] at this
  obtain⟨a1,a2,a3,a4,a5⟩:=this
  refine zev X G ⟨e,a1,a2,a3,?_⟩ ?_
  ·split at a4
   ·rename_i e2
    rw[e2,of_decide_eq_true a4]
   ·cases a4
  ·split at a5
   ·assumption
   ·cases a5
 ·cases this
noncomputable def AllX (K:PySem.W.Frag) (mg:Str->Option Value):List DefI->Prop
 | []=>True
 | d::r=> @Dx (csOf mg) K mg d/\AllX K mg r
theorem dx_all {W:Wd}:{L:List DefI}->AllX K mg L->(L.all fun d=>d.ok W)=true->∀ d∈L,@Dx (csOf mg) K mg d/\d.ok W=true
 | [],_,_=>fun d hd=>nomatch hd
 | e::r,a,ok=>fun d hd=>by
  simp only[List.all_cons,Bool.and_eq_true] at ok
  rcases List.mem_cons.mp hd with rfl | hd
  ·exact⟨a.1,ok.1⟩
  ·exact dx_all a.2 ok.2 d hd
end
end L3
set_option maxHeartbeats 4000000
namespace Wx
open PySem L2 L3
noncomputable def top (i:Nat):Stmt:=PySem.Challenge.pw_waxcloth_k23_a_move.main.body.getD i (.Pass ⟨0,0,0,0⟩)
noncomputable def Wh:DefI:=⟨"with_wax",top 8,["bolt","cells"],["bolt","cells"],[false,false],[],qI,.fn⟩
noncomputable def Vh:DefI:=⟨"dipped",top 9,["bolt","dye"],["bolt","dye"],[false,false],[],jg,.fn⟩
noncomputable def Vg:DefI:=⟨"boiled",top 10,["bolt"],["bolt"],[false],[],JE,.fn⟩
noncomputable def Wg:DefI:=⟨"has_cell",top 11,["bolt","at"],["bolt","at"],[false,false],[],qH,.fn⟩
noncomputable def Wf:DefI:=⟨"deepened",top 12,["stain","dye"],["stain","dye"],[false,false],[],Zn,.fn⟩
noncomputable def yT:DefI:=⟨"moved",top 14,["bolt","fresh","move"],["bolt","fresh","move","word","dye"],[false,false,false],[],qd,.fn⟩
noncomputable def W8:DefI:=⟨"_law_whole",top 16,["_law_found"],["_law_found"],[false],[],jv,.fn⟩
noncomputable def We:DefI:=⟨"_law_shades",top 17,["_law_found","_law_pots"],["_law_found","_law_pots"],[false,false],[],jj,.fn⟩
noncomputable def Qp:DefI:=⟨"_law_cells_kind",top 18,["_law_found","_law_pots"],["_law_found","_law_pots","_law_cell_here"],[false,false],[],ql,.fn⟩
noncomputable def WZ:DefI:=⟨"_law_alike",top 19,["_law_found","_law_due_here","_law_pots"],["_law_found","_law_due_here","_law_pots"],[false,false,false],[],js,.fn⟩
noncomputable def W3:DefI:=⟨"_law_mixed",top 21,["_law_number","_law_turn"],["_law_number","_law_turn","_law_one","_law_two"],[false,false],[],ju,.fn⟩
noncomputable def Vf:DefI:=⟨"_law_take",top 22,["_law_box_here","_law_many"],["_law_box_here","_law_many","_law_left","_law_cell_here"],[true,false],[0],qm,.fn⟩
noncomputable def W0:DefI:=⟨"_law_lacks",top 23,["_law_box_here","_law_pots","_law_size"],["_law_box_here","_law_pots","_law_size","_law_way","_law_ends","_law_rows","_law_at","_law_row","_law_low","_law_high"],[true,false,false],[0],jt,.fn⟩
noncomputable def Vd:DefI:=⟨"_law_cell",top 24,["_law_box_here","_law_row","_law_loose","_law_wet"],["_law_box_here","_law_row","_law_loose","_law_wet","_law_stain","_law_want","_law_bit","_law_shade"],[true,false,false,false],[0],ji,.fn⟩
noncomputable def Vc:DefI:=⟨"_law_bolt",top 25,["_law_box_here","_law_pots","_law_size","_law_loose"],["_law_box_here","_law_pots","_law_size","_law_loose","_law_wet","_law_rows"],[true,false,false,false],[0],Zc,.fn⟩
noncomputable def W6:DefI:=⟨"_law_sizes",top 26,["_law_box_here"],["_law_box_here"],[true],[0],qP,.fn⟩
noncomputable def W5:DefI:=⟨"_law_place",top 27,["_law_box_here","_law_size"],["_law_box_here","_law_size"],[true,false],[0],zS,.fn⟩
noncomputable def W4:DefI:=⟨"_law_picks",top 28,["_law_box_here","_law_size"],["_law_box_here","_law_size","_law_spread","_law_many","_law_found","_law_k","_law_at"],[true,false],[0],qr,.fn⟩
noncomputable def Qr:DefI:=⟨"_law_picks_word",top 29,["_law_cells","_law_size"],["_law_cells","_law_size","_law_at"],[false,false],[],zN,.fn⟩
noncomputable def yS:DefI:=⟨"_law_wax",top 30,["_law_rows","_law_cells"],["_law_rows","_law_cells"],[false,false],[],ZM,.fn⟩
noncomputable def yQ:DefI:=⟨"_law_dip",top 31,["_law_rows","_law_dye"],["_law_rows","_law_dye","_law_found","_law_stain","_law_waxed","_law_want"],[false,false],[],qV,.fn⟩
noncomputable def Vb:DefI:=⟨"_law_boil",top 32,["_law_rows"],["_law_rows"],[false],[],Zb,.fn⟩
noncomputable def Ve:DefI:=⟨"_law_full",top 33,["_law_rows","_law_dye"],["_law_rows","_law_dye"],[false,false],[],qC,.fn⟩
noncomputable def Q6:DefI:=⟨"_law_move_word",top 34,["_law_rows","_law_fresh","_law_move"],["_law_rows","_law_fresh","_law_move"],[false,false,false],[],zz,.fn⟩
noncomputable def yR:DefI:=⟨"_law_due",top 35,["_law_rows","_law_fresh","_law_move"],["_law_rows","_law_fresh","_law_move"],[false,false,false],[],qe,.fn⟩
noncomputable def Qq:DefI:=⟨"_law_drawn_move",top 36,["_law_box_here","_law_pots","_law_size"],["_law_box_here","_law_pots","_law_size","_law_way"],[true,false,false],[0],zM,.fn⟩
noncomputable def W7:DefI:=⟨"_law_tried",top 37,["_law_rows","_law_fresh","_law_move"],["_law_rows","_law_fresh","_law_move","_law_word","_law_found"],[false,false,false],[],zT,.fn⟩
noncomputable def lawB_1:IE:=(.cmp .Gt (.call (.call "_law_take" 2 (.io 1 1 (.cons (.cint 4) .nil)))) (.cint 0))
noncomputable def lawB_2:IE:=(.isi "bool" (.var 0 11))
noncomputable def defs:List DefI:= [Wh,Vh,Vg,Wg,Wf,yT,W8,We,Qp,WZ,W3,Vf,W0,Vd,Vc,W6,W5,W4,Qr,yS,yQ,Vb,Ve,Q6,yR,Qq,W7]
noncomputable def lawB:IB:=(.cons (.asgT (.tp (.cons (.nm 2 2) (.cons (.nm 3 3) .nil))) (.call (.call "_law_sizes" 1 (.io 1 1 .nil)))) (.cons (.asg 2 2 (.dat (.min (.cint 12) (.bin .Add (.var 2 2) (.cint 1))))) (.cons (.asg 4 4 (.dat (.call (.call "_law_drawn_move" 3 (.io 1 1 (.cons (.var 2 2) (.cons (.var 3 3) .nil))))))) (.cons (.asg 5 5 (.dat (.new (.comp 11 1 [1] ["_law_dye","_law_box_here"] (.nm 0 11) (.range (.var 2 2)) .yes lawB_1)))) (.cons (.asg 6 6 (.dat (.call (.call "_law_bolt" 4 (.io 1 1 (.cons (.var 2 2) (.cons (.var 3 3) (.cons (.cint 8) .nil)))))))) (.cons (.asg 7 7 (.dat (.tup (.cons (.new (.list (.var 6 6))) (.cons (.new (.list (.var 5 5))) .nil))))) (.cons (.asgP 8 8 9 9 (.call "_law_tried" 3 (.cons (.ix (.var 7 7) (.cint 0)) (.cons (.ix (.var 7 7) (.cint 1)) (.cons (.var 4 4) .nil))))) (.cons (.ite (.or (.cmp .NotEq (.var 7 7) (.tup (.cons (.var 6 6) (.cons (.var 5 5) .nil)))) (.cmp .NotEq (.var 8 8) (.call (.call "_law_move_word" 3 (.cons (.var 6 6) (.cons (.var 5 5) (.cons (.var 4 4) .nil))))))) (.cons (.ret (.dat (.cbool false))) .nil) .nil) (.cons (.ite (.cmp .NotEq (.var 8 8) (.cstr "")) (.cons (.ret (.dat (.cbool true))) .nil) .nil) (.cons (.ite (.lookT (.or (.not (.isi "tuple" (.var 9 9))) (.or (.cmp .NotEq (.len (.var 9 9)) (.cint 2)) (.not (.isi "list" (.ix (.var 9 9) (.cint 1))))))) (.cons (.ret (.dat (.cbool false))) .nil) .nil) (.cons (.asg 10 10 (.dat (.call (.call "_law_due" 3 (.cons (.var 6 6) (.cons (.var 5 5) (.cons (.var 4 4) .nil))))))) (.cons (.ite (.lookT (.or (.not (.call (.call "_law_alike" 3 (.cons (.ix (.var 9 9) (.cint 0)) (.cons (.ix (.var 10 10) (.cint 0)) (.cons (.var 2 2) .nil)))))) (.cmp .NotEq (.ix (.var 9 9) (.cint 1)) (.ix (.var 10 10) (.cint 1))))) (.cons (.ret (.dat (.cbool false))) .nil) .nil) (.cons (.ite (.lookT (.not (.all (.new (.comp 11 1 [] ["_law_good"] (.nm 0 11) (.list (.ix (.var 9 9) (.cint 1))) .yes lawB_2))))) (.cons (.ret (.dat (.cbool false))) .nil) .nil) (.junk 9 9 (.cons (.ret (.dat (.cmp .Eq (.var 7 7) (.tup (.cons (.var 6 6) (.cons (.var 5 5) .nil)))))) .nil)))))))))))))))
noncomputable def W:Wd:=⟨["all","any","bool","enumerate","int","isinstance","len","list","max","min","range","set","tuple"],[("DEEPEST",9)],[],[("with_wax",2),("dipped",2),("boiled",1),("has_cell",2),("deepened",2),("moved",3),("_law_whole",1),("_law_shades",2),("_law_cells_kind",2),("_law_alike",3),("_law_mixed",2),("_law_take",2),("_law_lacks",3),("_law_cell",4),("_law_bolt",4),("_law_sizes",1),("_law_place",2),("_law_picks",2),("_law_picks_word",2),("_law_wax",2),("_law_dip",2),("_law_boil",1),("_law_full",2),("_law_move_word",3),("_law_due",3),("_law_drawn_move",3),("_law_tried",3)],["NoCell","Spent","TooDeep","Twice"],[],[],[],[]⟩
noncomputable abbrev sBox:Stmt:=top 20
noncomputable abbrev sLaw:Stmt:=top 38
noncomputable def LN:List Str:= ["_law_script","_law_box_here","_law_pots","_law_size","_law_move","_law_fresh","_law_rows","_law_handed","_law_word","_law_found","_law_due_here"]
theorem okLaw:lawB.chk W (defScope sLaw) LN (List.range LN.length) LN.length 0 (defBody sLaw).tail=true:=by kernel_rfl
structure zem (cf:CF):Prop where
 take:qg cf
 sizes:VX cf
 bolt:VN cf
 drawnmv:J9 cf
 tried:VY cf
 mword:VS cf
 mdue:YI cf
 alike:VM cf
theorem ok23 (n:Nat):zem (zk defs (n+20)):=by
 have hmixed:∀ k,VT (zk defs (k+1)):=fun k a b=>kL (zk defs k) a b
 have htake:∀ k,qg (zk defs (k+2)):=fun k b hb n h1 h2=>zbP (zk defs (k+1)) (hmixed k) hb h1 h2
 have hsizes:∀ k,VX (zk defs (k+3)):=fun k b hb=>KD (zk defs (k+2)) (htake k) hb
 have hlacks:∀ k,VR (zk defs (k+3)):=fun k b hb pots size h1 h2=>kD (zk defs (k+2)) (htake k) hb h1 h2
 have hcell:∀ k,VO (zk defs (k+3)):=fun k b hb bs loose wet h1 h2 h3=>zaD (zk defs (k+2)) (htake k) hb bs h1 h2 h3
 have hbolt:∀ k,VN (zk defs (k+4)):=fun k b hb pots size loose h1 h2 h3 h4=>zas (zk defs (k+3)) (htake (k+1)) (hlacks k) (hcell k) hb h1 h2 h3 h4
 have hplace:∀ k,w5 (zk defs (k+3)):=fun k b hb size hs=>Kf (zk defs (k+2)) (htake k) hb hs
 have hpicks:∀ k,VW (zk defs (k+4)):=fun k b hb size hs=>Kc (zk defs (k+3)) (htake (k+1)) (hplace k) hb hs
 have hdrawnmv:∀ k,J9 (zk defs (k+5)):=fun k b hb pots size h1 h2 h3=>Vj (zk defs (k+4)) (htake (k+2)) (hpicks k) hb h1 h2 h3
 have hhas:∀ k,zb5 (zk defs (k+1)):=fun k cs a hl=>zcY (zk defs k) hl a
 have hwax2:∀ k,YK (zk defs (k+2)):=fun k cs xs hl hx=>zb0 (zk defs (k+1)) (hhas k) hl hx
 have hboiledM:∀ k,J8 (zk defs (k+1)):=fun k cs h=>v7 (zk defs k) h
 have hdeep:∀ k,vX (zk defs (k+1)):=fun k st d h hl=>W9 (zk defs k) h hl
 have hdipped:∀ k,WP (zk defs (k+2)):=fun k=>⟨fun pots cs d hp hb hd=>yU (zk defs (k+1)) (hdeep k) hp hb hd,fun d=>Vi (zk defs (k+1)) d⟩
 have hmoved:∀ k,VU (zk defs (k+3)):=fun k pots cs fr m h1 h2 h3 h4=>kM (zk defs (k+2)) (hwax2 k) (hboiledM (k+1)) (hdipped k) pots cs fr m h1 h2 h3 h4
 have htried:∀ k,VY (zk defs (k+4)):=fun k pots cs fr m h1 h2 h3 h4=>KQ (zk defs (k+3)) (hmoved k) pots cs fr m h1 h2 h3 h4
 have hpword:∀ k,VV (zk defs (k+1)):=fun k xs size hx=>Kl (zk defs k) hx size
 have hlfull:∀ k,VP (zk defs (k+1)):=fun k=>⟨fun pots cs d hb hd=>kJ (zk defs k) hb hd,fun d=>y8 (zk defs k) d⟩
 have hmword:∀ k,VS (zk defs (k+2)):=fun k pots cs fr m h1 h2 h3=>kP (zk defs (k+1)) (hpword k) (hlfull k) pots cs fr m h1 h2 h3
 have hlwax:∀ k,YH (zk defs (k+1)):=fun k cs xs hl=>zaU (zk defs k) hl
 have hlboilM:∀ k,WQ (zk defs (k+1)):=fun k cs h=>y7 (zk defs k) h
 have hldip:∀ k,YG (zk defs (k+1)):=fun k=>⟨fun pots cs d hp hb=>zaT (zk defs k) hp hb d,fun d=>kH (zk defs k) d⟩
 have hmdue:∀ k,YI (zk defs (k+2)):=fun k pots cs fr m h1 h2 h3 h4=>zaV (zk defs (k+1)) (hlwax k) (hlboilM k) (hldip k) pots cs fr m h1 h2 h3 h4
 have hwhole:∀ k,VZ (zk defs (k+1)):=fun k i=>zae (zk defs k) i
 have hshades:∀ k,WS (zk defs (k+2)):=fun k xs pots h hl=>Yo (zk defs (k+1)) (hwhole k) h hl
 have hkind:∀ k,YF (zk defs (k+3)):=fun k pots cs hp h=>zaR (zk defs (k+2)) (hshades k) hp h
 have halike:∀ k,VM (zk defs (k+4)):=fun k pots cs hp h=>YL (zk defs (k+3)) (hkind k) hp h
 exact⟨htake (n+18),hsizes (n+17),hbolt (n+16),hdrawnmv (n+15),htried (n+16),hmword (n+18),hmdue (n+18),halike (n+16)⟩
theorem zaW {pots:Nat}{cs:List Cl}(hB:Bolt pots cs) (m:Mv):JY pots (m.cs cs):=by
 cases m with
 | wax xs=>exact zad hB.kind
 | dip d=>exact Y0 hB.kind
 | boil=>
  intro c hc
  obtain⟨a,ha,rfl⟩:=List.mem_map.mp hc
  exact hB.kind a ha
theorem zc8 {cs:List Cl}(m:Mv):(m.cs cs).length<=cs.length:=by
 cases m with
 | wax xs=>exact zac xs cs cs.length
 | dip d=>exact Nat.le_of_eq (by show (cs.map _).length=_; simp)
 | boil=>exact Nat.le_of_eq (by show (cs.map _).length=_; simp)
theorem zeE {fr:List Bool}(m:Mv):(m.fr fr).length=fr.length:=by
 cases m with
 | dip d=>exact List.length_set ..
 | _=>rfl
theorem kG (n:Nat) (fr:List Bool):lay (n+1) (.list (fbD fr))=true:=vn fun x h=>by
 obtain⟨b,_,rfl⟩:=List.mem_map.mp h
 exact vm _ _
theorem zee (cs:List Cl) (fr:List Bool):(two cs fr).view=.tuple [zc cs,.list (fbD fr)]:=by
 unfold two
 rw[OV.view]
 show PyData.tuple [OV.view (.l (cs.map fun c=>.d c.D)),OV.view (.l ((fbD fr).map .d))]=_
 rw[qu]
 have:OV.view (.l ((fbD fr).map .d))=.list (fbD fr):=by rw[OV.view,OV.views_d]
 rw[this]
theorem km (cf:CF) (ht:qg cf){P S:Int}{o4 o5 o6 o7 o8 o9 o10:Option OV}(n:Nat){b:OV}(hb:zu b):∃ (fr:List Bool) (b':OV),fr.length=n/\zu b'/\zY 1 (.nm 0 11) fYes (lawB_1.ev cf).1 (zG n) [] [none,some b,some (.d (.int P)),some (.d (.int S)),o4,o5,o6,o7,o8,o9,o10]=.ok (fbD fr,[none,some b',some (.d (.int P)),some (.d (.int S)),o4,o5,o6,o7,o8,o9,o10]):=by
 obtain⟨ys,Γ',e,⟨fr,b',hl,hb',rfl,rfl⟩⟩:=zU (k:=1) (t:=.nm 0 11) (cond:=fYes) (elt:=(lawB_1.ev cf).1) (ds:=zG n) (Γ:= [none,some b,some (.d (.int P)),some (.d (.int S)),o4,o5,o6,o7,o8,o9,o10])
  (fun pre ys Γ=>∃ (fr:List Bool) (b':OV),fr.length=pre.length/\zu b'/\ys=fbD fr/\Γ= [none,some b',some (.d (.int P)),some (.d (.int S)),o4,o5,o6,o7,o8,o9,o10]) ⟨[],b,rfl,hb,rfl,rfl⟩ (by
   rintro pre x post e ys Γ ⟨fr,b1,hl,hb1,rfl,rfl⟩
   obtain⟨r,b2,h0,h1,hb2,e1⟩:=ht b1 hb1 4 (by decide) (by decide)
   refine⟨[none,some b1,some (.d (.int P)),some (.d (.int S)),o4,o5,o6,o7,o8,o9,o10,some (.d x)],true,_,rfl,rfl,fun _=>⟨.dat (.bool (decide (0<r))),[none,some b2,some (.d (.int P)),some (.d (.int S)),o4,o5,o6,o7,o8,o9,o10,some (.d x)],.bool (decide (0<r)),?_,rfl,fr++ [decide (0<r)],b2,by simp[hl],hb2,by simp[fbD],rfl⟩,fun z=>nomatch z⟩
   simp![lawB_1,e1,zB])
 rw[zl] at hl
 exact⟨fr,b',hl,hb',e⟩
theorem zaN (cf:CF) (fr:List Bool) (Γ:Gv) (hl:Γ.length=11):zY 1 (.nm 0 11) fYes (lawB_2.ev cf).1 (fbD fr) [] Γ=.ok ((fr.map fun _=>true).map .bool,Γ):=by
 have e:=zb8 (k:=1) (t:=.nm 0 11) (elt:=(lawB_2.ev cf).1) PyData.bool (fun _=>.bool true) (xs:=fr) (Γ:=Γ) (by
  intro b hb
  refine⟨Γ++ [some (.d (.bool b))],.dat (.bool true),Γ++ [some (.d (.bool b))],?_,?_,rfl,by simp⟩
  ·show tgF (.nm 0 11) (.bool b) (Γ++ [none])=_
   have:(Γ++ [none]).set 11 (some (OV.d (.bool b)))=Γ++ [some (.d (.bool b))]:=by
    rw[<- hl,List.set_append_right _ _ (Nat.le_refl _)]; simp
   rw[<- this]
   simp only[tgF]
   rw[if_pos (by simp[hl])]
  ·have hg:(Γ++ [some (OV.d (.bool b))])[11]?=some (some (.d (.bool b))):=by rw[<- hl,List.getElem?_append_right (Nat.le_refl _)]; simp
   generalize Γ++ [some (OV.d (.bool b))]=G at *
   simp[lawB_2,IE.ev,fIsi,fVar,hg,derf,R.bind,isiB,tyD])
 rw[List.map_map]
 exact e
theorem law_run (cf:CF) (h:zem cf) (cells:List Int) (i l t s:Int) (hi:0<=i):∃ Γ',lawB.ex cf [] (none::some (jZ cells i l t s)::List.replicate (LN.length-2) none)=.ok (.ret (.d (.bool true)),Γ'):=by
 have hB:zu (jZ cells i l t s):=⟨_,_,_,_,_,hi,rfl⟩
 generalize jZ cells i l t s=b at hB
 obtain⟨p,n,b1,hp0,hp1,hn0,hn1,hb1,e1⟩:=h.sizes b hB
 obtain⟨size,rfl⟩:∃ k:Nat,n=k:=⟨n.toNat,by omega⟩
 obtain⟨pots,hP,hP1,hP2⟩:∃ P:Nat,(if (p+1:Int)<12 then p+1 else 12)=(P:Int)/\1<=P/\P<=12:=⟨(min 12 (p+1)).toNat,by split <;> omega,by omega,by omega⟩
 obtain⟨m,b2,hm,hb2,e2⟩:=h.drawnmv b1 hb1 pots size hP1 hP2 (by omega)
 obtain⟨fr,b3,hfl,hb3,e3⟩:=km cf h.take (P:=pots) (S:=size) (o4:=some (.d m.D)) (o5:=none) (o6:=none) (o7:=none) (o8:=none) (o9:=none) (o10:=none) pots hb2
 obtain⟨cs,b4,hcl,hck,hb4,e4⟩:=h.bolt b3 hb3 pots size 8 (by omega) (by omega) (by omega) (by omega)
 have hb:Bolt pots cs:=⟨by omega,hck⟩
 have hvc:=qu cs
 have e5:=h.tried pots cs fr m hP2 hb hfl hm
 have e6:=h.mword pots cs fr m hb hfl hm
 have e7:=h.mdue pots cs fr m hP2 hb hfl hm
 have e8:=h.alike pots (m.cs cs) (by omega) (zaW hb m)
 have hw:=m.isWord cs fr
 have hyB:lay 19 (zc cs)=true:=vk 16 _
 have hyF:lay 19 (.list (fbD fr))=true:=kG 18 fr
 have hyH:lay 20 (.tuple [zc cs,.list (fbD fr)])=true:=Je fun x hx=>by
  have:x=zc cs∨x=.list (fbD fr):=by simpa using hx
  rcases this with rfl | rfl
  ·exact hyB
  ·exact hyF
 have hqH:=Jc hyH
 have hyF2:lay 20 (.list (fbD (m.fr fr)))=true:=kG 19 (m.fr fr)
 have hqF2:=Jc hyF2
 have v2:=zee (m.cs cs) (m.fr fr)
 have z1:(m.cs cs).length<1000000:=by have:=zc8 (cs:=cs) m; omega
 have z2:(m.fr fr).length<1000000:=by rw[zeE,hfl]; omega
 have zr: -1000000<=(pots:Int)/\(pots:Int)<=1000000:=by omega
 have zn:(pots:Int).toNat=pots:=by omega
 have zp:pots<=1000000:=by omega
 have zb:(fbD (m.fr fr)).length<=1000000:=by simp[fbD]; omega
 have hg:=qQ ((m.fr fr).map fun _=>true)
 have hall:((m.fr fr).map fun _=>true).all id=true:=by simp
 have g1:∀ Γ,z9 Γ (.dat (zc cs))=some (cs.map Cl.D):=fun _=>rfl
 have g2:∀ Γ,z9 Γ (.dat (.list (fbD fr)))=some (fbD fr):=fun _=>rfl
 have g3:PyData.list (cs.map Cl.D)=zc cs:=rfl
 have a20:=Zu (zc cs) (PyData.list (fbD fr))
 have a21:=Zv (zc cs) (PyData.list (fbD fr))
 have k20:=Zu (zc (m.cs cs)) (PyData.list (fbD (m.fr fr)))
 have k21:=Zv (zc (m.cs cs)) (PyData.list (fbD (m.fr fr)))
 have yw:lay 20 (.str (m.word cs fr))=true:=by rcases hw with q | q | q | q | q <;> rw[q] <;> exact z7 _ _
 have qw:=Jc yw
 have ys:∀ x:String,lay 20 (.str x)=true:=fun x=>z7 x 20
 by_cases hne:m.word cs fr= ""
 ·have ef:Zi (m.word cs fr) (m.cs cs) (m.fr fr)=two (m.cs cs) (m.fr fr):=by unfold Zi; rw[if_pos hne]
  have gl:=zaN cf (m.fr fr)
  rw[ef] at e5
  have htw:two (m.cs cs) (m.fr fr)=.t [.l ((m.cs cs).map fun c=>.d c.D),.l ((fbD (m.fr fr)).map .d)]:=rfl
  have zx:((m.cs cs).map fun c=>OV.d c.D).length<1000000:=by simpa using z1
  have zy:((fbD (m.fr fr)).map OV.d).length<1000000:=by simpa [fbD] using z2
  rw[htw] at e5 v2
  have zg:(((m.fr fr).map fun _=>true).map PyData.bool).length<=1000000:=by simp; omega
  generalize ((m.cs cs).map fun c=>OV.d c.D)=W1 at *
  generalize (fbD (m.fr fr)).map OV.d=W2 at *
  generalize zc (m.cs cs)=D1 at *
  generalize fbD (m.fr fr)=D2 at *
  generalize ((m.fr fr).map fun _=>true).map PyData.bool=TT at *
  generalize ((m.fr fr).map fun _=>true)=TB at *
  generalize cs.map Cl.D=CD at *
  generalize zc cs=BB at *
  generalize fbD fr=FF at *
  generalize (cs.map fun c=>OV.d c.D)=CO at *
  generalize m.D=MD at *
  rw[hne] at e5 e6
  unfold lawB
  generalize lawB_1=L1 at *
  generalize lawB_2=L2' at *
  simp only[LN,List.length_cons,List.length_nil]
  simp![e1,hP,e2,zr,zn,zp,zl,e3,e4,hvc,g1,g2,g3,a20,a21,e5,vD,hyH,hqH,e6,ys,wq,Wl,v0,v2,k20,k21,Zu,Zv,e7,e8,hyF2,hqF2,gl,hg,hall,zb,zg,yh,zx,zy,zF,zJ,zB]
 ·have ef:Zi (m.word cs fr) (m.cs cs) (m.fr fr)=.d .none:=by unfold Zi; rw[if_neg hne]
  rw[ef] at e5
  have qn:PyData.eqv (.str (m.word cs fr)) (.str "")=false:=by
   show decide (m.word cs fr= "")=false
   exact decide_eq_false hne
  generalize cs.map Cl.D=CD at *
  generalize zc cs=BB at *
  generalize fbD fr=FF at *
  generalize (cs.map fun c=>OV.d c.D)=CO at *
  generalize m.word cs fr=w at *
  generalize m.D=MD at *
  unfold lawB
  generalize lawB_1=L1 at *
  generalize lawB_2=L2' at *
  simp only[LN,List.length_cons,List.length_nil]
  simp![e1,hP,e2,zr,zn,zp,zl,e3,e4,hvc,g1,g2,g3,a20,a21,e5,vD,hyH,hqH,e6,yw,qw,qn,ys,zF,zJ,zB]
section
variable [L2.Cs] {P:Program} {w:World} {K:PySem.W.Frag} {mg:Str->Option Value} {base:Heap}
theorem YX (ns:List Int) (lo hi:Option Int):∃ ms:List Int,Zg (ns.map V.int) lo hi=ms.map V.int/\ms.length<=ns.length:=by
 refine⟨(ns.drop (HT.sIx (ns.map V.int).length 0 lo)).take (HT.sIx (ns.map V.int).length (ns.map V.int).length hi-HT.sIx (ns.map V.int).length 0 lo),?_,?_⟩
 ·unfold Zg
  rw[List.map_take,List.map_drop]
 ·rw[List.length_take,List.length_drop]; omega
theorem scBox:qO ["_law_script","_law_seed","_law_cell_here"] ["_law_script"] (defScope sBox):=⟨rfl,rfl,rfl,by decide +kernel,rfl,by decide +kernel,by decide +kernel⟩
theorem kn_box (D:Df K mg "_law_box" sBox ["_law_script"]) (B:mg "list" =none):Kn P w K mg base CX0 "_law_box" 1 (KH K) :=
 D.kn (k:=0) scBox (fun vs H Q E ⟨a,ns,e,_⟩=>by rw[e]; rfl) fun f cdv A outer s H vs Q E hr ⟨a,ns,e,hS,hlen,kk⟩=>by
  subst e
  refine PSs.wp (qJ (Qy (i:=1) scBox.nd rfl (Or.inl rfl) pe_int)
   (qJ (Kg PassesOwn.never rfl (yc (ZD WC (pv 0) Wz (WA pe_int))) (Jf (i:=2) scBox.nd rfl (Or.inl rfl))
    (ZF (Qy (i:=1) scBox.nd rfl (Or.inl rfl) (wK kT (wK Vq (wK Vq (wK kU (pv 1) pe_int) (pv 2)) pe_int) pe_int))))
   (ZF (Vx (k7 (zo (qz Zx rfl B jk (zo (ZD WC (pv 0) Wz (WA pe_int)) pa_nil)) (zo pe_int (zo pe_int (zo pe_int (zo (pv 1) pa_nil)))))))))) ?_
  obtain⟨ms,ems,hms⟩:=YX ns none (some 63)
  refine⟨_,rfl,_,rfl,a,_,rfl,hS,fun q nq=>⟨q,rfl,⟨_,SqL.of zj⟩,kj (K:=K) (a:=q) (xs:=Zg (ns.map V.int) none (some 63)) (fun i σ H2=>H2=upd H q (.lst (Zg (ns.map V.int) none (some 63)))/\∃ sd v,σ= [some (.ref a),some (.int sd),v])
   ⟨rfl,0,none,rfl⟩ (fun i σ H2 _ ⟨e,_⟩=>by rw[e]; exact SqL.of zj) ?_ ?_⟩⟩
  ·rintro i x σ H2 hx ⟨rfl,sd,v,rfl⟩
   obtain⟨z,rfl⟩:∃ z,x=V.int z:=by
    rw[ems] at hx
    have:=List.mem_of_getElem? hx
    obtain⟨z,_,rfl⟩:=List.mem_map.mp this
    exact⟨z,rfl⟩
   refine⟨_,rfl,_,_,rfl,rfl,.inr (by decide),_,rfl,_,_,rfl,rfl,_,_,rfl,rfl,_,_,rfl,rfl,(by show (0:Int)<2147483647; decide),?_⟩
   exact⟨rfl,_,_,rfl⟩
  ·rintro σ H2 ⟨rfl,sd,v,rfl⟩
   have s1:Same H (upd H q (.lst (Zg (ns.map V.int) none (some 63)))):=zw nq
   refine⟨_,rfl,_,rfl,a,_,rfl,s1.seq hS,fun q2 nq2=>⟨q2,_,rfl,.inl (SqL.of zj),fun l nl=>⟨_,rfl,(by show 5<=sizeLine; decide),fun b nb=>?_⟩⟩⟩
   have s2:=s1.trans (zw (o:=.lst (Zg (ns.map V.int) none (some 63))) nq2)
   have s3:=s2.trans (zw (o:=.lst (Zg (ns.map V.int) none (some 63))) nl)
   have hlb:l≠b:=fun e=>by rw[<- e,zj] at nb; cases nb
   refine kk b _ (s3.trans (zw nb)) (s3.free nb) (by rw[zj]; exact fun z=>nomatch z) ⟨l,ms,0,0,0,sd,rfl,zj,?_,Int.le_refl 0⟩
   refine .list (vs:=ms.map V.int) (by rw[ze hlb,zj,ems]) hlb (RepL.ints ms)
theorem hw:wOk defs W=true:=by kernel_rfl
theorem hgd:∀ x kf,W.gd.contains (x,kf)=true->GD w K mg x kf:=fun x kf h=>nomatch h
theorem okS:JM LN ["_law_script"] (defScope sLaw)=true:=by kernel_rfl
theorem oks:(defs.all fun d=>d.ok W)=true:=by kernel_rfl
theorem hdd {h:Heap}(X:K.In h) (G:h.Ns mainGlobals mg) (D0:Df K mg "with_wax" (top 8) ["bolt","cells"]) (D1:Df K mg "dipped" (top 9) ["bolt","dye"]) (D2:Df K mg "boiled" (top 10) ["bolt"]) (D3:Df K mg "has_cell" (top 11) ["bolt","at"]) (D4:Df K mg "deepened" (top 12) ["stain","dye"]) (D5:Df K mg "moved" (top 14) ["bolt","fresh","move"]) (D6:Df K mg "_law_whole" (top 16) ["_law_found"]) (D7:Df K mg "_law_shades" (top 17) ["_law_found","_law_pots"]) (D8:Df K mg "_law_cells_kind" (top 18) ["_law_found","_law_pots"]) (D9:Df K mg "_law_alike" (top 19) ["_law_found","_law_due_here","_law_pots"]) (D10:Df K mg "_law_mixed" (top 21) ["_law_number","_law_turn"]) (D11:Df K mg "_law_take" (top 22) ["_law_box_here","_law_many"]) (D12:Df K mg "_law_lacks" (top 23) ["_law_box_here","_law_pots","_law_size"]) (D13:Df K mg "_law_cell" (top 24) ["_law_box_here","_law_row","_law_loose","_law_wet"]) (D14:Df K mg "_law_bolt" (top 25) ["_law_box_here","_law_pots","_law_size","_law_loose"]) (D15:Df K mg "_law_sizes" (top 26) ["_law_box_here"]) (D16:Df K mg "_law_place" (top 27) ["_law_box_here","_law_size"]) (D17:Df K mg "_law_picks" (top 28) ["_law_box_here","_law_size"]) (D18:Df K mg "_law_picks_word" (top 29) ["_law_cells","_law_size"]) (D19:Df K mg "_law_wax" (top 30) ["_law_rows","_law_cells"]) (D20:Df K mg "_law_dip" (top 31) ["_law_rows","_law_dye"]) (D21:Df K mg "_law_boil" (top 32) ["_law_rows"]) (D22:Df K mg "_law_full" (top 33) ["_law_rows","_law_dye"]) (D23:Df K mg "_law_move_word" (top 34) ["_law_rows","_law_fresh","_law_move"]) (D24:Df K mg "_law_due" (top 35) ["_law_rows","_law_fresh","_law_move"]) (D25:Df K mg "_law_drawn_move" (top 36) ["_law_box_here","_law_pots","_law_size"]) (D26:Df K mg "_law_tried" (top 37) ["_law_rows","_law_fresh","_law_move"]):AllX K mg defs:=⟨zO rfl D0,zO rfl D1,zO rfl D2,zO rfl D3,zO rfl D4,zO rfl D5,zO rfl D6,zO rfl D7,zO rfl D8,zO rfl D9,zO rfl D10,zO rfl D11,zO rfl D12,zO rfl D13,zO rfl D14,zO rfl D15,zO rfl D16,zO rfl D17,zO rfl D18,zO rfl D19,zO rfl D20,zO rfl D21,zO rfl D22,zO rfl D23,zO rfl D24,zO rfl D25,zO rfl D26,trivial⟩
end
noncomputable def dP (s:Stmt):Arguments:=match s with
 | .FunctionDef _ a _ _ _ _ _ _ _ _=>a
 | _=>⟨[],[],none,[],[],none,[]⟩
noncomputable abbrev dB:=L2.defBody
noncomputable abbrev dS:=L2.defScope
noncomputable abbrev dE (P:PySem.Params) (n:Str) (t:Nat) (v:Value):DictEntry:=.mk (PySem.PyData.keyHash P n) (.str n t) v
noncomputable abbrev dR (P:PySem.Params) (n:Str) (t a:Nat):DictEntry:=.mk (PySem.PyData.keyHash P n) (.str n t) (.ref a)
noncomputable def v3 (c:Nat):List (Nat×Nat)->List Value
 | []=> []
 | (l,a)::r=>.int l 0::.int c 0::.ref a::v3 c r
noncomputable abbrev o3 (c:Nat) (l:List (Nat×Nat)):Obj:=.mk .none none (.fields (v3 c l).toArray) #[]
noncomputable def sL:Nat->List Str->List Value
 | _,[]=> []
 | t,s::r=>.str s t::sL (t+1) r
noncomputable abbrev sN (t:Nat) (l:List Str):Array Value:=(sL t l).toArray
noncomputable def rL:List Nat->List Value
 | []=> []
 | a::r=>.ref a::rL r
noncomputable abbrev rN (l:List Nat):Array Value:=(rL l).toArray
noncomputable abbrev oA:Obj:=PySem.Obj.mk (.type "tuple") none (.seq #[] 0) #[]
noncomputable abbrev oB:Obj:=PySem.Obj.mk (.type "tuple") none (.seq #[(.ref 24)] 0) #[]
noncomputable abbrev oC (P:PySem.Params) (n0 n1 n2:Nat):Obj:=PySem.Obj.mk (.type "dict") none (.dict #[(dE P "__module__" n0 (.str "waxcloth.errors" 187)),(dE P "__firstlineno__" (n0+4) (.int ((n1:Nat):Int) (n0+3))),dR P "__static_attributes__" (n0+5) n2,(dE P "__doc__" (n0+6) .none)] 2) #[]
noncomputable abbrev oD (s0:Str) (n1 n2 n3 n4:Nat):Obj:=PySem.Obj.mk (.type "type") none (.cls (PySem.ClassData.mk s0 [(.ref 24)] [(.ref n1),(.ref 24),(.type "ValueError"),(.type "Exception"),(.type "BaseException"),(.type "object")] n2 s0 true [] [] false none false)) #[(some (.ref n3)),none,(some (.str s0 n4)),(some (.str s0 (n4+8))),(some (.builtin "ValueError.__new__")),(some (.bool true))]
noncomputable abbrev oE (s0:Str) (n1 n2 n3 n4:Nat):Obj:=PySem.Obj.mk (.type "code") none (.fields #[(.str s0 n1),(.str s0 (n1+1)),(.str "/claim/cut.py" (n1+2)),(.int ((n2:Nat):Int) 0),(.int ((n3:Nat):Int) 0),(.int 0 0),(.int 0 0),(.int 3 0),(.ref n4),(.bool true),(.int 181 0),(.ref (n4+1)),.none,.none,.none,(.ref (n4+2)),(.int ((n1+3:Nat):Int) 0),(.int ((n2:Nat):Int) 0),(.str "/claim/cut.py" (n1+4))]) #[]
noncomputable abbrev oF (s0 s2:Str) (n1 n3 n4:Nat):Obj:=PySem.Obj.mk (.type "function") none (.func (PySem.FuncData.mk s0 s0 (dP (top n1)) (.stmts (dB (top n1))) (dS (top n1)) 3 [] .none .none .none (.str s2 n3) none (.ref n4) .none 0)) #[]
noncomputable abbrev oG (s1 s2:Str) (n0:Nat):Obj:=PySem.Obj.mk (.type "tuple") none (.seq (sN n0 [s1,s2]) 0) #[]
noncomputable abbrev oH (s0:Str) (n1 n2 n3 n4 n5:Nat):Obj:=PySem.Obj.mk (.type "code") none (.fields #[(.str s0 n1),(.str s0 (n1+1)),(.str "/claim/cut.py" (n1+2)),(.int ((n2:Nat):Int) 0),(.int ((n3:Nat):Int) 0),(.int 0 0),(.int 0 0),(.int 3 0),(.ref n4),(.bool true),(.int 181 0),(.ref (n4+1)),.none,(.ref (n4+2)),(.ref (n4+3)),(.ref (n4+4)),(.int ((n5:Nat):Int) 0),(.int ((n2:Nat):Int) 0),(.str "/claim/cut.py" (n5+1))]) #[]
noncomputable abbrev oI (s1 s2 s3:Str) (n0:Nat):Obj:=PySem.Obj.mk (.type "tuple") none (.seq (sN n0 [s1,s2,s3]) 0) #[]
noncomputable abbrev oJ (s1 s2 s3 s4:Str) (n0:Nat):Obj:=PySem.Obj.mk (.type "tuple") none (.seq (sN n0 [s1,s2,s3,s4]) 0) #[]
noncomputable abbrev oK (s0:Str) (n1 n2 n3:Nat):Obj:=PySem.Obj.mk (.type "code") none (.fields #[(.str s0 n1),(.str s0 (n1+1)),(.str "/claim/cut.py" (n1+2)),(.int ((n2:Nat):Int) 0),(.int 0 0),(.int 0 0),(.int 0 0),(.int 0 0),(.ref n3),(.bool false),(.int 181 0),(.ref (n3+1)),.none,.none,.none,.none,(.int ((n1+3:Nat):Int) 0),(.int ((n2:Nat):Int) 0),(.str "/claim/cut.py" (n1+4))]) #[]
noncomputable abbrev oL (s2:Str) (n0 n1 n3:Nat):Obj:=PySem.Obj.mk (.type "frame") none .plain #[(some (.ref n0)),(some (.ref 3)),(some (.ref n1)),none,(some (.str s2 n3)),none,(some (.ref 0))]
noncomputable abbrev oM:Obj:=PySem.Obj.mk (.type "builtin_function_or_method") none (.fields #[(.builtin "type.__prepare__"),(.type "type")]) #[]
noncomputable abbrev oN (P:PySem.Params) (s1:Str) (n0 n2 n3:Nat):Obj:=PySem.Obj.mk (.type "dict") none (.dict #[(dE P "__module__" n0 (.str "waxcloth.errors" 187)),(dE P "__qualname__" (n0+2) (.str s1 (n0+1))),(dE P "__firstlineno__" (n0+4) (.int ((n2:Nat):Int) (n0+3))),dR P "__static_attributes__" (n0+5) n3] 4) #[]
noncomputable abbrev oO:Obj:=PySem.Obj.mk .none none (.fields #[]) #[]
noncomputable abbrev oP (n0:Nat):Obj:=PySem.Obj.mk (.type "super") none (.fields (rN [n0,n0,n0])) #[]
noncomputable abbrev oQ (n0:Nat):Obj:=PySem.Obj.mk (.type "builtin_function_or_method") none (.fields #[(.builtin "object.__init_subclass__"),(.ref n0)]) #[]
noncomputable abbrev oR (s0:Str) (n1:Nat):Obj:=PySem.Obj.mk .none none (.func (PySem.FuncData.mk s0 s0 (dP (top n1)) (.stmts (dB (top n1))) (dS (top n1)) 0 [] .none .none .none .none none .none .none 0)) #[]
noncomputable def K (P:PySem.Params):PySem.W.Frag :=
 (nat_lit 2,(PySem.Obj.mk .none none (.dict #[] 0) #[])) ::
 (nat_lit 3,(PySem.Obj.mk (.type "dict") none (.dict #[(dE P "__name__" 165 (.str "law_waxcloth_k23_a_move" 322)),(dE P "__doc__" 166 .none),(dE P "__package__" 167 .none),(dE P "__loader__" 168 (.builtin "__main__.__loader__#opaque")),(dE P "__spec__" 169 .none),dR P "__annotations__" 170 6,dR P "__builtins__" 171 4,(dE P "__file__" 173 (.str "/claim/cut.py" 172)),(dE P "__cached__" 174 .none),dR P "WaxError" 206 24,dR P "NoCell" 222 37,dR P "Twice" 238 49,dR P "Spent" 254 61,dR P "TooDeep" 270 73,(dE P "DEEPEST" 274 (.int 9 273)),dR P "with_wax" 280 80,dR P "dipped" 286 85,dR P "boiled" 292 90,dR P "has_cell" 300 97,dR P "deepened" 308 104,dR P "moved" 321 111,dR P "_law_whole" 330 118,dR P "_law_shades" 336 123,dR P "_law_cells_kind" 345 130,dR P "_law_alike" 354 137,dR P "_law_box" 363 144,dR P "_law_mixed" 373 151,dR P "_law_take" 383 158,dR P "_law_lacks" 389 163,dR P "_law_cell" 403 170,dR P "_law_bolt" 409 175,dR P "_law_sizes" 416 182,dR P "_law_place" 424 189,dR P "_law_picks" 437 196,dR P "_law_picks_word" 446 203,dR P "_law_wax" 452 208,dR P "_law_dip" 458 213,dR P "_law_boil" 464 218,dR P "_law_full" 470 223,dR P "_law_move_word" 479 230,dR P "_law_due" 488 237,dR P "_law_drawn_move" 498 244,dR P "_law_tried" 509 251,dR P "law" 515 256] 44) #[])) ::
 (nat_lit 15,(PySem.Obj.mk (.type "tuple") none (.seq #[(.type "ValueError")] 0) #[])) ::
 (nat_lit 22,oA) ::
 (nat_lit 23,(PySem.Obj.mk (.type "dict") none (.dict #[(dE P "__module__" 196 (.str "waxcloth.errors" 187)),(dE P "__firstlineno__" 200 (.int 2 199)),dR P "__static_attributes__" 201 22,dR P "__weakref__" 203 25,(dE P "__doc__" 204 .none)] 3) #[])) ::
 (nat_lit 24,(PySem.Obj.mk (.type "type") none (.cls (PySem.ClassData.mk "WaxError" [(.type "ValueError")] [(.ref 24),(.type "ValueError"),(.type "Exception"),(.type "BaseException"),(.type "object")] 23 "WaxError" true [] (rL [37,49,61,73]) false none false)) #[(some (.ref 15)),none,(some (.str "WaxError" 189)),(some (.str "WaxError" 197)),(some (.builtin "ValueError.__new__")),(some (.bool true))])) ::
 (nat_lit 25,(PySem.Obj.mk (.type "getset_descriptor") none (.fields #[(.str "__weakref__" 202),(.ref 24),(.builtin "ExceptionGroup.__weakref__"),.none]) #[])) ::
 (nat_lit 28,oB) ::
 (nat_lit 35,oA) ::
 (nat_lit 36,(oC P 214 4 35)) ::
 (nat_lit 37,(oD "NoCell" 37 36 28 207)) ::
 (nat_lit 40,oB) ::
 (nat_lit 47,oA) ::
 (nat_lit 48,(oC P 230 6 47)) ::
 (nat_lit 49,(oD "Twice" 49 48 40 223)) ::
 (nat_lit 52,oB) ::
 (nat_lit 59,oA) ::
 (nat_lit 60,(oC P 246 8 59)) ::
 (nat_lit 61,(oD "Spent" 61 60 52 239)) ::
 (nat_lit 64,oB) ::
 (nat_lit 71,oA) ::
 (nat_lit 72,(oC P 262 10 71)) ::
 (nat_lit 73,(oD "TooDeep" 73 72 64 255)) ::
 (nat_lit 76,oA) ::
 (nat_lit 79,(oE "with_wax" 275 14 2 76)) ::
 (nat_lit 80,(oF "with_wax" "waxcloth.bolt" 8 271 79)) ::
 (nat_lit 81,oA) ::
 (nat_lit 84,(oE "dipped" 281 20 2 81)) ::
 (nat_lit 85,(oF "dipped" "waxcloth.bolt" 9 271 84)) ::
 (nat_lit 86,oA) ::
 (nat_lit 89,(oE "boiled" 287 24 1 86)) ::
 (nat_lit 90,(oF "boiled" "waxcloth.bolt" 10 271 89)) ::
 (nat_lit 91,oA) ::
 (nat_lit 93,(oG "bolt" "at" 296)) ::
 (nat_lit 94,oA) ::
 (nat_lit 96,(oH "has_cell" 293 26 2 91 298)) ::
 (nat_lit 97,(oF "has_cell" "waxcloth.bolt" 11 271 96)) ::
 (nat_lit 98,oA) ::
 (nat_lit 100,(oG "stain" "dye" 304)) ::
 (nat_lit 101,oA) ::
 (nat_lit 103,(oH "deepened" 301 28 2 98 306)) ::
 (nat_lit 104,(oF "deepened" "waxcloth.bolt" 12 271 103)) ::
 (nat_lit 105,oA) ::
 (nat_lit 107,(PySem.Obj.mk (.type "tuple") none (.seq (sN 314 ["bolt","fresh","move","word","dye"]) 0) #[])) ::
 (nat_lit 108,oA) ::
 (nat_lit 110,(oH "moved" 311 31 3 105 319)) ::
 (nat_lit 111,(oF "moved" "waxcloth.plans" 14 309 110)) ::
 (nat_lit 112,oA) ::
 (nat_lit 114,(PySem.Obj.mk (.type "tuple") none (.seq (sN 327 ["_law_found"]) 0) #[])) ::
 (nat_lit 115,oA) ::
 (nat_lit 117,(oH "_law_whole" 324 42 1 112 328)) ::
 (nat_lit 118,(oF "_law_whole" "law_waxcloth_k23_a_move" 16 322 117)) ::
 (nat_lit 119,oA) ::
 (nat_lit 122,(oE "_law_shades" 331 44 2 119)) ::
 (nat_lit 123,(oF "_law_shades" "law_waxcloth_k23_a_move" 17 322 122)) ::
 (nat_lit 124,oA) ::
 (nat_lit 126,(oI "_law_found" "_law_pots" "_law_cell_here" 340)) ::
 (nat_lit 127,oA) ::
 (nat_lit 129,(oH "_law_cells_kind" 337 46 2 124 343)) ::
 (nat_lit 130,(oF "_law_cells_kind" "law_waxcloth_k23_a_move" 18 322 129)) ::
 (nat_lit 131,oA) ::
 (nat_lit 133,(oI "_law_found" "_law_due_here" "_law_pots" 349)) ::
 (nat_lit 134,oA) ::
 (nat_lit 136,(oH "_law_alike" 346 55 3 131 352)) ::
 (nat_lit 137,(oF "_law_alike" "law_waxcloth_k23_a_move" 19 322 136)) ::
 (nat_lit 138,oA) ::
 (nat_lit 140,(oI "_law_script" "_law_seed" "_law_cell_here" 358)) ::
 (nat_lit 141,oA) ::
 (nat_lit 143,(oH "_law_box" 355 57 1 138 361)) ::
 (nat_lit 144,(oF "_law_box" "law_waxcloth_k23_a_move" 20 322 143)) ::
 (nat_lit 145,oA) ::
 (nat_lit 147,(oJ "_law_number" "_law_turn" "_law_one" "_law_two" 367)) ::
 (nat_lit 148,oA) ::
 (nat_lit 150,(oH "_law_mixed" 364 62 2 145 371)) ::
 (nat_lit 151,(oF "_law_mixed" "law_waxcloth_k23_a_move" 21 322 150)) ::
 (nat_lit 152,oA) ::
 (nat_lit 154,(oJ "_law_box_here" "_law_many" "_law_left" "_law_cell_here" 377)) ::
 (nat_lit 155,oA) ::
 (nat_lit 157,(oH "_law_take" 374 66 2 152 381)) ::
 (nat_lit 158,(oF "_law_take" "law_waxcloth_k23_a_move" 22 322 157)) ::
 (nat_lit 159,oA) ::
 (nat_lit 162,(oE "_law_lacks" 384 80 3 159)) ::
 (nat_lit 163,(oF "_law_lacks" "law_waxcloth_k23_a_move" 23 322 162)) ::
 (nat_lit 164,oA) ::
 (nat_lit 166,(PySem.Obj.mk (.type "tuple") none (.seq (sN 393 ["_law_box_here","_law_row","_law_loose","_law_wet","_law_stain","_law_want","_law_bit","_law_shade"]) 0) #[])) ::
 (nat_lit 167,oA) ::
 (nat_lit 169,(oH "_law_cell" 390 97 4 164 401)) ::
 (nat_lit 170,(oF "_law_cell" "law_waxcloth_k23_a_move" 24 322 169)) ::
 (nat_lit 171,oA) ::
 (nat_lit 174,(oE "_law_bolt" 404 108 4 171)) ::
 (nat_lit 175,(oF "_law_bolt" "law_waxcloth_k23_a_move" 25 322 174)) ::
 (nat_lit 176,oA) ::
 (nat_lit 178,(PySem.Obj.mk (.type "tuple") none (.seq (sN 413 ["_law_box_here"]) 0) #[])) ::
 (nat_lit 179,oA) ::
 (nat_lit 181,(oH "_law_sizes" 410 112 1 176 414)) ::
 (nat_lit 182,(oF "_law_sizes" "law_waxcloth_k23_a_move" 26 322 181)) ::
 (nat_lit 183,oA) ::
 (nat_lit 185,(oG "_law_box_here" "_law_size" 420)) ::
 (nat_lit 186,oA) ::
 (nat_lit 188,(oH "_law_place" 417 116 2 183 422)) ::
 (nat_lit 189,(oF "_law_place" "law_waxcloth_k23_a_move" 27 322 188)) ::
 (nat_lit 190,oA) ::
 (nat_lit 192,(PySem.Obj.mk (.type "tuple") none (.seq (sN 428 ["_law_box_here","_law_size","_law_spread","_law_many","_law_found","_law_k","_law_at"]) 0) #[])) ::
 (nat_lit 193,oA) ::
 (nat_lit 195,(oH "_law_picks" 425 120 2 190 435)) ::
 (nat_lit 196,(oF "_law_picks" "law_waxcloth_k23_a_move" 28 322 195)) ::
 (nat_lit 197,oA) ::
 (nat_lit 199,(oI "_law_cells" "_law_size" "_law_at" 441)) ::
 (nat_lit 200,oA) ::
 (nat_lit 202,(oH "_law_picks_word" 438 134 2 197 444)) ::
 (nat_lit 203,(oF "_law_picks_word" "law_waxcloth_k23_a_move" 29 322 202)) ::
 (nat_lit 204,oA) ::
 (nat_lit 207,(oE "_law_wax" 447 141 2 204)) ::
 (nat_lit 208,(oF "_law_wax" "law_waxcloth_k23_a_move" 30 322 207)) ::
 (nat_lit 209,oA) ::
 (nat_lit 212,(oE "_law_dip" 453 143 2 209)) ::
 (nat_lit 213,(oF "_law_dip" "law_waxcloth_k23_a_move" 31 322 212)) ::
 (nat_lit 214,oA) ::
 (nat_lit 217,(oE "_law_boil" 459 150 1 214)) ::
 (nat_lit 218,(oF "_law_boil" "law_waxcloth_k23_a_move" 32 322 217)) ::
 (nat_lit 219,oA) ::
 (nat_lit 222,(oE "_law_full" 465 152 2 219)) ::
 (nat_lit 223,(oF "_law_full" "law_waxcloth_k23_a_move" 33 322 222)) ::
 (nat_lit 224,oA) ::
 (nat_lit 226,(oI "_law_rows" "_law_fresh" "_law_move" 474)) ::
 (nat_lit 227,oA) ::
 (nat_lit 229,(oH "_law_move_word" 471 154 3 224 477)) ::
 (nat_lit 230,(oF "_law_move_word" "law_waxcloth_k23_a_move" 34 322 229)) ::
 (nat_lit 231,oA) ::
 (nat_lit 233,(oI "_law_rows" "_law_fresh" "_law_move" 483)) ::
 (nat_lit 234,oA) ::
 (nat_lit 236,(oH "_law_due" 480 162 3 231 486)) ::
 (nat_lit 237,(oF "_law_due" "law_waxcloth_k23_a_move" 35 322 236)) ::
 (nat_lit 238,oA) ::
 (nat_lit 240,(oJ "_law_box_here" "_law_pots" "_law_size" "_law_way" 492)) ::
 (nat_lit 241,oA) ::
 (nat_lit 243,(oH "_law_drawn_move" 489 168 3 238 496)) ::
 (nat_lit 244,(oF "_law_drawn_move" "law_waxcloth_k23_a_move" 36 322 243)) ::
 (nat_lit 245,oA) ::
 (nat_lit 247,(PySem.Obj.mk (.type "tuple") none (.seq (sN 502 ["_law_rows","_law_fresh","_law_move","_law_word","_law_found"]) 0) #[])) ::
 (nat_lit 248,oA) ::
 (nat_lit 250,(oH "_law_tried" 499 175 3 245 507)) ::
 (nat_lit 251,(oF "_law_tried" "law_waxcloth_k23_a_move" 37 322 250)) ::
 (nat_lit 252,oA) ::
 (nat_lit 255,(oE "law" 510 189 1 252)) ::
 (nat_lit 256,(oF "law" "law_waxcloth_k23_a_move" 38 322 255)):: []
noncomputable abbrev RR:PySem.W.RowW:=PySem.W.OpenRow.toRowW (PySem.W.OpenLaw.row PySem.Challenge.rw_waxcloth_k23_a_move)
noncomputable def Q:Program:={ RR.prog with main:={ RR.prog.main with body:= [top 1,top 2,top 3,top 4,top 5,top 7,top 8,top 9,top 10,top 11,top 12,top 14,top 16,top 17,top 18,top 19,top 20,top 21,top 22,top 23,top 24,top 25,top 26,top 27,top 28,top 29,top 30,top 31,top 32,top 33,top 34,top 35,top 36,top 37,top 38] } }
noncomputable def asL:List Nat:= [2,3,15,22,23,24,25,28,35,36,37,40,47,48,49,52,59,60,61,64,71,72,73,76,79,80,81,84,85,86,89,90,91,93,94,96,97,98,100,101,103,104,105,107,108,110,111,112,114,115,117,118,119,122,123,124,126,127,129,130,131,133,134,136,137,138,140,141,143,144,145,147,148,150,151,152,154,155,157,158,159,162,163,164,166,167,169,170,171,174,175,176,178,179,181,182,183,185,186,188,189,190,192,193,195,196,197,199,200,202,203,204,207,208,209,212,213,214,217,218,219,222,223,224,226,227,229,230,231,233,234,236,237,238,240,241,243,244,245,247,248,250,251,252,255,256]
theorem asE:∀ P,asL=(K P).map (·.1):=fun _=>by kernel_rfl
noncomputable def zeI (P:PySem.Params):List (Nat×Obj) :=
 (0,PySem.W.boot_o_0 P) ::
 (1,PySem.W.boot_o_1 P) ::
 (4,PySem.W.boot_o_4 P) ::
 (5,PySem.W.boot_o_5 P) ::
 (6,PySem.W.boot_o_6 P) ::
 (7,PySem.W.boot_o_7 P) ::
 (8,PySem.W.boot_o_8 P) ::
 (9,PySem.W.boot_o_9 P) ::
 (10,PySem.W.boot_o_10 P) ::
 (11,oA) ::
 (12,(o3 0 [(2,20),(4,33),(6,45),(8,57),(10,69),(14,79),(20,84),(24,89),(26,96),(28,103),(31,110),(42,117),(44,122),(46,129),(55,136),(57,143),(62,150),(66,157),(80,162),(97,169),(108,174),(112,181),(116,188),(120,195),(134,202),(141,207),(143,212),(150,217),(152,222),(154,229),(162,236),(168,243),(175,250),(189,255)])) ::
 (13,(oK "<module>" 182 1 11)) ::
 (14,(oL "__main__" 13 3 164)) ::
 (16,oM) ::
 (17,(oN P "WaxError" 196 2 22)) ::
 (18,oA) ::
 (19,oO) ::
 (20,(oK "WaxError" 191 2 18)) ::
 (21,(oL "waxcloth.errors" 20 17 187)) ::
 (26,(oP 24)) ::
 (27,(oQ 24)) ::
 (29,oM) ::
 (30,(oN P "NoCell" 214 4 35)) ::
 (31,oA) ::
 (32,oO) ::
 (33,(oK "NoCell" 209 4 31)) ::
 (34,(oL "waxcloth.errors" 33 30 187)) ::
 (38,(oP 37)) ::
 (39,(oQ 37)) ::
 (41,oM) ::
 (42,(oN P "Twice" 230 6 47)) ::
 (43,oA) ::
 (44,oO) ::
 (45,(oK "Twice" 225 6 43)) ::
 (46,(oL "waxcloth.errors" 45 42 187)) ::
 (50,(oP 49)) ::
 (51,(oQ 49)) ::
 (53,oM) ::
 (54,(oN P "Spent" 246 8 59)) ::
 (55,oA) ::
 (56,oO) ::
 (57,(oK "Spent" 241 8 55)) ::
 (58,(oL "waxcloth.errors" 57 54 187)) ::
 (62,(oP 61)) ::
 (63,(oQ 61)) ::
 (65,oM) ::
 (66,(oN P "TooDeep" 262 10 71)) ::
 (67,oA) ::
 (68,oO) ::
 (69,(oK "TooDeep" 257 10 67)) ::
 (70,(oL "waxcloth.errors" 69 66 187)) ::
 (74,(oP 73)) ::
 (75,(oQ 73)) ::
 (77,oO) ::
 (78,(oR "with_wax" 8)) ::
 (82,oO) ::
 (83,(oR "dipped" 9)) ::
 (87,oO) ::
 (88,(oR "boiled" 10)) ::
 (92,oO) ::
 (95,(oR "has_cell" 11)) ::
 (99,oO) ::
 (102,(oR "deepened" 12)) ::
 (106,oO) ::
 (109,(oR "moved" 14)) ::
 (113,oO) ::
 (116,(oR "_law_whole" 16)) ::
 (120,oO) ::
 (121,(oR "_law_shades" 17)) ::
 (125,oO) ::
 (128,(oR "_law_cells_kind" 18)) ::
 (132,oO) ::
 (135,(oR "_law_alike" 19)) ::
 (139,oO) ::
 (142,(oR "_law_box" 20)) ::
 (146,oO) ::
 (149,(oR "_law_mixed" 21)) ::
 (153,oO) ::
 (156,(oR "_law_take" 22)) ::
 (160,oO) ::
 (161,(oR "_law_lacks" 23)) ::
 (165,oO) ::
 (168,(oR "_law_cell" 24)) ::
 (172,oO) ::
 (173,(oR "_law_bolt" 25)) ::
 (177,oO) ::
 (180,(oR "_law_sizes" 26)) ::
 (184,oO) ::
 (187,(oR "_law_place" 27)) ::
 (191,oO) ::
 (194,(oR "_law_picks" 28)) ::
 (198,oO) ::
 (201,(oR "_law_picks_word" 29)) ::
 (205,oO) ::
 (206,(oR "_law_wax" 30)) ::
 (210,oO) ::
 (211,(oR "_law_dip" 31)) ::
 (215,oO) ::
 (216,(oR "_law_boil" 32)) ::
 (220,oO) ::
 (221,(oR "_law_full" 33)) ::
 (225,oO) ::
 (228,(oR "_law_move_word" 34)) ::
 (232,oO) ::
 (235,(oR "_law_due" 35)) ::
 (239,oO) ::
 (242,(oR "_law_drawn_move" 36)) ::
 (246,oO) ::
 (249,(oR "_law_tried" 37)) ::
 (253,oO) ::
 (254,(oR "law" 38)):: []
noncomputable def mix:Nat->Nat->List (Nat×Obj)->List (Nat×Obj)->List Obj
 | 0,_,_,_=> []
 | n+1,i,(a,x)::l,(b,y)::r=>match Nat.beq a i with
  | true=>x::mix n (i+1) l ((b,y)::r)
  | false=>y::mix n (i+1) ((a,x)::l) r
 | n+1,i,(_,x)::l,[]=>x::mix n (i+1) l []
 | n+1,i,[],(_,y)::r=>y::mix n (i+1) [] r
 | _+1,_,[],[]=> []
noncomputable def ev:Bool->List Obj->List Obj
 | _,[]=> []
 | true,x::r=>x::ev false r
 | false,_::r=>ev true r
noncomputable def bt:Nat->List Obj->PySem.W.BT
 | 0,_=>.nil
 | _+1,[]=>.nil
 | n+1,x::r=>.node x (bt n (ev true r)) (bt n (ev false r))
noncomputable def lf:Life:=(.mk [] [] [] 0 [] [] false #[] [] 0 false false false 0 [2000,10,10] false 0 true [] [] 0 false)
noncomputable def zeH (P:PySem.Params):List Obj:=mix 257 0 (K P) (zeI P)
noncomputable def zcU:Env:={ scope:=RR.prog.main.scope,locals:=mainNs,globals:=mainNs,cells:= [],code:=.ref 13,frame:=some 14 }
noncomputable def bH:List Stmt:=PySem.W.behindTheImports RR.prog
noncomputable def cH:Code:=.body bH zcU
noncomputable abbrev BH:List Frame:= [PySem.W.topFrame ⟨0,0,0,0⟩]
noncomputable def zda (P:PySem.Params):List Obj:= [PySem.W.boot_o_0 P,PySem.W.boot_o_1 P,PySem.W.boot_o_2 P,PySem.W.boot_o_3 P,PySem.W.boot_o_4 P,PySem.W.boot_o_5 P,PySem.W.boot_o_6 P,PySem.W.boot_o_7 P,PySem.W.boot_o_8 P,PySem.W.boot_o_9 P,PySem.W.boot_o_10 P,oA,oO,(oK "<module>" 182 1 11),(oL "__main__" 13 3 164)]
set_option maxHeartbeats 0 in
theorem preH:∀ w:World,(fun os=>PySem.W.topGo treeTable RR.prog w 11 (some (.ref 6)) 12 ⟨PySem.W.boot_heap w.params,Array.mk [],PySem.W.boot_drawn,PySem.W.boot_toks,os⟩ (PySem.W.topStub RR.prog))=fun os=>some (⟨⟨(zda w.params).toArray,lf⟩,Array.mk [],PySem.W.boot_drawn,187,os⟩,⟨denote treeTable cH,cH,⟨0,0,0,0⟩,BH⟩):=fun w=>by kernel_rfl
noncomputable def tr0 (P:PySem.Params):PySem.W.BT:=bt 14 (zda P)
set_option maxHeartbeats 0 in
theorem zcC:∀ w:World,(fun os=>PySem.W.segRun treeTable RR.prog w 11 (some (.ref 6)) 1 1 ⟨⟨(zda w.params).toArray,lf⟩,Array.mk [],PySem.W.boot_drawn,187,os⟩ (PySem.W.blockOf bH zcU cH ⟨0,0,0,0⟩ BH))=fun os=>some (.next,(PySem.W.SharedT.mk (tr0 w.params) 15 lf (Array.mk []) PySem.W.boot_drawn 187 os).abs,cH,⟨0,0,0,0⟩):=fun w=>by kernel_rfl
noncomputable def tr1 (P:PySem.Params):PySem.W.BT:=bt 14 (zeH P)
noncomputable def ze9:List Stmt:=bH
set_option maxHeartbeats 0 in
theorem zeW:∀ w:World,(fun os=>PySem.W.segRunT treeTable RR.prog w 11 (some (.ref 6)) 1 1937 (PySem.W.SharedT.mk (tr0 w.params) 15 lf (Array.mk []) PySem.W.boot_drawn 187 os) (PySem.W.piecesOf ze9 zcU cH ⟨0,0,0,0⟩ BH))=fun os=>some (.next,(PySem.W.SharedT.mk (tr1 w.params) 257 lf (Array.mk []) PySem.W.boot_drawn 516 os),cH,⟨189,0,211,49⟩):=fun w=>by kernel_rfl
noncomputable def hE (P:PySem.Params):Heap:=⟨(zeH P).toArray,lf⟩
set_option maxHeartbeats 0 in
theorem finH:∀ w:World,(fun os=>PySem.W.topRun treeTable RR.prog w 11 (some (.ref 6)) 2 (PySem.W.SharedT.mk (tr1 w.params) 257 lf (Array.mk []) PySem.W.boot_drawn 516 os).abs ⟨PySem.W.doneF .next,cH,⟨189,0,211,49⟩,BH⟩)=fun os=>some ⟨hE w.params,Array.mk [],PySem.W.boot_drawn,516,os⟩:=fun w=>by kernel_rfl
theorem zes:bH=ze9++([]):=by kernel_rfl
theorem runH (w:World) (os:OsState):PySem.W.topRun treeTable RR.prog w 11 (some (.ref 6)) (12+(1+(1937+2))) ⟨PySem.W.boot_heap w.params,Array.mk [],PySem.W.boot_drawn,PySem.W.boot_toks,os⟩ (PySem.W.topStub RR.prog)=some ⟨hE w.params,Array.mk [],PySem.W.boot_drawn,516,os⟩:=by
 refine PySem.W.go_top (congrFun (preH w) os) (PySem.W.piece_block (congrFun (zcC w) os) ?_)
 rw[zes]
 exact PySem.W.piece_app (PySem.W.segRun_of (congrFun (zeW w) os)) (PySem.W.piece_nil (congrFun (finH w) os))
noncomputable abbrev XtH:Shared->Bool:=fun s=>PySem.W.xlAt Q [] s&&PySem.W.recOk (PySem.W.RowW.records RR) s
set_option maxHeartbeats 0 in
theorem zc7:∀ w:World,(fun os=>((PySem.W.staticsOk (importedModules RR.prog.main.body) (PySem.W.boot_heap w.params) (hE w.params)&&PySem.W.namesBound RR.prog (hE w.params)&&PySem.W.gensDone ⟨hE w.params,Array.mk [],PySem.W.boot_drawn,516,os⟩&&PySem.W.laidKept (PySem.W.boot_heap w.params) (hE w.params)),PySem.W.openSeen Q [] (importedModules RR.prog.main.body) XtH true ⟨hE w.params,Array.mk [],PySem.W.boot_drawn,516,os⟩,(PySem.W.Hook.obs (PySem.W.kHook K asL asE)) ⟨hE w.params,Array.mk [],PySem.W.boot_drawn,516,os⟩))=fun _=>(true,PySem.W.openGood Q [],PySem.W.Hook.val (PySem.W.kHook K asL asE) w):=fun w=>by kernel_rfl
theorem zeN:PySem.W.opening RR.prog=PySem.W.plainProg RR.prog.main.scope.names:=by kernel_rfl
theorem zcV:∀ s,fenceModules? RR.prog s=some s:=fun s=>by kernel_rfl
theorem ze2:∀ w:World,((PySem.W.boot_heap w.params).isNs mainGlobals&&(Array.mk ([]:List GenState)).size==0,(PySem.W.boot_heap w.params).objs.size,(PySem.W.boot_heap w.params).nsMap mainGlobals "__annotations__")=(true,11,(some (.ref 6))):=fun w=>by kernel_rfl
theorem left:PySem.W.LeftO RR.prog Q [] XtH (PySem.W.Hook.obs (PySem.W.kHook K asL asE)) (PySem.W.Hook.val (PySem.W.kHook K asL asE)) 3998 :=
 PySem.W.LeftO.of_pieces (PySem.W.boot_open zeN (by decide +kernel) zcV) ze2 runH (by decide +kernel) zc7
set_option maxHeartbeats 0 in
theorem saidL:PySem.W.OpenLaw.wellSaid PySem.Challenge.rw_waxcloth_k23_a_move=true:=by kernel_rfl
end Wx
open PySem PySem.W PyProof.Rows
set_option hygiene false in
local macro_rules
 | `(tactic| rotate_left 1)=>`(tactic| (dsimp only [L2.KOf]; refine' L2.Df.of KX G ?a ?l ?c ?k (fun _ _ _ _ _ _=>L3.el1 fun _=>rfl); (case a=>k_is); (case l=>k_is); (case c=>k_is); (case k=>k_is)))
 | `(tactic| rotate_left 2)=>`(tactic| (dsimp only [L2.KOf]; refine' L2.Df.of KX G ?a ?l ?c ?k (fun _ _ _ _ _ _=>L3.el2 fun _ _=>rfl); (case a=>k_is); (case l=>k_is); (case c=>k_is); (case k=>k_is)))
 | `(tactic| rotate_left 3)=>`(tactic| (dsimp only [L2.KOf]; refine' L2.Df.of KX G ?a ?l ?c ?k (fun _ _ _ _ _ _=>L3.el3 fun _ _ _=>rfl); (case a=>k_is); (case l=>k_is); (case c=>k_is); (case k=>k_is)))
 | `(tactic| rotate_left 4)=>`(tactic| (dsimp only [L2.KOf]; refine' L2.Df.of KX G ?a ?l ?c ?k (fun _ _ _ _ _ _=>L3.el4 fun _ _ _ _=>rfl); (case a=>k_is); (case l=>k_is); (case c=>k_is); (case k=>k_is)))
set_option maxHeartbeats 0 in
theorem PySem.Challenge.cw_waxcloth_k23_a_move_holds : PySem.Challenge.rw_waxcloth_k23_a_move.Holds := by
 w_on; refine PySem.W.holds_law Wx.saidL fun said=>?_
 refine PySem.W.holds_open (q:=Wx.Q) (loose:= []) (XP:=PySem.W.XL Wx.Q []) (YP:=PySem.W.Hook.says (PySem.W.kHook Wx.K Wx.asL Wx.asE)) (N:=3998) Wx.left (PySem.W.Hook.of (PySem.W.kHook Wx.K Wx.asL Wx.asE)) (PySem.W.Hook.keeps (PySem.W.kHook Wx.K Wx.asL Wx.asE)) (fun s e=>PySem.W.xl_of s (Bool.and_eq_true_iff.mp e).1) PySem.W.XL.keeps (by rfl) (by rfl) (by rfl) (fun s e=>PySem.W.recFacts_of (Bool.and_eq_true_iff.mp e).2) (by rfl) (by first | assumption | decide +kernel) (by decide +kernel) ⟨rfl,rfl,rfl,rfl,rfl,by decide +kernel⟩ ?hw ?hc
 (case hw=>w_witness2)
 k_fill
 haveI:L2.Cs:=⟨fun _=>0⟩
 refine L2.walkL (l:=PySem.Challenge.rw_waxcloth_k23_a_move) (k:=43) (st:=Wx.sLaw) rfl rfl ⟨rfl,by decide,by decide⟩ (fun w h Y=>PySem.W.kIn_of Y) ?F
 case F=>
  intro w mg fa h KX G hmg
  letI:L2.Cs:=L3.csOf mg
  have HD:L3.AllX (L2.KOf KX) mg Wx.defs:=Wx.hdd KX G (by rotate_left 2) (by rotate_left 2) (by rotate_left 1) (by rotate_left 2) (by rotate_left 2) (by rotate_left 3) (by rotate_left 1) (by rotate_left 2) (by rotate_left 2) (by rotate_left 3) (by rotate_left 2) (by rotate_left 2) (by rotate_left 3) (by rotate_left 4) (by rotate_left 4) (by rotate_left 1) (by rotate_left 2) (by rotate_left 2) (by rotate_left 2) (by rotate_left 2) (by rotate_left 2) (by rotate_left 1) (by rotate_left 2) (by rotate_left 3) (by rotate_left 3) (by rotate_left 3) (by rotate_left 3)
  have DB:L2.Df (L2.KOf KX) mg "_law_box" Wx.sBox ["_law_script"]:=by rotate_left 1
  have HB:∀ x,Wx.W.bi.contains x=true->mg x=none:=L3.bi_all (K:=L2.KOf KX) KX G (by kernel_rfl)
  have HX:=L3.ex_of (K:=L2.KOf KX) (L:=Wx.W.ex) KX G (by kernel_rfl)
  have L:L2.Dl (L2.KOf KX) "law" Wx.sLaw fa "_law_script" :=by
   dsimp only [L2.KOf]
   refine' L2.Dl.of KX G hmg ?a ?l ?c ?k ?b
   (case a=>k_is); (case l=>k_is); (case c=>k_is); (case k=>k_is)
   (case b=>exact fun s u=>.of_eq rfl)
  refine⟨L,fun fd Ff base=>?_⟩
  exact L3.law_ok Ff Wx.okS (Wx.kn_box DB (HB "list" (by kernel_rfl))) (by decide) (L3.wk_all (L3.dx_all HD Wx.oks) Wx.hw HB (L3.gi_of (K:=L2.KOf KX) KX G (by kernel_rfl)) (L3.gs_of (K:=L2.KOf KX) KX G (by kernel_rfl)) HX.1 HX.2 Wx.hgd (L3.fk_all (K:=L2.KOf KX) KX G (by kernel_rfl)) 20) (by decide) rfl rfl rfl rfl (by first | exact Or.inl rfl | exact Or.inr rfl) rfl Wx.okLaw (fun cells i l t s hi=>Wx.law_run _ (Wx.ok23 0) cells i l t s hi)
