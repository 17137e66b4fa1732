import PyProof.Rows.All
import Wide.All
import OpenK.AllK
import Wide.FinOn
import Lean
import PyProof.EqAt
import PyProof.EqKinds
import PyProof.TupleCall
import PyProof.NeData
import PyProof.DictCompW
import PyProof.WalksEnum
import PyProof.Rows.SortWalk
import PyProof.Rows.SetFrom
import PyProof.SetKind
import PyProof.SetRoads
import PyProof.Tail
import PyProof.FactsAll.set_2
import KE.KRevIter
import PyProof.Rows.StrWeight2
import PyProof.Rows.StrNews2
import PyProof.CallStr
import PyProof.FString
import PyProof.StrBlockH
import PyProof.SliceStr2
import KE.KIntText
import PyProof.Rows.StrNews
import PyProof.StrLoop
import PyProof.StrCalls
import PyProof.StrWalks
import PyProof.ZipIter
import PyProof.WalksMore
import KE.KDictList
import PyProof.Rows.SortStr
import PyProof.DictWalks
import PyProof.DictItems
import KE.KPairComp
import PyProof.Rows.ListMul
import PyProof.SeqI3
import PySem.Challenge.RW_waxcloth_k11_why_they_clash
set_option Elab.async false
set_option linter.all false
set_option maxRecDepth 100000
set_option bootstrap.genMatcherCode false
set_option compiler.extract_closed false
namespace L2
open PySem PySem.Spec PyProof.Rows
noncomputable abbrev Key:=Sum Int Str
noncomputable def J7:Key->Value->Bool
 | .inl k,v=>Value.isInt k v
 | .inr x,v=>Value.isStrOf x v
noncomputable def keyH (w:World):Key->Int
 | .inl k=>hashInt k
 | .inr x=>hashStr w x
theorem zE:∀ {k:Key}{v:Value},J7 k v=true->(∃ i t,k=Sum.inl i/\v=Value.int i t)∨(∃ x t,k=Sum.inr x/\v=Value.str x t)
 | .inl i,v,h=>by
  obtain⟨t,e⟩:=Value.isInt_shape (k:=i) (v:=v) h
  exact .inl ⟨i,t,rfl,e⟩
 | .inr x,v,h=>by
  obtain⟨t,e⟩:=Value.isStrOf_shape (x:=x) (v:=v) h
  exact .inr ⟨x,t,rfl,e⟩
theorem yM (i:Int) (t:Tok):J7 (.inl i) (.int i t)=true:=by simp[J7,Value.isInt]
theorem yN (x:Str) (t:Tok):J7 (.inr x) (.str x t)=true:=by simp[J7,Value.isStrOf]
theorem zcB (a b:Int):decide ((Sum.inl a:Key)=Sum.inl b)=(a==b):=by
 by_cases e:a=b
 ·subst e; simp
 ·have h:¬ (Sum.inl a:Key)=Sum.inl b:=fun q=>e (Sum.inl.inj q)
  rw[decide_eq_false h]
  exact (beq_eq_false_iff_ne.mpr e).symm
theorem zcE (a b:Str):decide ((Sum.inr a:Key)=Sum.inr b)=decide (a=b):=by
 by_cases e:a=b
 ·subst e; simp
 ·have h:¬ (Sum.inr a:Key)=Sum.inr b:=fun q=>e (Sum.inr.inj q)
  rw[decide_eq_false h,decide_eq_false e]
theorem zcC (a:Int) (b:Str):decide ((Sum.inl a:Key)=Sum.inr b)=false:=decide_eq_false (fun q=>nomatch q)
theorem zcD (a:Str) (b:Int):decide ((Sum.inr a:Key)=Sum.inl b)=false:=decide_eq_false (fun q=>nomatch q)
noncomputable def qj (prog:Program) (w:World):PySem.KeyKind prog w Key where
 is:=J7
 hash:=keyH w
 inj:=fun v a b ha hb=>by
  rcases zE ha with ⟨i,t,rfl,rfl⟩ | ⟨x,t,rfl,rfl⟩
  ·rcases zE hb with ⟨j,u,rfl,e⟩ | ⟨y,u,rfl,e⟩
   ·injection e with e1 _; rw[e1]
   ·exact nomatch e
  ·rcases zE hb with ⟨j,u,rfl,e⟩ | ⟨y,u,rfl,e⟩
   ·exact nomatch e
   ·injection e with e1 _; rw[e1]
 byValue:=fun k v h=>by
  rcases zE h with ⟨i,t,rfl,rfl⟩ | ⟨x,t,rfl,rfl⟩ <;> rfl
 pyHash:=fun hv h=>by
  rcases zE hv with ⟨i,t,rfl,rfl⟩ | ⟨x,t,rfl,rfl⟩
  ·exact wpAny_pyHash_int h
  ·exact wpAny_pyHash_str h
 eqBool:=fun hu hv h=>by
  rcases zE hu with ⟨i,t,rfl,rfl⟩ | ⟨x,t,rfl,rfl⟩
  ·rcases zE hv with ⟨j,u,rfl,rfl⟩ | ⟨y,u,rfl,rfl⟩
   ·rw[zcB] at h; exact wpAny_eqBool_int h
   ·rw[zcC] at h; exact SeqAt.EqAt.int_str i t y u _ _ _ _ h
  ·rcases zE hv with ⟨j,u,rfl,rfl⟩ | ⟨y,u,rfl,rfl⟩
   ·rw[zcD] at h; exact SeqAt.EqAt.str_int x t j u _ _ _ _ h
   ·rw[zcE] at h; exact wpAny_eqBool_str h
 «strs»:=fun k x t v h=>by
  rcases zE h with ⟨i,u,rfl,e⟩ | ⟨y,u,rfl,e⟩
  ·exact nomatch e
  ·injection e with e1 _
   subst e1
   cases v <;> rfl
theorem W1 (prog:Program) (w:World) (i:Int) (t:Tok):(qj prog w).is (.inl i) (.int i t)=true:=yM i t
theorem W2 (prog:Program) (w:World) (x:Str) (t:Tok):(qj prog w).is (.inr x) (.str x t)=true:=yN x t
end L2
namespace L2
open PySem PySem.Spec PyProof.Rows
inductive V where
 | non | bl (b:Bool) | int (i:Int) | str (x:Str) | byt (b:Array UInt8) | flt (b:UInt64) | ref (a:Addr) | ty (n:String)
 deriving DecidableEq
noncomputable def RelV:V->Value->Prop
 | .non,u=>u=Value.none
 | .bl b,u=>u=Value.bool b
 | .int i,u=>∃ t,u=Value.int i t
 | .str x,u=>∃ t,u=Value.str x t
 | .byt b,u=>∃ t,u=Value.bytes b t
 | .flt b,u=>∃ t,u=Value.float b t
 | .ref a,u=>u=Value.ref a
 | .ty n,u=>u=Value.type n
noncomputable abbrev Vals:List V->List Value->Prop:=Paired RelV
theorem Vals.length {xs:List V}{us:List Value}(r:Vals xs us):xs.length=us.length:=Paired.length r
theorem Vals.get:∀ {xs:List V}{us:List Value}{i:Nat}{x:V},Vals xs us->xs[i]?=some x->∃ u,us[i]?=some u/\RelV x u
 | _,_,_,_,.nil,e=>by simp at e
 | _,_,0,_,.cons r _,e=>by simp at e; subst e; exact⟨_,rfl,r⟩
 | _,_,i+1,x,.cons _ t,e=>by
  obtain⟨u,h1,h2⟩:=Vals.get (i:=i) (x:=x) t (by simpa using e)
  exact⟨u,by simpa using h1,h2⟩
theorem Vals.set {x:V}{u:Value}(r:RelV x u):∀ {xs:List V}{us:List Value}(i:Nat),Vals xs us->Vals (xs.set i x) (us.set i u)
 | _,_,_,.nil=>.nil
 | _,_,0,.cons _ t=>.cons r t
 | _,_,i+1,.cons q t=>.cons q (Vals.set r i t)
theorem Vals.append:∀ {xs ys:List V}{us ws:List Value},Vals xs us->Vals ys ws->Vals (xs++ys) (us++ws)
 | _,_,_,_,.nil,s=>s
 | _,_,_,_,.cons r t,s=>.cons r (Vals.append t s)
theorem Vals.take:∀ {xs:List V}{us:List Value}(n:Nat),Vals xs us->Vals (xs.take n) (us.take n)
 | _,_,0,_=>.nil
 | _,_,_+1,.nil=>.nil
 | _,_,n+1,.cons r t=>.cons r (Vals.take n t)
theorem Vals.drop:∀ {xs:List V}{us:List Value}(n:Nat),Vals xs us->Vals (xs.drop n) (us.drop n)
 | _,_,0,r=>r
 | _,_,_+1,.nil=>.nil
 | _,_,n+1,.cons _ t=>Vals.drop n t
noncomputable def RelO:Option V->Option Value->Prop
 | some v,some u=>RelV v u
 | none,none=>True
 | _,_=>False
noncomputable def KV {κ:Type}:List (κ×V)->List (κ×Value)->Prop:=Paired fun (p:κ×V) (q:κ×Value)=>p.1=q.1/\RelV p.2 q.2
noncomputable def kV:Key->V
 | .inl i=>.int i
 | .inr x=>.str x
inductive HO where
 /-- a list -/
 | lst (xs:List V)
 /-- a tuple (never changes) -/
 | tup (xs:List V)
 /-- a dict whose keys are ints and texts; one whose keys are tuples of ints and texts (the empty one is ql) -/
 | dK (kvs:List (Key×V)) | dT (kvs:List (List Key×V))
 /-- a set of ints: its members,its size -/
 | set (S:Int->Bool) (n:Nat)
 /-- an instance of the class at C,its dict at dx,its attributes -/
 | ins (C dx:Addr) (fs:List (Str×V))
 /-- the dict of the instance at x -/
 | own (x:Addr)
 /-- the dict of an exception -/
 | xd (fs:List (Str×V))
 /-- a bound method,f of x -/
 | met (f x:Addr)
 /-- a range object lo,lo+1,.. below hi -/
 | rng (lo hi:Int)
 /-- a thing that is known to the object (the script; a dict while a loop walks it): read,never written while it is so -/
 | frz (o:Obj) (u:HO)
 /-- a code object's table -/
 | tbl (ps:Array Value)
 /-- any other thing,by what is true of its one object (a def of one's own: SetO a S n:=HO.ext fun h=>..) -/
 | ext (φ:Heap->Prop)
noncomputable abbrev Hp:=Addr->Option HO
noncomputable def upd (H:Hp) (a:Addr) (o:HO):Hp:=fun b=>if b=a then some o else H b
theorem zi {H:Hp}{a:Addr}{o:HO}:upd H a o a=some o:=by unfold upd; rw[if_pos rfl]
theorem ze {H:Hp}{a b:Addr}{o:HO}(h:b≠a):upd H a o b=H b:=by unfold upd; rw[if_neg h]
theorem zef {H:Hp}{a b:Addr}{o u:HO}(h:H a=some o) (h':H b=some u) (d:o≠u):a≠b:=by
 intro e; subst e; rw[h] at h'; exact d (Option.some.inj h')
theorem zC {H:Hp}{a b:Addr}{o:HO}(h:H a=some o) (h':H b=none):a≠b:=by
 intro e; subst e; rw[h] at h'; cases h'
section
variable (P:Program) (w:World)
noncomputable def ObjOk (H:Hp) (h:Heap) (a:Addr):HO->Prop
 | .lst xs=>xs.length<=sizeLine/\∃ (its:List Value) (n:Nat),Vals xs its/\h.get? a=some { cls:=.type "list",data:=.seq its.toArray n }
 | .tup xs=>xs.length<=sizeLine/\∃ its:List Value,Vals xs its/\IsTup h a its.toArray
 | .dK kvs=>kvs.length<=sizeLine/\(a==sysModules)=false/\∃ vs,KV kvs vs/\h.DictOf (qj P w) a vs
 | .dT kvs=>kvs.length<=sizeLine/\(a==sysModules)=false/\∃ xs:List (List Key×Addr×Value),
   Paired (fun (p:List Key×V) (q:List Key×Addr×Value)=>p.1=q.1/\H q.2.1=some (.tup (p.1.map kV))/\RelV p.2 q.2.2) kvs xs /\
   ∃ o es ep,h.get? a=some o/\o.ExactDict/\o.data=.dict es ep/\es.toList=xs.map (entryOfKey (tupleKind (qj P w)))/\(xs.map (·.1)).Nodup
 | .set S n=>h.SetOf (intKind P w) a S n
 | .ins C dx fs=>H dx=some (.own a)/\fs.length<=1000/\dx≠a/\h.get? a=some (PySem.W.instObj C dx) /\
   ∃ mA,h.Ns1 dx mA/\(∀ f,RelO (fs.lookup f) (mA f))/\PySem.Within mA (fs.map (·.1))
 | .own _=>∃ o,h.get? a=some o
 | .xd fs=>∃ mA,h.Ns1 a mA/\∀ f,RelO (fs.lookup f) (mA f)
 | .rng lo hi=>∃ t u v,h.get? a=some { cls:=.type "range",data:=.fields #[.int lo t,.int hi u,.int 1 v] }
 | .frz o u=>h.get? a=some o/\ObjOk H h a u
 | .tbl ps=>h.get? a=some { cls:=.none,data:=.fields ps }
 | .met f x=>h.get? a=some (PySem.W.methodObj (.ref f) (.ref x))
 | .ext φ=>φ h/\(∃ o,h.get? a=some o)/\∀ h1 h2:Heap,φ h1->(∀ o,h1.get? a=some o->h2.get? a=some o)->φ h2
noncomputable def HOk (H:Hp) (h:Heap):Prop:=∀ a o,H a=some o->ObjOk P w H h a o
end
section
variable {P:Program} {w:World} {H H':Hp} {h h':Heap} {a:Addr} {o:HO}
theorem ObjOk.lt (x:ObjOk P w H h a o):a<h.objs.size:=by
 cases o with
 | lst xs=>obtain⟨_,_,_,_,e⟩:=x; exact Heap.lt_size e
 | tup xs=>obtain⟨_,_,_,p⟩:=x; exact p.lt
 | dK kvs=>obtain⟨_,_,_,_,o,_,_,e,_⟩:=x; exact Heap.lt_size e
 | dT kvs=>obtain⟨_,_,_,_,o,_,_,e,_⟩:=x; exact Heap.lt_size e
 | set S n=>obtain⟨o,_,_,_,e,_⟩:=x; exact Heap.lt_size e
 | ins C dx fs=>obtain⟨_,_,_,e,_⟩:=x; exact Heap.lt_size e
 | own y=>obtain⟨_,e⟩:=x; exact Heap.lt_size e
 | xd fs=>obtain⟨_,⟨_,_,_,e,_⟩,_⟩:=x; exact Heap.lt_size e
 | rng lo hi=>obtain⟨_,_,_,e⟩:=x; exact Heap.lt_size e
 | frz ob u=>obtain⟨e,_⟩:=x; exact Heap.lt_size e
 | tbl ps=>exact Heap.lt_size (show h.get? a=some _ from x)
 | met f y=>exact Heap.lt_size (show h.get? a=some _ from x)
 | ext φ=>obtain⟨_,⟨_,e⟩,_⟩:=x; exact Heap.lt_size e
theorem Paired.mapP {α β:Type}{F G:α->β->Prop}:∀ {l₁:List α} {l₂:List β},Paired F l₁ l₂->(∀ a b,F a b->G a b)->Paired G l₁ l₂
 | _,_,.nil,_=>.nil
 | _,_,.cons r t,f=>.cons (f _ _ r) (Paired.mapP t f)
theorem ObjOk.stay (x:ObjOk P w H h a o) (k:∀ b u,(b=a∨H b=some (.own a))->h.get? b=some u->h'.get? b=some u)
  (ho:∀ b,H b=some (.own a)->H' b=some (.own a)) (ht:∀ b xs,H b=some (.tup xs)->H' b=some (.tup xs)):ObjOk P w H' h' a o:=by
 induction o with
 | lst xs=>obtain⟨z,its,n,r,e⟩:=x; exact⟨z,its,n,r,k _ _ (.inl rfl) e⟩
 | tup xs=>obtain⟨z,its,r,ob,e,c⟩:=x; exact⟨z,its,r,ob,k _ _ (.inl rfl) e,c⟩
 | dK kvs=>obtain⟨z,y,vs,r,ob,es,ep,e,c⟩:=x; exact⟨z,y,vs,r,ob,es,ep,k _ _ (.inl rfl) e,c⟩
 | dT kvs=>
  obtain⟨z,y,xs,r,ob,es,ep,e,c⟩:=x
  exact⟨z,y,xs,Paired.mapP r fun p q z=>⟨z.1,ht _ _ z.2.1,z.2.2⟩,ob,es,ep,k _ _ (.inl rfl) e,c⟩
 | set S n=>obtain⟨ob,es,ep,t,e,c⟩:=x; exact⟨ob,es,ep,t,k _ _ (.inl rfl) e,c⟩
 | ins C dx fs=>
  obtain⟨d,z,ne,e,mA,⟨od,es,ep,e2,c⟩,r⟩:=x
  exact⟨ho _ d,z,ne,k _ _ (.inl rfl) e,mA,⟨od,es,ep,k _ _ (.inr d) e2,c⟩,r⟩
 | own y=>obtain⟨ob,e⟩:=x; exact⟨ob,k _ _ (.inl rfl) e⟩
 | xd fs=>obtain⟨mA,⟨od,es,ep,e,c⟩,r⟩:=x; exact⟨mA,⟨od,es,ep,k _ _ (.inl rfl) e,c⟩,r⟩
 | rng lo hi=>obtain⟨t,u,v,e⟩:=x; exact⟨t,u,v,k _ _ (.inl rfl) e⟩
 | frz ob u ih=>obtain⟨e,q⟩:=x; exact⟨k _ _ (.inl rfl) e,ih q⟩
 | tbl ps=>
  have e:h.get? a=some { cls:=.none,data:=.fields ps }:=x
  show h'.get? a=some { cls:=.none,data:=.fields ps }
  exact k a _ (.inl rfl) e
 | met f y=>
  have e:h.get? a=some (PySem.W.methodObj (.ref f) (.ref y)):=x
  show h'.get? a=some (PySem.W.methodObj (.ref f) (.ref y))
  exact k a _ (.inl rfl) e
 | ext φ=>obtain⟨p,⟨o,e⟩,st⟩:=x; exact⟨st _ _ p fun o q=>k _ _ (.inl rfl) q,⟨o,k _ _ (.inl rfl) e⟩,st⟩
theorem HOk.lt (x:HOk P w H h) (e:H a=some o):a<h.objs.size:=(x a o e).lt
theorem HOk.fresh (x:HOk P w H h) (e:h.objs.size<=a):H a=none:=by
 cases q:H a with
 | none=>rfl
 | some u=>exact absurd (Nat.lt_of_lt_of_le (x.lt q) e) (Nat.lt_irrefl _)
theorem HOk.kept (x:HOk P w H h) (k:∀ b u,h.get? b=some u->h'.get? b=some u):HOk P w H h':=fun a o e=>
 (x a o e).stay (fun b u _ q=>k b u q) (fun _ q=>q) fun _ _ q=>q
theorem HOk.laid (x:HOk P w H h) (k:∀ b u,h.get? b=some u->h'.get? b=some u) (hp:h.objs.size<=a) (new:ObjOk P w (upd H a o) h' a o):HOk P w (upd H a o) h':=fun b u e=>by
 have hn:=x.fresh hp
 by_cases hb:b=a
 ·subst hb; rw[zi] at e; cases e; exact new
 ·rw[ze hb] at e
  exact (x b u e).stay (fun c v _ q=>k c v q) (fun c q=>by rw[ze (zC q hn)]; exact q) fun c xs q=>by rw[ze (zC q hn)]; exact q
end
noncomputable def Rd (H:Hp) (a:Addr) (u:HO):Prop:=H a=some u∨∃ o,H a=some (.frz o u)
theorem Rd.ok {P:Program}{w:World}{H:Hp}{h:Heap}{a:Addr}{u:HO}(r:Rd H a u) (x:HOk P w H h):ObjOk P w H h a u:=by
 rcases r with r | ⟨o,r⟩
 ·exact x a u r
 ·obtain⟨_,q⟩:=x a _ r
  exact q
noncomputable def Mut:Option HO->Prop
 | some (.lst _)=>True
 | some (.dK _)=>True
 | some (.dT _)=>True
 | some (.set _ _)=>True
 | some (.ins _ _ _)=>True
 | some (.ext _)=>True
 | _=>False
section
variable {P:Program} {w:World} {H:Hp} {h h':Heap} {x e:Addr} {o':HO}
theorem HOk.write (ok:HOk P w H h) (mu:Mut (H x)) (he:e=x∨H e=some (.own x)) (k:∀ b u,b≠e->h.get? b=some u->h'.get? b=some u) (heo:∃ u,h'.get? e=some u)
  (new:ObjOk P w (upd H x o') h' x o'):HOk P w (upd H x o') h':=fun b u q=>by
 have nown:∀ c y,H c=some (.own y)->c≠x:=fun c y r z=>by subst z; rw[r] at mu; exact mu
 have ntup:∀ c xs,H c=some (.tup xs)->c≠x:=fun c xs r z=>by subst z; rw[r] at mu; exact mu
 by_cases hb:b=x
 ·subst hb; rw[zi] at q; cases q; exact new
 ·rw[ze hb] at q
  by_cases hbe:b=e
  ·have q':H b=some (.own x):=by
    rcases he with z | z
    ·exact absurd (hbe.trans z) hb
    ·rw[hbe]; exact z
   rw[q] at q'; cases q'
   obtain⟨v,hv⟩:=heo
   exact⟨v,by rw[hbe]; exact hv⟩
  ·refine (ok b u q).stay (fun c v hc r=>k c v ?_ r) (fun c r=>by rw[ze (nown c b r)]; exact r) fun c xs r=>by rw[ze (ntup c xs r)]; exact r
   rcases hc with rfl | hc
   ·exact hbe
   ·rintro rfl
    rcases he with z | z
    ·exact nown c b hc z
    ·rw[hc] at z; cases z; exact hb rfl
end
structure Un (fs ex:List Addr) (H H':Hp) (h h':Heap):Prop where
 keep:∀ b o,h.get? b=some o->H b=none->b∉fs->b∉ex->h'.get? b=some o
 slot:∀ b o,h.get? b=some o->H b=none->b∈fs->b∉ex->∃ sl,h'.get? b=some { o with slots:=sl }
 free:∀ b o,h.get? b=some o->H b=none->b∉ex->H' b=none
 there:∀ b o,h.get? b=some o->b∉ex->∃ o',h'.get? b=some o'
 tups:∀ b xs,H b=some (.tup xs)->H' b=some (.tup xs)
 frzs:∀ b o u,H b=some (.frz o u)->H' b=some (.frz o u)
 tbls:∀ b ps,H b=some (.tbl ps)->∃ more,H' b=some (.tbl (ps++more))
section
variable {fs fs' ex ex':List Addr} {H H1 H2:Hp} {h h1 h2 h':Heap} {a x e:Addr} {o:HO}
theorem Un.any (u:Un fs ex H H1 h h1){b:Addr}{ob:Obj}(q:h.get? b=some ob) (n:H b=none) (hx:b∉ex):∃ sl,h1.get? b=some { ob with slots:=sl }:=by
 by_cases hb:b∈fs
 ·exact u.slot b ob q n hb hx
 ·exact⟨ob.slots,u.keep b ob q n hb hx⟩
theorem Un.kept (k:∀ b u,h.get? b=some u->h'.get? b=some u):Un fs ex H H h h' :=
 ⟨fun b ob q _ _ _=>k b ob q,fun b ob q _ _ _=>⟨ob.slots,k b ob q⟩,fun _ _ _ n _=>n,fun b ob q _=>⟨ob,k b ob q⟩,fun _ _ q=>q,fun _ _ _ q=>q,fun _ ps q=>⟨#[],by rw[q]; simp⟩⟩
theorem Un.refl:Un fs ex H H h h:=Un.kept fun _ _ q=>q
theorem Un.laid (k:∀ b u,h.get? b=some u->h'.get? b=some u) (hp:h.objs.size<=a) (hn:H a=none):Un fs ex H (upd H a o) h h' where
 keep:=fun b u q _ _ _=>k b u q
 slot:=fun b u q _ _ _=>⟨u.slots,k b u q⟩
 free:=fun b u q n _=>by rw[ze (Nat.ne_of_lt (Nat.lt_of_lt_of_le (Heap.lt_size q) hp))]; exact n
 there:=fun b u q _=>⟨u,k b u q⟩
 tups:=fun b xs q=>by rw[ze (zC q hn)]; exact q
 frzs:=fun b u xs q=>by rw[ze (zC q hn)]; exact q
 tbls:=fun b ps q=>⟨#[],by rw[ze (zC q hn),q]; simp⟩
theorem Un.write (mu:Mut (H x)) (he:e=x∨H e=some (.own x)) (k:∀ b u,b≠e->h.get? b=some u->h'.get? b=some u) (heo:∃ u,h'.get? e=some u):Un fs ex H (upd H x o) h h':=by
 have hx:∀ b,H b=none->b≠x:=fun b n z=>by subst z; rw[n] at mu; exact mu
 have hb:∀ b,H b=none->b≠e:=fun b n z=>by
  subst z
  rcases he with r | r
  ·exact hx b n r
  ·rw[n] at r; cases r
 have hm:∀ b u,H b=some u->¬ Mut (some u)->b≠x:=fun b u q nm z=>by subst z; rw[q] at mu; exact nm mu
 refine⟨fun b u q n _ _=>k b u (hb b n) q,fun b u q n _ _=>⟨u.slots,k b u (hb b n) q⟩,fun b u q n _=>by rw[ze (hx b n)]; exact n,fun b u q _=>?_,
  fun b xs q=>by rw[ze (hm b _ q fun z=>z)]; exact q,fun b u xs q=>by rw[ze (hm b _ q fun z=>z)]; exact q,fun b ps q=>⟨#[],by rw[ze (hm b _ q fun z=>z),q]; simp⟩⟩
 by_cases hbe:b=e
 ·subst hbe; exact heo
 ·exact⟨u,k b u hbe q⟩
end
noncomputable def trk (h:Heap) (H:Hp):List Addr:=(List.range h.objs.size).filter fun a=>(H a).isSome
noncomputable def wO (h:Heap) (H:Hp):Heap:=PySem.W.hideAll h (trk h H)
theorem yJ (h:Heap) (H:Hp):(wO h H).objs.size=h.objs.size:=PySem.W.hideAll_size _ _
theorem Y1 {h:Heap}{H:Hp}{b:Addr}{o:Obj}(e:h.get? b=some o) (n:H b=none):(wO h H).get? b=some o :=
 PySem.W.hideAll_get _ e fun hm=>by
  have q:(H b).isSome=true:=(List.mem_filter.mp hm).2
  rw[n] at q; simp at q
theorem zax {h:Heap}{H:Hp}{b:Addr}{o:Obj}(e:(wO h H).get? b=some o):h.get? b=some o/\H b=none:=by
 have e':h.get? b=some o:=PySem.W.of_hideAll (trk h H) e
 refine⟨e',?_⟩
 cases q:H b with
 | none=>rfl
 | some x=>
  have hm:b∈trk h H:=List.mem_filter.mpr ⟨List.mem_range.mpr (Heap.lt_size e'),by simp[q]⟩
  have z:(wO h H).get? b=none:=PySem.W.hideAll_none (trk h H) hm
  rw[z] at e; cases e
end L2
namespace L2
open PySem PySem.Spec PyProof.Rows
structure Mod (K:PySem.W.Frag) (mg:Str->Option Value) (base:Heap):Prop where
 kin:K.In base
 glob:base.Ns mainGlobals mg
 blt:∃ mb,base.Ns builtinsNs mb/\∀ x:Str,x≠ "__name__" ->mb x=bootBuiltins x
 nolimit:base.NoLimit
structure Cx where
 prog:Program
 w:World
 K:PySem.W.Frag
 mg:Str->Option Value
 base:Heap
 A:Around
 N:List Str
 s₀:Shared
 H₀:Hp
 env:Env
 outer:List Env
 stack:List Env
 ex:List Addr
 fn:Str->Bool
 calm:Bool
 pn:List (Addr×Obj)
 xe:Value->Shared->Prop
noncomputable def frs (l:List Env):List Addr:=l.filterMap (·.frame)
noncomputable abbrev Cx.fs (X:Cx):List Addr:=frs X.outer
noncomputable def Vis (sc:Scope) (x:Str):Prop:=sc.names.lookup x=some .local∨sc.names.lookup x=some .cell∨sc.names.lookup x=some .free
noncomputable def Loc (sc:Scope) (x:Str):Prop:=sc.names.lookup x=some .local∨sc.names.lookup x=some .cell
noncomputable def Look (env:Env) (h:Heap) (m:Str->Option Value) (x:Str) (u:Value):Prop :=
 (env.kindOf x=some .local/\m x=some u)∨((env.kindOf x=some .cell∨env.kindOf x=some .free)/\∃ c,env.cells.lookup x=some c/\h.IsCell c (some u))
structure Cx.Ok (X:Cx):Prop where
 mod:Mod X.K X.mg X.base
 kind:X.env.scope.kind=.function
 glob:X.env.globals=mainGlobals
 blt:X.env.builtins=builtinsNs
 above:X.s₀.heap.objs.size<=X.env.locals
 inj:∀ x y c,X.env.cells.lookup x=some c->X.env.cells.lookup y=some c->x=y
 has:∀ x,(X.env.kindOf x=some .cell∨X.env.kindOf x=some .free)->∃ c,X.env.cells.lookup x=some c
 cab:∀ x c,X.fn x=true->X.env.cells.lookup x=some c->X.s₀.heap.objs.size<=c
 hd:X.calm=true->X.A.handled=none
 frames:X.A.frames=some X.stack
 stk:X.stack=X.outer∨(X.stack=X.env::X.outer/\X.env.frame=some X.env.locals)
 exf:∀ b∈X.ex,b≠X.env.locals/\∀ x c,X.env.cells.lookup x=some c->c≠b
 bs:∀ b o,X.base.get? b=some o->X.s₀.heap.get? b=some o/\X.H₀ b=none
 bsz:X.base.objs.size<=X.s₀.heap.objs.size
 noex:∀ b o,X.base.get? b=some o->b∉X.ex
 exfs:∀ b∈X.ex,b∉X.fs
 funs:X.s₀.heap.FunFrames X.base X.outer
 frf:∀ b∈X.fs,X.H₀ b=none
structure Inv (X:Cx) (pins:List (Addr×Obj)) (σ:List (Option V)) (H:Hp) (s:Shared):Prop where
 ok:X.Ok
 os:s.os=X.s₀.os
 bare:AllBare s.gens
 base:Un X.fs X.ex X.H₀ H X.s₀.heap s.heap
 loc:∃ m,s.heap.Ns X.env.locals m/\∀ (i:Nat) (x:Str) (v:V),X.N[i]?=some x->σ[i]?=some (some v)->Vis X.env.scope x->∃ u,RelV v u/\Look X.env s.heap m x u
 cell:∀ x c,X.env.cells.lookup x=some c->∃ v,s.heap.IsCell c v
 free:H X.env.locals=none
 freeC:∀ x c,X.env.cells.lookup x=some c->H c=none
 pin:∀ p∈X.pn++pins,s.heap.get? p.1=some p.2/\H p.1=none/\p.1≠X.env.locals/\p.1∉X.fs/\∀ v,p.2.data≠ .cell v
 hok:HOk X.prog X.w H s.heap
 len:σ.length=X.N.length
section
variable {X:Cx} {pins:List (Addr×Obj)} {σ:List (Option V)} {H H':Hp} {s:Shared} {h':Heap}
theorem Cx.Ok.nofr (ok:X.Ok){b:Addr}{o:Obj}(e:X.base.get? b=some o):b∉X.fs:=fun hb=>by
 have:=(ok.funs.mem hb).1
 rw[e] at this; cases this
theorem Inv.bs (I:Inv X pins σ H s):∀ b o,X.base.get? b=some o->s.heap.get? b=some o/\H b=none:=fun b o e=>
 ⟨I.base.keep b o (I.ok.bs b o e).1 (I.ok.bs b o e).2 (I.ok.nofr e) (I.ok.noex b o e),I.base.free b o (I.ok.bs b o e).1 (I.ok.bs b o e).2 (I.ok.noex b o e)⟩
theorem Inv.bk (I:Inv X pins σ H s):∀ b o,X.base.get? b=some o->s.heap.get? b=some o:=fun b o e=>(I.bs b o e).1
theorem Inv.mod (I:Inv X pins σ H s):Mod X.K X.mg X.base:=I.ok.mod
theorem Inv.kIn (I:Inv X pins σ H s):X.K.In s.heap:=I.ok.mod.kin.keeps I.bk
theorem Inv.fr (I:Inv X pins σ H s):∃ m,Fr X.base X.env.locals s.heap m :=
 let ⟨m,hn,_⟩:=I.loc
 ⟨m,hn,I.bk,Nat.le_trans I.ok.bsz I.ok.above⟩
theorem Inv.lt (I:Inv X pins σ H s):X.env.locals<s.heap.objs.size:=let ⟨_,hn,_⟩:=I.loc; hn.lt
theorem Inv.sz (I:Inv X pins σ H s):X.s₀.heap.objs.size<=s.heap.objs.size:=Nat.le_trans I.ok.above (Nat.le_of_lt I.lt)
theorem Inv.nofs (I:Inv X pins σ H s){a:Addr}(h:s.heap.objs.size<=a):a∉X.fs:=fun hb=>by
 obtain⟨_,o,ho,_⟩:=I.ok.funs.mem hb
 exact absurd (Nat.lt_of_lt_of_le (Heap.lt_size ho) (Nat.le_trans I.sz h)) (Nat.lt_irrefl _)
theorem Inv.cne (I:Inv X pins σ H s):∀ x c,X.env.cells.lookup x=some c->c≠X.env.locals:=fun x c e z=>by
 obtain⟨v,o,ho,hd⟩:=I.cell x c e
 obtain⟨m,⟨o',es,ep,ho',hd',_⟩,_⟩:=I.loc
 rw[z,ho'] at ho; cases ho; rw[hd'] at hd; cases hd
theorem Inv.funs (I:Inv X pins σ H s):s.heap.FunFrames X.base X.outer:=by
 have all:∀ (l:List Env),(∀ b∈frs l,b∈X.fs)->X.s₀.heap.FunFrames X.base l->s.heap.FunFrames X.base l:=by
  intro l
  induction l with
  | nil=>intro _ _; trivial
  | cons env r ih=>
   intro hs hl
   obtain⟨hk,⟨L,o,hf,hn,ho,hd⟩,hr⟩:=hl
   have hL:L∈X.fs:=hs L (by unfold frs; rw[List.filterMap_cons,hf]; exact List.mem_cons_self)
   obtain⟨sl,e⟩:=I.base.slot L o ho (I.ok.frf L hL) hL fun z=>I.ok.exfs L z hL
   exact⟨hk,⟨L,_,hf,hn,e,hd⟩,ih (fun b hb=>hs b (by unfold frs; rw[List.filterMap_cons,hf]; exact List.mem_cons_of_mem _ hb)) hr⟩
 exact all X.outer (fun _ hb=>hb) I.ok.funs
theorem Inv.stack (I:Inv X pins σ H s):s.heap.FunFrames X.base X.stack:=by
 rcases I.ok.stk with e | ⟨e,hf⟩
 ·rw[e]; exact I.funs
 ·rw[e]
  obtain⟨m,hn,_⟩:=I.loc
  refine .cons (by rw[I.ok.kind]; decide) hf hn ?_ I.funs
  exact Heap.get?_none_of_le (Nat.le_trans I.ok.bsz I.ok.above)
theorem Inv.stkSub (I:Inv X pins σ H s):∀ b∈frs X.stack,b∈X.env.locals::X.fs:=fun b hb=>by
 rcases I.ok.stk with e | ⟨e,hf⟩
 ·rw[e] at hb; exact List.mem_cons_of_mem _ hb
 ·rw[e] at hb
  unfold frs at hb
  rw[List.filterMap_cons,hf] at hb
  exact hb
theorem Inv.stkFree (I:Inv X pins σ H s):∀ b∈frs X.stack,H b=none:=fun b hb=>by
 rcases List.mem_cons.mp (I.stkSub b hb) with e | hb
 ·rw[e]; exact I.free
 ·obtain⟨_,o,ho,_⟩:=I.ok.funs.mem hb
  exact I.base.free b o ho (I.ok.frf b hb) fun z=>I.ok.exfs b z hb
theorem Inv.step {g':Array GenState}{t':Nat}{d':Drawn}{ch:List Addr}(I:Inv X pins σ H s)
  (hch:∀ b∈ch,(b∈X.ex∨X.s₀.heap.objs.size<=b)/\b≠X.env.locals/\(∀ x c,X.env.cells.lookup x=some c->c≠b)/\∀ p∈X.pn++pins,p.1≠b)
  (keep:∀ b o,b≠X.env.locals->b∉X.fs->b∉ch->s.heap.get? b=some o->H b=none->h'.get? b=some o)
  (slot:∀ b o,b≠X.env.locals->b∈X.fs->b∉ch->s.heap.get? b=some o->H b=none->∃ sl,h'.get? b=some { o with slots:=sl }) (free:∀ b o,b∉ch->s.heap.get? b=some o->H b=none->H' b=none)
  (there:∀ b o,b∉ch->s.heap.get? b=some o->∃ o',h'.get? b=some o')
  (tups:∀ b xs,H b=some (.tup xs)->H' b=some (.tup xs)) (frzs:∀ b o u,H b=some (.frz o u)->H' b=some (.frz o u)) (tbls:∀ b ps,H b=some (.tbl ps)->∃ more,H' b=some (.tbl (ps++more)))
  (ns:∀ m,s.heap.Ns X.env.locals m->h'.Ns X.env.locals m) (hok:HOk X.prog X.w H' h') (hg:AllBare g') :
  Inv X pins σ H' { s with heap:=h',gens:=g',drawn:=d',toks:=t' }:=by
 have neL:∀ b o,X.s₀.heap.get? b=some o->b≠X.env.locals:=fun b o e=>Nat.ne_of_lt (Nat.lt_of_lt_of_le (Heap.lt_size e) I.ok.above)
 have neC:∀ b o,X.s₀.heap.get? b=some o->b∉X.ex->b∉ch:=fun b o e hx hb=>by
  rcases (hch b hb).1 with z | z
  ·exact hx z
  ·exact absurd (Nat.lt_of_lt_of_le (Heap.lt_size e) z) (Nat.lt_irrefl _)
 have cellK:∀ x c,X.env.cells.lookup x=some c->∀ v,s.heap.IsCell c v->h'.IsCell c v:=fun x c e v ⟨o,ho,hd⟩=>by
  have nch:c∉ch:=fun z=>(hch c z).2.2.1 x c e rfl
  by_cases hc:c∈X.fs
  ·obtain⟨sl,q⟩:=slot c o (I.cne x c e) hc nch ho (I.freeC x c e)
   exact⟨_,q,hd⟩
  ·exact⟨o,keep c o (I.cne x c e) hc nch ho (I.freeC x c e),hd⟩
 refine⟨I.ok,I.os,hg,⟨fun b o e n hb hx=>?_,fun b o e n hb hx=>?_,fun b o e n hx=>?_,fun b o e hx=>?_,fun b xs e=>tups b xs (I.base.tups b xs e),fun b o xs e=>frzs b o xs (I.base.frzs b o xs e),fun b ps e=>?_⟩,?_,fun x c e=>?_,?_,fun x c e=>?_,fun p hp=>?_,hok,I.len⟩
 ·exact keep b o (neL b o e) hb (neC b o e hx) (I.base.keep b o e n hb hx) (I.base.free b o e n hx)
 ·obtain⟨sl,e1⟩:=I.base.slot b o e n hb hx
  obtain⟨sl',e2⟩:=slot b _ (neL b o e) hb (neC b o e hx) e1 (I.base.free b o e n hx)
  exact⟨sl',e2⟩
 ·obtain⟨o',e1⟩:=I.base.there b o e hx
  exact free b o' (neC b o e hx) e1 (I.base.free b o e n hx)
 ·obtain⟨o',e1⟩:=I.base.there b o e hx
  exact there b o' (neC b o e hx) e1
 ·obtain⟨m1,e1⟩:=I.base.tbls b ps e
  obtain⟨m2,e2⟩:=tbls b _ e1
  exact⟨m1++m2,by rw[e2,Array.append_assoc]⟩
 ·obtain⟨m,hn,hl⟩:=I.loc
  refine⟨m,ns m hn,fun i x v e1 e2 e3=>?_⟩
  obtain⟨u,r,l⟩:=hl i x v e1 e2 e3
  refine⟨u,r,?_⟩
  rcases l with l | ⟨k,c,e,z⟩
  ·exact .inl l
  ·exact .inr ⟨k,c,e,cellK x c e _ z⟩
 ·obtain⟨v,z⟩:=I.cell x c e
  exact⟨v,cellK x c e v z⟩
 ·obtain⟨m,⟨o,_,_,ho,_⟩,_⟩:=I.loc
  exact free _ o (fun z=>(hch _ z).2.1 rfl) ho I.free
 ·obtain⟨v,o,ho,hd⟩:=I.cell x c e
  exact free c o (fun z=>(hch c z).2.2.1 x c e rfl) ho (I.freeC x c e)
 ·obtain⟨e,n,ne,nf,d⟩:=I.pin p hp
  have nch:p.1∉ch:=fun z=>(hch p.1 z).2.2.2 p hp rfl
  exact⟨keep p.1 p.2 ne nf nch e n,free p.1 p.2 nch e n,ne,nf,d⟩
theorem Inv.un {t':Nat}(I:Inv X pins σ H s) (u:Un X.fs [] H H' s.heap h') (hok:HOk X.prog X.w H' h'):Inv X pins σ H' { s with heap:=h',toks:=t' }:=by
 obtain⟨m,⟨o,es,ep,ho,r⟩,_⟩:=id I.loc
 obtain⟨sl,hL⟩:=u.any ho I.free (by simp)
 exact I.step (g':=s.gens) (d':=s.drawn) (ch:= []) (fun _ z=>nomatch z) (fun b o _ hb _ e n=>u.keep b o e n hb (by simp)) (fun b o _ hb _ e n=>u.slot b o e n hb (by simp)) (fun b o _ e n=>u.free b o e n (by simp)) (fun b o _ e=>u.there b o e (by simp)) u.tups u.frzs u.tbls (fun m' hm=>by
  obtain⟨o',es',ep',ho',r'⟩:=hm
  rw[ho] at ho'; cases ho'
  exact⟨_,es',ep',hL,r'⟩) hok I.bare
theorem Inv.call {g':Array GenState}{t':Nat}{d':Drawn}{ch:List Addr}(I:Inv X pins σ H s) (u:Un (frs X.stack) ch H H' s.heap h') (hok:HOk X.prog X.w H' h') (hg:AllBare g')
  (hch:∀ b∈ch,(b∈X.ex∨X.s₀.heap.objs.size<=b)/\b≠X.env.locals/\(∀ x c,X.env.cells.lookup x=some c->c≠b)/\∀ p∈X.pn++pins,p.1≠b) :
  Inv X pins σ H' { s with heap:=h',gens:=g',drawn:=d',toks:=t' }:=by
 obtain⟨m,⟨o,es,ep,ho,r⟩,_⟩:=id I.loc
 obtain⟨sl,hL⟩:=u.any ho I.free fun z=>(hch _ z).2.1 rfl
 exact I.step (ch:=ch) hch (fun b o hL hb hc e n=>u.keep b o e n (fun z=>(List.mem_cons.mp (I.stkSub b z)).elim hL hb) hc) (fun b o _ _ hc e n=>u.any e n hc) (fun b o hc e n=>u.free b o e n hc) (fun b o hc e=>u.there b o e hc) u.tups u.frzs u.tbls (fun m' hm=>by
  obtain⟨o',es',ep',ho',r'⟩:=hm
  rw[ho] at ho'; cases ho'
  exact⟨_,es',ep',hL,r'⟩) hok hg
theorem Inv.turned {t':Nat}{it:Addr}(I:Inv X pins σ H s) (k:∀ b o,b≠it->s.heap.get? b=some o->h'.get? b=some o) (hn:H it=none) (hL:it≠X.env.locals)
  (h1:it∈X.ex∨X.s₀.heap.objs.size<=it) (h2:∀ x c,X.env.cells.lookup x=some c->c≠it) (h3:∀ p∈X.pn++pins,p.1≠it):Inv X pins σ H { s with heap:=h',toks:=t' }:=by
 have nit:∀ b u,H b=some u->b≠it:=fun b u e z=>by rw[z,hn] at e; cases e
 refine I.step (g':=s.gens) (d':=s.drawn) (ch:= [it]) (fun b hb=>?_) (fun b o _ _ hc e _=>k b o (fun z=>hc (by simp[z])) e) (fun b o _ _ hc e _=>⟨o.slots,k b o (fun z=>hc (by simp[z])) e⟩) (fun _ _ _ _ n=>n)
  (fun b o hc e=>⟨o,k b o (fun z=>hc (by simp[z])) e⟩) (fun _ _ e=>e) (fun _ _ _ e=>e) (fun b ps e=>⟨#[],by rw[e]; simp⟩) (fun m hm=>?_) (fun b u e=>?_) I.bare
 ·have e:b=it:=by simpa using hb
  subst e
  exact⟨h1,hL,h2,h3⟩
 ·obtain⟨o,es,ep,ho,r⟩:=hm
  exact⟨o,es,ep,k _ o (Ne.symm hL) ho,r⟩
 ·refine (I.hok b u e).stay (fun c v hc q=>k c v ?_ q) (fun _ q=>q) fun _ _ q=>q
  rcases hc with z | z
  ·rw[z]; exact nit b u e
  ·exact nit c _ z
theorem Inv.tok (I:Inv X pins σ H s) (t:Nat):Inv X pins σ H { s with toks:=t }:=I.un (h':=s.heap) (t':=t) Un.refl I.hok
theorem Inv.kept {t':Nat}(I:Inv X pins σ H s) (k:∀ b u,s.heap.get? b=some u->h'.get? b=some u):Inv X pins σ H { s with heap:=h',toks:=t' }:=I.un (Un.kept k) (I.hok.kept k)
theorem Inv.laid {a:Addr}{o:HO}{t':Nat}(I:Inv X pins σ H s) (k:∀ b u,s.heap.get? b=some u->h'.get? b=some u) (hp:s.heap.objs.size<=a) (new:ObjOk X.prog X.w (upd H a o) h' a o) :
  Inv X pins σ (upd H a o) { s with heap:=h',toks:=t' }:=I.un (Un.laid k hp (I.hok.fresh hp)) (I.hok.laid k hp new)
theorem Inv.write {x e:Addr}{o:HO}{t':Nat}(I:Inv X pins σ H s) (mu:Mut (H x)) (he:e=x∨H e=some (.own x)) (k:∀ b u,b≠e->s.heap.get? b=some u->h'.get? b=some u) (heo:∃ u,h'.get? e=some u)
  (new:ObjOk X.prog X.w (upd H x o) h' x o):Inv X pins σ (upd H x o) { s with heap:=h',toks:=t' }:=I.un (Un.write mu he k heo) (I.hok.write mu he k heo new)
theorem Inv.weak {σ':List (Option V)}(I:Inv X pins σ H s) (hl:σ'.length=σ.length) (w:∀ (i:Nat) v,σ'[i]?=some (some v)->σ[i]?=some (some v)):Inv X pins σ' H s :=
 ⟨I.ok,I.os,I.bare,I.base,let ⟨m,hn,hl'⟩:=I.loc; ⟨m,hn,fun i x v e1 e2 e3=>hl' i x v e1 (w i v e2) e3⟩,I.cell,I.free,I.freeC,I.pin,I.hok,hl.trans I.len⟩
theorem Inv.pins_of {pins':List (Addr×Obj)}(I:Inv X pins σ H s) (h:∀ p∈pins',s.heap.get? p.1=some p.2/\H p.1=none/\p.1≠X.env.locals/\p.1∉X.fs/\∀ v,p.2.data≠ .cell v):Inv X pins' σ H s :=
 ⟨I.ok,I.os,I.bare,I.base,I.loc,I.cell,I.free,I.freeC,fun p hp=>(List.mem_append.mp hp).elim (fun z=>I.pin p (List.mem_append_left _ z)) (h p),I.hok,I.len⟩
theorem W3 {N:List Str}(hN:N.Nodup){i j:Nat}{x:Str}(a:N[i]?=some x) (b:N[j]?=some x):i=j:=by
 obtain⟨h1,e1⟩:=List.getElem?_eq_some_iff.mp a
 obtain⟨h2,e2⟩:=List.getElem?_eq_some_iff.mp b
 exact (List.getElem_inj hN).mp (e1.trans e2.symm)
theorem ZM {M:Model}{A:Around}{E:Value->Shared->Prop}{i:Nat}{x:Str}{v:V}{u:Value}{Q:Unit->Shared->Prop}(I:Inv X pins σ H s) (hN:X.N.Nodup) (hi:X.N[i]?=some x) (hx:Loc X.env.scope x) (r:RelV v u)
  (h:∀ s',Inv X pins (σ.set i (some v)) H s'->(∃ a,Heap.SameBut a s.heap s'.heap/\(a=X.env.locals∨X.env.cells.lookup x=some a))->Q () s') (hf:X.fn x=true∨X.env.scope.names.lookup x=some .local:=by first | exact .inl rfl | exact .inr rfl | assumption):wpAny M A (storeName X.env x u) Q E s:=by
 obtain⟨m,hn,hl⟩:=id I.loc
 have hcls:(X.env.scope.kind==.class||(X.env.scope.kind==.module&&X.env.locals !=X.env.globals))=false:=by rw[I.ok.kind]; rfl
 have hiσ:i<σ.length:=by rw[I.len]; exact (List.getElem?_eq_some_iff.mp hi).1
 have cne:=I.cne
 have tracked:∀ {a:Addr} {h':Heap},(∃ o,s.heap.get? a=some o/\H a=none)->Heap.SameBut a s.heap h'->HOk X.prog X.w H h':=fun {a h'} ha hs b ob e=>by
  obtain⟨_,_,hfree⟩:=ha
  refine (I.hok b ob e).stay (fun c w' hc q=>(hs.2 c ?_).trans q) (fun _ q=>q) fun _ _ q=>q
  rintro rfl
  rcases hc with rfl | hc
  ·rw[hfree] at e; cases e
  ·rw[hfree] at hc; cases hc
 rcases hx with hk | hk
 ·refine wpAny_storeName_local hk hn (fun h' hn' hs=>?_) hcls
  obtain⟨oL,_,_,hoL,_⟩:=id hn
  refine h _ ⟨I.ok,I.os,I.bare,⟨fun b o e n hb hx=>?_,fun b o e n hb hx=>?_,I.base.free,fun b o e hx=>?_,I.base.tups,I.base.frzs,I.base.tbls⟩,⟨_,hn',fun j y v' e1 e2 e3=>?_⟩,fun y c e=>?_,I.free,I.freeC,fun p hp=>?_,tracked ⟨oL,hoL,I.free⟩ hs,by simpa using I.len⟩ ⟨_,hs,.inl rfl⟩
  ·exact (hs.2 b (Nat.ne_of_lt (Nat.lt_of_lt_of_le (Heap.lt_size e) I.ok.above))).trans (I.base.keep b o e n hb hx)
  ·obtain⟨sl,e1⟩:=I.base.slot b o e n hb hx
   exact⟨sl,(hs.2 b (Nat.ne_of_lt (Nat.lt_of_lt_of_le (Heap.lt_size e) I.ok.above))).trans e1⟩
  ·obtain⟨o',e1⟩:=I.base.there b o e hx
   exact⟨o',(hs.2 b (Nat.ne_of_lt (Nat.lt_of_lt_of_le (Heap.lt_size e) I.ok.above))).trans e1⟩
  ·by_cases hj:j=i
   ·subst hj
    rw[hi] at e1; cases e1
    rw[List.getElem?_set_self hiσ] at e2
    cases e2
    exact⟨u,r,.inl ⟨hk,by simp⟩⟩
   ·rw[List.getElem?_set_ne (Ne.symm hj)] at e2
    obtain⟨u',r',q⟩:=hl j y v' e1 e2 e3
    refine⟨u',r',?_⟩
    rcases q with ⟨k,e⟩ | ⟨k,c,e,z⟩
    ·refine .inl ⟨k,?_⟩
     have:y≠x:=fun e=>hj (W3 hN e1 (e ▸ hi))
     simp[this,e]
    ·exact .inr ⟨k,c,e,z.sameBut hs (cne y c e)⟩
  ·obtain⟨w',z⟩:=I.cell y c e
   exact⟨w',z.sameBut hs (cne y c e)⟩
  ·obtain⟨e,n,ne,nf,d⟩:=I.pin p hp
   exact⟨(hs.2 p.1 ne).trans e,n,ne,nf,d⟩
 ·have hfn:X.fn x=true:=by
   rcases hf with z | z
   ·exact z
   ·rw[z] at hk; cases hk
  obtain⟨c,hc⟩:=I.ok.has x (.inl hk)
  obtain⟨w',z⟩:=I.cell x c hc
  refine wpAny_storeName_cell I.ok.kind hk hc z (fun h' hc' hs=>?_)
  obtain⟨oc,hoc,hocd⟩:=id z
  refine h { s with heap:=h' } ⟨I.ok,I.os,I.bare,⟨fun b o e n hb hx=>?_,fun b o e n hb hx=>?_,I.base.free,fun b o e hx=>?_,I.base.tups,I.base.frzs,I.base.tbls⟩,⟨m,hn.sameBut hs (Ne.symm (cne x c hc)),fun j y v' e1 e2 e3=>?_⟩,fun y c' e=>?_,I.free,I.freeC,fun p hp=>?_,tracked ⟨oc,hoc,I.freeC x c hc⟩ hs,by simpa using I.len⟩ ⟨c,hs,.inr hc⟩
  ·exact (hs.2 b (Nat.ne_of_lt (Nat.lt_of_lt_of_le (Heap.lt_size e) (I.ok.cab x c hfn hc)))).trans (I.base.keep b o e n hb hx)
  ·obtain⟨sl,e1⟩:=I.base.slot b o e n hb hx
   exact⟨sl,(hs.2 b (Nat.ne_of_lt (Nat.lt_of_lt_of_le (Heap.lt_size e) (I.ok.cab x c hfn hc)))).trans e1⟩
  ·obtain⟨o',e1⟩:=I.base.there b o e hx
   exact⟨o',(hs.2 b (Nat.ne_of_lt (Nat.lt_of_lt_of_le (Heap.lt_size e) (I.ok.cab x c hfn hc)))).trans e1⟩
  ·by_cases hj:j=i
   ·subst hj
    rw[hi] at e1; cases e1
    rw[List.getElem?_set_self hiσ] at e2
    cases e2
    exact⟨u,r,.inr ⟨.inl hk,c,hc,hc'⟩⟩
   ·rw[List.getElem?_set_ne (Ne.symm hj)] at e2
    obtain⟨u',r',q⟩:=hl j y v' e1 e2 e3
    refine⟨u',r',?_⟩
    rcases q with q | ⟨k,c',e,z'⟩
    ·exact .inl q
    ·refine .inr ⟨k,c',e,z'.sameBut hs ?_⟩
     rintro rfl
     exact hj (W3 hN e1 (I.ok.inj _ _ _ e hc ▸ hi))
  ·by_cases hcc:c'=c
   ·subst hcc; exact⟨_,hc'⟩
   ·obtain⟨w2,z2⟩:=I.cell y c' e
    exact⟨w2,z2.sameBut hs hcc⟩
  ·obtain⟨e,n,ne,nf,d⟩:=I.pin p hp
   refine⟨(hs.2 p.1 ?_).trans e,n,ne,nf,d⟩
   intro q
   rw[q,hoc] at e
   have q':oc=p.2:=Option.some.inj e
   exact d w' (by rw[<- q']; exact hocd)
theorem vh {M:Model}{A:Around}{E:Value->Shared->Prop}{i:Nat}{x:Str}{v:V}{u:Value}{Q:Unit->Shared->Prop}(I:Inv X pins σ H s) (hN:X.N.Nodup) (hi:X.N[i]?=some x) (hx:Loc X.env.scope x) (r:RelV v u)
  (h:∀ s',Inv X pins (σ.set i (some v)) H s'->Q () s') (hf:X.fn x=true∨X.env.scope.names.lookup x=some .local:=by first | exact .inl rfl | exact .inr rfl | assumption):wpAny M A (storeName X.env x u) Q E s :=
 ZM I hN hi hx r (fun s' I' _=>h s' I') hf
theorem Inv.call' {s':Shared}{ch:List Addr}(I:Inv X pins σ H s) (ho:s'.os=s.os) (u:Un (frs X.stack) ch H H' s.heap s'.heap) (hok:HOk X.prog X.w H' s'.heap) (hg:AllBare s'.gens)
  (hch:∀ b∈ch,(b∈X.ex∨X.s₀.heap.objs.size<=b)/\b≠X.env.locals/\(∀ x c,X.env.cells.lookup x=some c->c≠b)/\∀ p∈X.pn++pins,p.1≠b):Inv X pins σ H' s':=by
 obtain⟨h',g',d',t',o'⟩:=s'
 have e:o'=s.os:=ho
 subst e
 exact I.call (g':=g') (t':=t') (d':=d') u hok hg hch
end
noncomputable abbrev XK:=Value->Option Addr->Hp->Prop
noncomputable abbrev St:=List (Option V)
noncomputable abbrev VK:=V->Hp->Prop
noncomputable abbrev TE:=St->Hp->VK->Prop
noncomputable abbrev TT:=St->Hp->(Bool->Hp->Prop)->Prop
noncomputable abbrev TA:=St->Hp->(List V->Hp->Prop)->Prop
structure qy where
 nx:St->Hp->Prop
 rt:VK
 bk:St->Hp->Prop:=fun _ _=>False
 ct:St->Hp->Prop:=fun _ _=>False
noncomputable abbrev TS:=qy->St->Hp->Prop
noncomputable def EP (X:Cx) (pins:List (Addr×Obj)) (σ:St) (Q:VK) (u:Value) (s':Shared):Prop:=∃ v H',Inv X pins σ H' s'/\RelV v u/\Q v H'
noncomputable def TP (X:Cx) (pins:List (Addr×Obj)) (σ:St) (Q:Bool->Hp->Prop) (b:Bool) (s':Shared):Prop:=∃ H',Inv X pins σ H' s'/\Q b H'
noncomputable def AP (X:Cx) (pins:List (Addr×Obj)) (σ:St) (Q:List V->Hp->Prop) (us:List Value) (s':Shared):Prop:=∃ vs H',Inv X pins σ H' s'/\Vals vs us/\Q vs H'
noncomputable def SP (X:Cx) (pins:List (Addr×Obj)) (D:qy) (f:Flow) (s':Shared):Prop :=
 match f with
 | .next=>∃ σ' H',Inv X pins σ' H' s'/\D.nx σ' H'
 | .brk=>∃ σ' H',Inv X pins σ' H' s'/\D.bk σ' H'
 | .cont=>∃ σ' H',Inv X pins σ' H' s'/\D.ct σ' H'
 | .ret u=>∃ v σ' H',Inv X pins σ' H' s'/\RelV v u/\D.rt v H'
noncomputable def PE (X:Cx) (e:Expr) (t:TE):Prop :=
 ∀ (pins:List (Addr×Obj)) (s:Shared) (σ:St) (H:Hp) (Q:VK),Inv X pins σ H s->t σ H Q->wpAny (model X.prog X.w) X.A (eval e X.env) (EP X pins σ Q) X.xe s
noncomputable def PT (X:Cx) (e:Expr) (t:TT):Prop :=
 ∀ (pins:List (Addr×Obj)) (s:Shared) (σ:St) (H:Hp) (Q:Bool->Hp->Prop),Inv X pins σ H s->t σ H Q->wpAny (model X.prog X.w) X.A (isTrue e X.env (eval e X.env)) (TP X pins σ Q) X.xe s
noncomputable def PW (X:Cx) (e:Expr) (t:TT):Prop :=
 ∀ (whole:Sem Value) (pins:List (Addr×Obj)) (s:Shared) (σ:St) (H:Hp) (Q:Bool->Hp->Prop),Inv X pins σ H s->t σ H Q->wpAny (model X.prog X.w) X.A (isTrue e X.env whole) (TP X pins σ Q) X.xe s
noncomputable def PA (X:Cx) (es:List Expr) (t:TA):Prop :=
 ∀ (pos:Pos) (pins:List (Addr×Obj)) (s:Shared) (σ:St) (H:Hp) (Q:List V->Hp->Prop),Inv X pins σ H s->t σ H Q->wpAny (model X.prog X.w) X.A (spliced (backTo pos (starEach es X.env))) (AP X pins σ Q) X.xe s
noncomputable def PS (X:Cx) (st:Stmt) (t:TS):Prop :=
 ∀ (pins:List (Addr×Obj)) (s:Shared) (σ:St) (H:Hp) (D:qy),Inv X pins σ H s->t D σ H->wpAny (model X.prog X.w) X.A (exec st X.env) (SP X pins D) X.xe s
noncomputable def PSs (X:Cx) (st:List Stmt) (t:TS):Prop :=
 ∀ (pins:List (Addr×Obj)) (s:Shared) (σ:St) (H:Hp) (D:qy),Inv X pins σ H s->t D σ H->wpAny (model X.prog X.w) X.A (execs st X.env) (SP X pins D) X.xe s
theorem thn {α:Type}{t:Sem α}{Q Q':α->Shared->Prop}{M:Model}{A:Around}{E:Value->Shared->Prop}{s:Shared}(h:wpAny M A t Q E s) (hQ:∀ a s,Q a s->Q' a s):wpAny M A t Q' E s:=wpAny_mono h hQ fun _ _ x=>x
end L2
namespace L2
open PySem PySem.Spec PyProof.Rows
section
variable {X:Cx}
theorem bin {a b:Expr}{ta tb:TE}(ha:PE X a ta) (hb:PE X b tb){pins:List (Addr×Obj)}{s:Shared}{σ:St}{H:Hp}{R:V->V->Hp->Prop}(I:Inv X pins σ H s) (h:ta σ H fun x H1=>tb σ H1 fun y H2=>R x y H2)
  {α:Type} {Q:α->Shared->Prop} {f:Value->Value->Sem α}
  (hf:∀ v u s2 x y H2,Inv X pins σ H2 s2->RelV x v->RelV y u->R x y H2->wpAny (model X.prog X.w) X.A (f v u) Q X.xe s2) :
  wpAny (model X.prog X.w) X.A (eval a X.env) (fun v s₁=>wpAny (model X.prog X.w) X.A (eval b X.env) (fun u s₂=>wpAny (model X.prog X.w) X.A (f v u) Q X.xe s₂) X.xe s₁) X.xe s:=by
 refine thn (ha pins s σ H _ I h) fun v s1 ⟨x,H1,I1,r1,q1⟩=>?_
 refine thn (hb pins s1 σ H1 _ I1 q1) fun u s2 ⟨y,H2,I2,r2,q2⟩=>?_
 exact hf v u s2 x y H2 I2 r1 r2 q2
noncomputable def zeQ (i:Nat):TE:=fun σ H Q=>∃ v,σ[i]?=some (some v)/\Q v H
noncomputable def tC (v:V):TE:=fun _ H Q=>Q v H
theorem qq {i:Nat}{x:Str}{pos:Pos}(hN:X.N[i]?=some x) (hv:Vis X.env.scope x) (hd:(x==("__debug__" :Str))=false:=by decide) (hcd:(x==("__classdict__" :Str))=false:=by decide):PE X (.Name x pos) (zeQ i):=by
 intro pins s σ H Q I h
 obtain⟨v,e,h⟩:=h
 obtain⟨m,hn,hl⟩:=I.loc
 obtain⟨u,r,l⟩:=hl i x v hN e hv
 have fin:EP X pins σ Q u s:=⟨v,H,I,r,h⟩
 rcases l with ⟨hk,hm⟩ | ⟨hk,c,hc,hcell⟩
 ·exact wpAny_Name (wpAny_loadName_local I.ok.kind hk hn hm fin) hd
 ·rcases hk with hk | hk
  ·exact wpAny_Name (wpAny_loadName_cell I.ok.kind hk hc hcell fin) hd
  ·exact wpAny_Name (wpAny_loadName_free I.ok.kind hk hc hcell fin hcd) hd
theorem pe_int {i j pos}:PE X (.Constant (.int i) j pos) (tC (.int i)):=fun _ _ _ H _ I h=>wpAny_Constant_int ⟨.int i,H,I.tok _,⟨_,rfl⟩,h⟩
theorem pe_bl {b j pos}:PE X (.Constant (.bool b) j pos) (tC (.bl b)):=fun _ _ _ H _ I h=>Constant_bool ⟨.bl b,H,I,rfl,h⟩
theorem pe_non {j pos}:PE X (.Constant .none j pos) (tC .non):=fun _ _ _ H _ I h=>Constant_none ⟨.non,H,I,rfl,h⟩
noncomputable def Gl (X:Cx) (x:Str):Prop:=X.env.kindOf x=some .globalImplicit
theorem Z8 {E:Value->Shared->Prop}{pins:List (Addr×Obj)}{s:Shared}{σ:St}{H:Hp}{x:Str}{u:Value}{pos:Pos}{Q:Value->Shared->Prop}(I:Inv X pins σ H s) (hg:Gl X x) (hm:X.mg x=some u) (h:Q u s)
  (hd:(x==("__debug__" :Str))=false:=by decide):wpAny (model X.prog X.w) X.A (eval (.Name x pos) X.env) Q E s :=
 Calls.Name_function_global I.ok.kind hg (Calls.loadGlobal_global (by rw[I.ok.glob]; exact I.mod.glob.keeps I.bk) hm h) hd
theorem jQ {E:Value->Shared->Prop}{pins:List (Addr×Obj)}{s:Shared}{σ:St}{H:Hp}{x:Str}{u:Value}{pos:Pos}{Q:Value->Shared->Prop}(I:Inv X pins σ H s) (hg:Gl X x) (hm:X.mg x=none) (hv:bootBuiltins x=some u) (h:Q u s)
  (hn:x≠ "__name__" :=by decide) (hd:(x==("__debug__" :Str))=false:=by decide):wpAny (model X.prog X.w) X.A (eval (.Name x pos) X.env) Q E s:=by
 obtain⟨mb,h1,h2⟩:=I.mod.blt
 exact Calls.Name_function_global I.ok.kind hg (Calls.loadGlobal_builtin (by rw[I.ok.glob]; exact I.mod.glob.keeps I.bk) hm (by rw[I.ok.blt]; exact h1.keeps I.bk) ((h2 x hn).trans hv) h) hd
theorem zaG {x:Str}{v:V}{u:Value}{pos:Pos}(hg:Gl X x) (hm:X.mg x=some u) (r:RelV v u) (hd:(x==("__debug__" :Str))=false:=by decide):PE X (.Name x pos) (tC v) :=
 fun _ _ _ H _ I h=>Z8 I hg hm ⟨v,H,I,r,h⟩ hd
theorem zaC {x:Str}{v:V}{u:Value}{pos:Pos}(hg:Gl X x) (hm:X.mg x=none) (hv:bootBuiltins x=some u) (r:RelV v u) (hn:x≠ "__name__" :=by decide) (hd:(x==("__debug__" :Str))=false:=by decide):PE X (.Name x pos) (tC v) :=
 fun _ _ _ H _ I h=>jQ I hg hm hv ⟨v,H,I,r,h⟩ hn hd
variable {a b:Expr} {ta tb:TE} {pos:Pos}
variable {tA tB':TT} {rest:List Expr}
noncomputable def tAnd (t u:TT):TT:=fun σ H Q=>t σ H fun c H1=>if c=true then u σ H1 Q else Q false H1
noncomputable def tOr (t u:TT):TT:=fun σ H Q=>t σ H fun c H1=>if c=true then Q true H1 else u σ H1 Q
noncomputable def tNot (t:TT):TT:=fun σ H Q=>t σ H fun c H1=>Q (!c) H1
theorem zaO (ha:PT X a tA):PW X (.BoolOp .And [a] pos) tA:=by
 intro wh pins s σ H Q I h
 refine isTrue_and (thn (ha pins s σ H Q I h) fun c s1 e=>?_)
 cases c with
 | true=>exact isTrue_and_nil e
 | false=>exact e
theorem zc2 (ha:PT X a tA):PW X (.BoolOp .Or [a] pos) tA:=by
 intro wh pins s σ H Q I h
 refine isTrue_or (thn (ha pins s σ H Q I h) fun c s1 e=>?_)
 cases c with
 | false=>exact isTrue_or_nil e
 | true=>exact e
theorem zc1 (ha:PT X a tA) (hb:PW X (.BoolOp .And (b::rest) pos) tB'):PW X (.BoolOp .And (a::b::rest) pos) (tAnd tA tB'):=by
 intro wh pins s σ H Q I h
 refine isTrue_and (thn (ha pins s σ H _ I h) fun c s1 ⟨H1,I1,q1⟩=>?_)
 cases c with
 | true=>exact hb wh pins s1 σ H1 Q I1 q1
 | false=>exact⟨H1,I1,q1⟩
theorem zet (ha:PT X a tA) (hb:PW X (.BoolOp .Or (b::rest) pos) tB'):PW X (.BoolOp .Or (a::b::rest) pos) (tOr tA tB'):=by
 intro wh pins s σ H Q I h
 refine isTrue_or (thn (ha pins s σ H _ I h) fun c s1 ⟨H1,I1,q1⟩=>?_)
 cases c with
 | true=>exact⟨H1,I1,q1⟩
 | false=>exact hb wh pins s1 σ H1 Q I1 q1
theorem zcZ (ha:PT X a tA):PT X (.UnaryOp .Not a pos) (tNot tA):=by
 intro pins s σ H Q I h
 exact isTrue_not (ha pins s σ H (fun c H1=>Q (!c) H1) I h)
noncomputable def zeL (ta tb:TE):TE:=fun σ H Q=>ta σ H fun x H1=>∃ c,x=.bl c/\if c=true then tb σ H1 Q else Q (.bl false) H1
noncomputable def tOrV (ta tb:TE):TE:=fun σ H Q=>ta σ H fun x H1=>∃ c,x=.bl c/\if c=true then Q (.bl true) H1 else tb σ H1 Q
theorem zcT {op}{t:TE}(h:PE X a t):PE X (.BoolOp op [a] pos) t:=fun pins s σ H Q I hw=>BoolOp_one (h pins s σ H Q I hw)
theorem zcS (ha:PE X a ta) (hb:PE X (.BoolOp .And (b::rest) pos) tb):PE X (.BoolOp .And (a::b::rest) pos) (zeL ta tb):=by
 intro pins s σ H Q I h
 refine BoolOp_and (thn (ha pins s σ H _ I h) fun v s1 ⟨x,H1,I1,r1,q1⟩=>?_)
 obtain⟨c,rfl,q1⟩:=q1
 cases r1
 refine wpAny_truthy_bool ?_
 cases c with
 | true=>exact hb pins s1 σ H1 Q I1 q1
 | false=>exact⟨.bl false,H1,I1,rfl,q1⟩
theorem zer (ha:PE X a ta) (hb:PE X (.BoolOp .Or (b::rest) pos) tb):PE X (.BoolOp .Or (a::b::rest) pos) (tOrV ta tb):=by
 intro pins s σ H Q I h
 refine BoolOp_or (thn (ha pins s σ H _ I h) fun v s1 ⟨x,H1,I1,r1,q1⟩=>?_)
 obtain⟨c,rfl,q1⟩:=q1
 cases r1
 refine wpAny_truthy_bool ?_
 cases c with
 | false=>exact hb pins s1 σ H1 Q I1 q1
 | true=>exact⟨.bl true,H1,I1,rfl,q1⟩
noncomputable def tIf (t:TT) (ta tb:TE):TE:=fun σ H Q=>t σ H fun c H1=>if c=true then ta σ H1 Q else tb σ H1 Q
theorem kH {c:Expr}(hc:PT X c tA) (ha:PE X a ta) (hb:PE X b tb):PE X (.IfExp c a b pos) (tIf tA ta tb):=by
 intro pins s σ H Q I h
 refine wpAny_IfExp (thn (hc pins s σ H _ I h) fun d s1 ⟨H1,I1,q1⟩=>?_)
 cases d with
 | true=>exact ha pins s1 σ H1 Q I1 q1
 | false=>exact hb pins s1 σ H1 Q I1 q1
end
end L2
namespace L2
open PySem PySem.Spec PyProof.Rows
noncomputable def SqL (K:PySem.W.Frag) (H:Hp) (a:Addr) (xs:List V):Prop :=
 Rd H a (.lst xs) ∨
  ∃ (o:Obj) (its:Array Value) (n:Nat),K.lookup a=some o/\o.cls=.type "list" /\o.dict=none/\o.data=.seq its n/\its.size<=sizeLine/\Vals xs its.toList
noncomputable def SqT (K:PySem.W.Frag) (H:Hp) (a:Addr) (xs:List V):Prop :=
 Rd H a (.tup xs) ∨
  ∃ (o:Obj) (its:Array Value) (n:Nat),K.lookup a=some o/\o.cls=.type "tuple" /\o.data=.seq its n/\its.size<=sizeLine/\Vals xs its.toList
noncomputable def absV:Value->Option V
 | .none=>some .non
 | .bool b=>some (.bl b)
 | .int i _=>some (.int i)
 | .str x _=>some (.str x)
 | .bytes b _=>some (.byt b)
 | .float b _=>some (.flt b)
 | .ref a=>some (.ref a)
 | .type n=>some (.ty n)
 | _=>none
theorem RelV.abs {x:V}{u:Value}(r:RelV x u):absV u=some x:=by
 cases x with
 | non=>cases r; rfl
 | bl _=>cases r; rfl
 | int _=>obtain⟨t,rfl⟩:=r; rfl
 | str _=>obtain⟨t,rfl⟩:=r; rfl
 | byt _=>obtain⟨t,rfl⟩:=r; rfl
 | flt _=>obtain⟨t,rfl⟩:=r; rfl
 | ref _=>cases r; rfl
 | ty _=>cases r; rfl
theorem RelV.inj {x y:V}{u:Value}(r:RelV x u) (q:RelV y u):x=y:=Option.some.inj (r.abs.symm.trans q.abs)
theorem Vals.inj:∀ {xs ys:List V}{us:List Value},Vals xs us->Vals ys us->xs=ys
 | _,_,_,.nil,.nil=>rfl
 | _,_,_,.cons r t,.cons r' t'=>by rw[r.inj r',Vals.inj t t']
section
variable {X:Cx} {pins:List (Addr×Obj)} {σ:St} {H:Hp} {s:Shared} {a:Addr} {xs ys:List V}
theorem SqL.of {K:PySem.W.Frag}(h:H a=some (.lst xs)):SqL K H a xs:=.inl (.inl h)
theorem SqT.of {K:PySem.W.Frag}(h:H a=some (.tup xs)):SqT K H a xs:=.inl (.inl h)
theorem Inv.list (I:Inv X pins σ H s) (h:SqL X.K H a xs):∃ its:List Value,Vals xs its/\PlainL s.heap a its.toArray/\xs.length<=sizeLine:=by
 rcases h with h | ⟨o,its,n,hk,hc,hd,hs,hz,r⟩
 ·obtain⟨z,its,n,r,e⟩:=h.ok I.hok
  exact⟨its,r,⟨_,n,e,rfl,rfl,rfl⟩,z⟩
 ·refine⟨its.toList,r,⟨o,n,I.kIn a o hk,hc,hd,by simpa using hs⟩,?_⟩
  have e:=r.length
  simp only[Array.length_toList] at e
  omega
theorem Inv.tuple (I:Inv X pins σ H s) (h:SqT X.K H a xs):∃ its:List Value,Vals xs its/\IsTup s.heap a its.toArray/\xs.length<=sizeLine:=by
 rcases h with h | ⟨o,its,n,hk,hc,hs,hz,r⟩
 ·obtain⟨z,its,r,p⟩:=h.ok I.hok
  exact⟨its,r,p,z⟩
 ·refine⟨its.toList,r,⟨o,I.kIn a o hk,hc,n,by simpa using hs⟩,?_⟩
  have e:=r.length
  simp only[Array.length_toList] at e
  omega
theorem Inv.list_inj (I:Inv X pins σ H s) (h:SqL X.K H a xs) (h':SqL X.K H a ys):xs=ys:=by
 obtain⟨its,r,⟨o,n,e,_,_,d⟩,_⟩:=I.list h
 obtain⟨its',r',⟨o',n',e',_,_,d'⟩,_⟩:=I.list h'
 rw[e] at e'; cases e'
 rw[d] at d'
 injection d' with d1 _
 have:its=its':=by simpa using congrArg Array.toList d1
 subst this
 exact r.inj r'
theorem Inv.tuple_inj (I:Inv X pins σ H s) (h:SqT X.K H a xs) (h':SqT X.K H a ys):xs=ys:=by
 obtain⟨its,r,⟨o,e,_,n,d⟩,_⟩:=I.tuple h
 obtain⟨its',r',⟨o',e',_,n',d'⟩,_⟩:=I.tuple h'
 rw[e] at e'; cases e'
 rw[d] at d'
 injection d' with d1 _
 have:its=its':=by simpa using congrArg Array.toList d1
 subst this
 exact r.inj r'
end
noncomputable abbrev Cx.wish (X:Cx) (E:Value->Shared->Prop):Cx:={ X with xe:=E }
noncomputable abbrev Cx.nox (X:Cx):Cx:=X.wish fun _ _=>False
theorem Cx.Ok.wish {X:Cx}(ok:X.Ok) (E:Value->Shared->Prop):(X.wish E).Ok :=
 ⟨ok.mod,ok.kind,ok.glob,ok.blt,ok.above,ok.inj,ok.has,ok.cab,ok.hd,ok.frames,ok.stk,ok.exf,ok.bs,ok.bsz,ok.noex,ok.exfs,ok.funs,ok.frf⟩
theorem Cx.Ok.unwish {X:Cx}{E:Value->Shared->Prop}(ok:(X.wish E).Ok):X.Ok :=
 ⟨ok.mod,ok.kind,ok.glob,ok.blt,ok.above,ok.inj,ok.has,ok.cab,ok.hd,ok.frames,ok.stk,ok.exf,ok.bs,ok.bsz,ok.noex,ok.exfs,ok.funs,ok.frf⟩
section
variable {X:Cx} {pins:List (Addr×Obj)} {σ:St} {H:Hp} {s:Shared} {E:Value->Shared->Prop}
theorem Inv.wish (I:Inv X pins σ H s) (E:Value->Shared->Prop):Inv (X.wish E) pins σ H s:=⟨I.ok.wish E,I.os,I.bare,I.base,I.loc,I.cell,I.free,I.freeC,I.pin,I.hok,I.len⟩
theorem Inv.unwish (I:Inv (X.wish E) pins σ H s):Inv X pins σ H s:=⟨I.ok.unwish,I.os,I.bare,I.base,I.loc,I.cell,I.free,I.freeC,I.pin,I.hok,I.len⟩
theorem SP.unwish {D:qy}{f:Flow}{s':Shared}(h:SP (X.wish E) pins D f s'):SP X pins D f s':=by
 cases f with
 | next=>obtain⟨σ',H',I,q⟩:=h; exact⟨σ',H',I.unwish,q⟩
 | brk=>obtain⟨σ',H',I,q⟩:=h; exact⟨σ',H',I.unwish,q⟩
 | cont=>obtain⟨σ',H',I,q⟩:=h; exact⟨σ',H',I.unwish,q⟩
 | ret u=>obtain⟨v,σ',H',I,r,q⟩:=h; exact⟨v,σ',H',I.unwish,r,q⟩
theorem PSs.nox {st:List Stmt}{t:TS}(h:PSs X.nox st t):PSs X st t:=fun pins s σ H D I hw=>
 wpAny_mono (h pins s σ H D (I.wish _) hw) (fun _ _ q=>q.unwish) fun _ _ z=>False.elim z
end
section
variable {X:Cx} {st:Stmt} {rest:List Stmt} {t u:TS} {e:Expr} {te:TE} {pos:Pos}
noncomputable def zbV:TS:=fun D σ H=>D.nx σ H
noncomputable def tSeq (t u:TS):TS:=fun D σ H=>t { D with nx:=u D } σ H
theorem pss_nil:PSs X [] zbV:=fun _ _ σ H _ I h=>wpAny_execs_nil ⟨σ,H,I,h⟩
theorem Zu (h1:PS X st t) (h2:PSs X rest u):PSs X (st::rest) (tSeq t u):=by
 intro pins s σ H D I h
 refine wpAny_execs_cons (thn (h1 pins s σ H { D with nx:=u D } I h) fun f s1 q=>?_)
 cases f with
 | next=>
  obtain⟨σ',H',I',q⟩:=q
  exact h2 pins s1 σ' H' D I' q
 | ret v=>exact q
 | brk=>exact q
 | cont=>exact q
theorem w5 (h1:PS X st t):PSs X [st] t:=by
 intro pins s σ H D I h
 refine wpAny_execs_cons (thn (h1 pins s σ H D I h) fun f s1 q=>?_)
 cases f with
 | next=>exact wpAny_execs_nil q
 | ret v=>exact q
 | brk=>exact q
 | cont=>exact q
theorem ps_pass:PS X (.Pass pos) zbV:=fun _ _ σ H _ I h=>wpAny_Pass ⟨σ,H,I,h⟩
theorem Inv.quiet {pins:List (Addr×Obj)}{σ:St}{H:Hp}{s:Shared}(I:Inv X pins σ H s):interactive X.env=false:=by simp[interactive,I.ok.kind]
noncomputable def zeN (te:TE):TS:=fun D σ H=>te σ H fun _ H1=>D.nx σ H1
theorem zaJ (he:PE X e te) (hs:swapsWith e none pos.line X.env=pure false:=by rfl):PS X (.Expr e pos) (zeN te):=by
 intro pins s σ H D I h
 exact wpAny_Expr_any (thn (he pins s σ H _ I h) fun v s1 ⟨x,H1,I1,r1,q1⟩=>⟨σ,H1,I1,q1⟩) I.quiet hs
noncomputable def tRet (te:TE):TS:=fun D σ H=>te σ H D.rt
theorem kQ (he:PE X e te):PS X (.Return (some e) pos) (tRet te):=by
 intro pins s σ H D I h
 exact wpAny_Return_some (thn (he pins s σ H _ I h) fun v s1 ⟨x,H1,I1,r1,q1⟩=>⟨x,σ,H1,I1,r1,q1⟩)
noncomputable def tIfS (c:TT) (t u:TS):TS:=fun D σ H=>c σ H fun b H1=>if b=true then t D σ H1 else u D σ H1
theorem zes {c:Expr}{a b:List Stmt}{tc:TT}(hc:PT X c tc) (ha:PSs X a t) (hb:PSs X b u):PS X (.If c a b pos) (tIfS tc t u):=by
 intro pins s σ H D I h
 refine wpAny_If (thn (hc pins s σ H _ I h) fun d s1 ⟨H1,I1,q1⟩=>?_)
 cases d with
 | true=>exact ha pins s1 σ H1 D I1 q1
 | false=>exact hb pins s1 σ H1 D I1 q1
end
noncomputable abbrev TG:=V->St->Hp->(St->Hp->Prop)->Prop
noncomputable abbrev TGs:=List V->St->Hp->(St->Hp->Prop)->Prop
noncomputable def PG (X:Cx) (target:Expr) (t:TG):Prop :=
 ∀ (pins:List (Addr×Obj)) (s:Shared) (σ:St) (H:Hp) (v:V) (u:Value) (Q:St->Hp->Prop),Inv X pins σ H s->RelV v u->t v σ H Q ->
  wpAny (model X.prog X.w) X.A (assign target X.env u) (fun _ s'=>∃ σ' H',Inv X pins σ' H' s'/\Q σ' H') X.xe s
noncomputable def PGs (X:Cx) (ts:List Expr) (t:TGs):Prop :=
 ∀ (pins:List (Addr×Obj)) (s:Shared) (σ:St) (H:Hp) (vs:List V) (us:List Value) (Q:St->Hp->Prop),Inv X pins σ H s->Vals vs us->t vs σ H Q ->
  wpAny (model X.prog X.w) X.A (assignInOrder ((assignEach ts X.env).map (·.2)) us) (fun _ s'=>∃ σ' H',Inv X pins σ' H' s'/\Q σ' H') X.xe s
noncomputable abbrev K2:=V->V->V->Hp->(Hp->Prop)->Prop
noncomputable def zb2 (X:Cx) (t:K2):Prop :=
 ∀ (pins:List (Addr×Obj)) (s:Shared) (σ:St) (H:Hp) (o i v:V) (ov iv u:Value) (Q:Hp->Prop),Inv X pins σ H s->RelV o ov->RelV i iv->RelV v u->t o i v H Q ->
  wpAny (model X.prog X.w) X.A (setItem ov iv u) (fun _ s'=>∃ H',Inv X pins σ H' s'/\Q H') X.xe s
section
variable {X:Cx} {pos:Pos}
noncomputable def Q6 (i:Nat):TG:=fun v σ H Q=>Q (σ.set i (some v)) H
theorem VZ {i:Nat}{x:Str}(hN:X.N.Nodup) (hi:X.N[i]?=some x) (hx:Loc X.env.scope x) (hf:X.fn x=true∨X.env.scope.names.lookup x=some .local:=by first | exact .inl rfl | exact .inr rfl | assumption):PG X (.Name x pos) (Q6 i):=by
 intro pins s σ H v u Q I r h
 exact wpAny_assign_Name (vh I hN hi hx r (fun s' I'=>⟨_,H,I',h⟩) hf)
noncomputable def gNil:TGs:=fun vs σ H Q=>vs= []/\Q σ H
noncomputable def zd7 (t:TG) (u:TGs):TGs:=fun vs σ H Q=>∃ v r,vs=v::r/\t v σ H fun σ' H'=>u r σ' H' Q
theorem pgs_nil:PGs X [] gNil:=by
 intro pins s σ H vs us Q I r h
 obtain⟨e,h⟩:=h
 subst e
 cases r
 exact assignInOrder_nil ⟨σ,H,I,h⟩
theorem kM {e:Expr}{es:List Expr}{t:TG}{u:TGs}(h1:PG X e t) (h2:PGs X es u)
  (hs:(assignEach (e::es) X.env).map (·.2)=assign e X.env::(assignEach es X.env).map (·.2):=by rfl):PGs X (e::es) (zd7 t u):=by
 intro pins s σ H vs us Q I r h
 obtain⟨v,vr,e1,h⟩:=h
 subst e1
 cases r with
 | cons r rr=>
  rw[hs]
  refine assignInOrder_cons (thn (h1 pins s σ H _ _ _ I r h) fun _ s1 ⟨σ1,H1,I1,q1⟩=>?_)
  exact h2 pins s1 σ1 H1 _ _ Q I1 rr q1
noncomputable def gTup (K:PySem.W.Frag) (n:Nat) (t:TGs):TG:=fun v σ H Q=>∃ a xs,v=.ref a/\SqT K H a xs/\xs.length=n/\t xs σ H Q
theorem zcX {es:List Expr}{k:Nat}{t:TGs}{n:Nat}(hc:X.calm=true) (h:PGs X es t)
  (hn:(assignEach es X.env).length=n:=by rfl) (hst:(assignEach es X.env).findIdx? (·.1)=none:=by rfl):PG X (.Tuple es k pos) (gTup X.K n t):=by
 intro pins s σ H v u Q I r hw
 obtain⟨a,xs,e1,hq,hl,hw⟩:=hw
 subst e1
 cases r
 obtain⟨its,rv,ht,hz⟩:=I.tuple hq
 refine assign_Tuple_tuple (I.ok.hd hc) ht (by simp[hn,<- hl,rv.length]) hst fun h' hx=>?_
 have I1:Inv X pins σ H { s with heap:=h' }:=I.kept (t':=s.toks) fun b o e=>hx b o (Nat.ne_of_lt (Heap.lt_size e)) e
 exact h pins _ σ H xs _ Q I1 (by simpa using rv) hw
noncomputable def zd8 (to ti:TE) (t:K2):TG:=fun v σ H Q=>to σ H fun o H1=>ti σ H1 fun i H2=>t o i v H2 fun H3=>Q σ H3
theorem zcW {o i:Expr}{to ti:TE}{t:K2}(ho:PE X o to) (hi:PE X i ti) (hs:zb2 X t)
  (ha:∀ v,assign (.Subscript o i pos) X.env v=(do
   let ov<-holding [v] (eval o X.env)
   let iv<-holding [v,ov] (eval i X.env)
   standAt pos
   holding [v,ov,iv] (setItem ov iv v)
   release [v,ov,iv] []):=by intro _; rfl):PG X (.Subscript o i pos) (zd8 to ti t):=by
 intro pins s σ H v u Q I r h
 rw[ha]
 refine wpAny_bind (wpAny_holding (thn (ho pins s σ H _ I h) fun ov s1 ⟨x,H1,I1,r1,q1⟩=>?_))
 refine wpAny_bind (wpAny_holding (thn (hi pins s1 σ H1 _ I1 q1) fun iv s2 ⟨y,H2,I2,r2,q2⟩=>?_))
 refine wpAny_bind (wpAny_standAt (wpAny_bind (wpAny_holding (thn (hs pins s2 σ H2 x y v ov iv u _ I2 r1 r2 r q2) fun _ s3 ⟨H3,I3,q3⟩=>?_))))
 exact wpAny_release ⟨σ,H3,I3,q3⟩
noncomputable def Wc (te:TE) (g:TG):TS:=fun D σ H=>te σ H fun x H1=>g x σ H1 D.nx
theorem kO {tg e:Expr}{te:TE}{g:TG}(he:PE X e te) (hg:PG X tg g) (hs:swapsWithSole [tg] e pos.line X.env=pure false:=by rfl) (hw:swappedStores [tg] e X.env=pure none:=by rfl)
    (h1:(assignEach [tg] X.env).map (·.2)= [assign tg X.env]:=by rfl):PS X (.Assign [tg] e pos) (Wc te g):=by
  intro pins s σ H D I h
  refine wpAny_Assign_stores (thn (he pins s σ H _ I h) fun v s1 ⟨x,H1,I1,r1,q1⟩=>?_) hs hw
  rw[h1]
  exact thn (hg pins s1 σ H1 x v _ I1 r1 q1) fun _ s2 q=>q
theorem w4 {i:Nat}{x:Str}{e:Expr}{te:TE}{pos':Pos}(hN:X.N.Nodup) (hi:X.N[i]?=some x) (hx:Loc X.env.scope x) (he:PE X e te) (hs:swapsWith e (some (.Name x pos')) pos.line X.env=pure false:=by rfl) (hf:X.fn x=true∨X.env.scope.names.lookup x=some .local:=by first | exact .inl rfl | exact .inr rfl | assumption) :
    PS X (.Assign [.Name x pos'] e pos) (Wc te (Q6 i)):=by
  intro pins s σ H D I h
  refine wpAny_Assign_Name (thn (he pins s σ H _ I h) fun v s1 ⟨y,H1,I1,r1,q1⟩=>?_) hs
  exact vh I1 hN hi hx r1 (fun s2 I2=>⟨_,H1,I2,q1⟩) hf
end
section
variable {X:Cx} {pos:Pos}
end
structure It where
 go:Nat->Hp->Prop
 yld:Nat->Hp->V->Hp->Prop
 stop:Nat->Hp->Prop
noncomputable def jA (X:Cx) (pins:List (Addr×Obj)) (H:Hp) (b:Addr):Prop :=
 H b=none/\b≠X.env.locals/\b∉X.fs/\(b∈X.ex∨X.s₀.heap.objs.size<=b)/\(∀ x c,X.env.cells.lookup x=some c->c≠b)/\∀ p∈X.pn++pins,p.1≠b
theorem Inv.fpOk {X:Cx}{pins:List (Addr×Obj)}{σ:St}{H H':Hp}{s:Shared}{b:Addr}(I:Inv X pins σ H s) (hb:s.heap.objs.size<=b) (hn:H' b=none):jA X pins H' b:=by
 refine⟨hn,Nat.ne_of_gt (Nat.lt_of_lt_of_le I.lt hb),I.nofs hb,.inr (Nat.le_trans I.sz hb),fun x c e z=>?_,fun p hp z=>?_⟩
 ·obtain⟨v,q⟩:=I.cell x c e
  exact absurd (Nat.lt_of_lt_of_le q.lt (by rw[z]; exact hb)) (Nat.lt_irrefl _)
 ·exact absurd (Nat.lt_of_lt_of_le (Heap.lt_size (I.pin p hp).1) (by rw[z]; exact hb)) (Nat.lt_irrefl _)
structure Wj (P:Program) (w:World) (K:PySem.W.Frag) (tg:Expr) (J:It) (fp:List Addr) (it:Addr) (tn:Nat->Heap->Prop):Prop where
 mem:it∈fp
 obj:∀ i h,tn i h->∀ b∈fp,∃ o,h.get? b=some o/\∀ v,o.data≠ .cell v
 keep:∀ i h h',tn i h->(∀ b∈fp,∀ o,h.get? b=some o->h'.get? b=some o)->tn i h'
 item:∀ (X:Cx),X.prog=P->X.w=w->X.K=K->X.calm=true->∀ (i:Nat) (pins:List (Addr×Obj)) (s:Shared) (σ:St) (H:Hp) (E:Value->Shared->Prop),Inv X pins σ H s->(∀ b∈fp,jA X pins H b)->tn i s.heap->J.go i H ->
  wpAny (model P w) X.A (pyNext (.ref it)) (fun r s1=>∃ u,r=some u /\
   wpAny (model P w) X.A (letOwnedTupleGo tg (.ref it) u) (fun _ s2=>∃ x H',Inv X pins σ H' s2/\RelV x u/\J.yld i H x H'/\tn (i+1) s2.heap/\∀ b∈fp,H' b=none) E s1) E s
 done:∀ (X:Cx),X.prog=P->X.w=w->X.K=K->X.calm=true->∀ (i:Nat) (pins:List (Addr×Obj)) (s:Shared) (σ:St) (H:Hp) (E:Value->Shared->Prop),Inv X pins σ H s->(∀ b∈fp,jA X pins H b)->tn i s.heap->J.stop i H ->
  wpAny (model P w) X.A (pyNext (.ref it)) (fun r s1=>r=none/\Inv X pins σ H s1) E s
 self:∀ (A:Around) (i:Nat) (s:Shared) (Q:Value->Shared->Prop) (E:Value->Shared->Prop),tn i s.heap->Q (.ref it) s->wpAny (model P w) A (pyIter (.ref it)) Q E s
noncomputable abbrev TI:=St->Hp->(It->Hp->Prop)->Prop
noncomputable def PIE (X:Cx) (pins:List (Addr×Obj)) (σ:St) (tg:Expr) (R:It->Hp->Prop) (itv:Value) (s2:Shared):Prop :=
 ∃ (it:Addr) (fp:List Addr) (tn:Nat->Heap->Prop) (J:It) (H':Hp),itv=.ref it/\Inv X pins σ H' s2/\Wj X.prog X.w X.K tg J fp it tn/\tn 0 s2.heap/\(∀ b∈fp,jA X pins H' b)/\R J H'
noncomputable def PI (X:Cx) (tg iter:Expr) (wi:TI):Prop :=
 ∀ (pins:List (Addr×Obj)) (s:Shared) (σ:St) (H:Hp) (R:It->Hp->Prop),Inv X pins σ H s->wi σ H R ->
  wpAny (model X.prog X.w) X.A (eval iter X.env) (fun v s1=>wpAny (model X.prog X.w) X.A (pyIter v) (PIE X pins σ tg R) X.xe s1) X.xe s
theorem YZ {M:Model}{A:Around}{E:Value->Shared->Prop}{s:Shared}{tg:Expr}{it:Addr}{u:Value}{o:Obj}{n:String}{vs:Array Value}{Q:Unit->Shared->Prop}(ho:s.heap.get? it=some o) (hc:o.cls=.type n) (hd:o.data=.fields vs)
    (hn: ["enumerate","zip","dict_itemiterator","dict_reverseitemiterator","odict_iterator","itertools.zip_longest","itertools.pairwise"].contains n=false) (hQ:Q () s):wpAny M A (letOwnedTupleGo tg (.ref it) u) Q E s:=by
  unfold letOwnedTupleGo
  cases tg <;> first
    | exact wpAny_pure hQ
    | (cases u <;> first
        | exact wpAny_pure hQ
        | (refine wpAny_bind (wpAny_load ho ?_)
           rw[hc,hd]
           show wpAny M A (if (["enumerate","zip","dict_itemiterator","dict_reverseitemiterator","odict_iterator","itertools.zip_longest","itertools.pairwise"].contains n&&vs[0]?==some (rawInt _))=true then _ else _) Q E s
           rw[if_neg (by intro h; rw[hn,Bool.false_and] at h; cases h)]
           exact wpAny_pure hQ))
noncomputable def Itl (K:PySem.W.Frag) (a:Addr):It :=
 ⟨fun i H=>∃ xs x,SqL K H a xs/\xs[i]?=some x,fun i H x H'=>H'=H/\∀ xs,SqL K H a xs->xs[i]?=some x,fun i H=>∃ xs,SqL K H a xs/\xs.length<=i⟩
noncomputable def Itt (K:PySem.W.Frag) (a:Addr):It :=
 ⟨fun i H=>∃ xs x,SqT K H a xs/\xs[i]?=some x,fun i H x H'=>H'=H/\∀ xs,SqT K H a xs->xs[i]?=some x,fun i H=>∃ xs,SqT K H a xs/\xs.length<=i⟩
noncomputable def Itr (lo:Int) (n:Nat):It:=⟨fun i _=>i<n,fun i H x H'=>H'=H/\x=.int (lo+i),fun i _=>n<=i⟩
theorem Yd {P:Program}{w:World}{K:PySem.W.Frag}{tg:Expr}(a it:Addr):Wj P w K tg (Itl K a) [it] it (fun i h=>h.IsListIter it a i) where
 mem:=by simp
 obj:=fun i h st b hb=>by
  have e:b=it:=by simpa using hb
  subst e
  obtain⟨o,e,c,d⟩:=st
  exact⟨o,e,fun v z=>by rw[d] at z; cases z⟩
 keep:=fun i h h' st k=>st.at fun o e=>k it (by simp) o e
 item:=by
  intro X hP hw hK hc i pins s σ H E I hf st hg
  subst hP hw hK
  obtain⟨xs,x,hq,hx⟩:=hg
  obtain⟨its,rv,p,hz⟩:=I.list hq
  obtain⟨u,hu,ru⟩:=rv.get hx
  obtain⟨f0,f1,f2,f3,f4,f5⟩:=hf it (by simp)
  refine wpAny_pyNext_list_item st p.isList (x:=u) (by simpa using hu) fun h' st' sb=>?_
  have I1:Inv X pins σ H { s with heap:=h' }:=I.turned (t':=s.toks) (fun b o hb e=>(sb.2 b hb).trans e) f0 f1 f3 f4 f5
  obtain⟨o,e,c,d⟩:=id st'
  exact⟨u,rfl,YZ (s:={ s with heap:=h' }) e c d (by decide) ⟨x,H,I1,ru,⟨rfl,fun ys hy=>by rw[I.list_inj hy hq]; exact hx⟩,st',fun b hb=>(hf b hb).1⟩⟩
 done:=by
  intro X hP hw hK hc i pins s σ H E I hf st hg
  subst hP hw hK
  obtain⟨xs,hq,hx⟩:=hg
  obtain⟨its,rv,p,hz⟩:=I.list hq
  obtain⟨f0,f1,f2,f3,f4,f5⟩:=hf it (by simp)
  have hl:=rv.length
  exact wpAny_pyNext_list_end (I.ok.hd hc) st p.isList (by simp; omega) fun h' eb=>⟨rfl,I.turned (t':=s.toks) (fun b o hb e=>eb b o hb e) f0 f1 f3 f4 f5⟩
 self:=fun _ _ _ _ _ st h=>wpAny_pyIter_listiter st h
theorem Vm {P:Program}{w:World}{K:PySem.W.Frag}{tg:Expr}(a it:Addr):Wj P w K tg (Itt K a) [it] it (fun i h=>h.IsTupleIter it a i) where
 mem:=by simp
 obj:=fun i h st b hb=>by
  have e:b=it:=by simpa using hb
  subst e
  obtain⟨o,e,c,d⟩:=st
  exact⟨o,e,fun v z=>by rw[d] at z; cases z⟩
 keep:=fun i h h' st k=>st.at fun o e=>k it (by simp) o e
 item:=by
  intro X hP hw hK hc i pins s σ H E I hf st hg
  subst hP hw hK
  obtain⟨xs,x,hq,hx⟩:=hg
  obtain⟨its,rv,p,hz⟩:=I.tuple hq
  obtain⟨u,hu,ru⟩:=rv.get hx
  obtain⟨f0,f1,f2,f3,f4,f5⟩:=hf it (by simp)
  refine wpAny_pyNext_tuple_item st (show s.heap.IsTuple a its.toArray from p) (x:=u) (by simpa using hu) fun h' st' sb=>?_
  have I1:Inv X pins σ H { s with heap:=h' }:=I.turned (t':=s.toks) (fun b o hb e=>(sb.2 b hb).trans e) f0 f1 f3 f4 f5
  obtain⟨o,e,c,d⟩:=id st'
  exact⟨u,rfl,YZ (s:={ s with heap:=h' }) e c d (by decide) ⟨x,H,I1,ru,⟨rfl,fun ys hy=>by rw[I.tuple_inj hy hq]; exact hx⟩,st',fun b hb=>(hf b hb).1⟩⟩
 done:=by
  intro X hP hw hK hc i pins s σ H E I hf st hg
  subst hP hw hK
  obtain⟨xs,hq,hx⟩:=hg
  obtain⟨its,rv,p,hz⟩:=I.tuple hq
  obtain⟨f0,f1,f2,f3,f4,f5⟩:=hf it (by simp)
  have hl:=rv.length
  exact wpAny_pyNext_tuple_end (I.ok.hd hc) st (show s.heap.IsTuple a its.toArray from p) (by simp; omega) fun h' eb=>⟨rfl,I.turned (t':=s.toks) (fun b o hb e=>eb b o hb e) f0 f1 f3 f4 f5⟩
 self:=fun _ _ _ _ _ st h=>wpAny_pyIter_tupleiter st h
theorem Vl {P:Program}{w:World}{K:PySem.W.Frag}{tg:Expr}(it:Addr) (lo:Int) (n:Nat):Wj P w K tg (Itr lo n) [it] it (fun i h=>IsRangeIter h it (lo+(i:Nat)*1) ((n:Int)-(i:Nat)) 1) where
 mem:=by simp
 obj:=fun i h st b hb=>by
  have e:b=it:=by simpa using hb
  subst e
  exact⟨_,st,fun v z=>by
   have z':Data.fields _=Data.cell v:=z
   cases z'⟩
 keep:=fun i h h' st k=>k it (by simp) _ st
 item:=by
  intro X hP hw hK hc i pins s σ H E I hf st hg
  subst hP hw hK
  obtain⟨f0,f1,f2,f3,f4,f5⟩:=hf it (by simp)
  have W:=Walks.range (prog:=X.prog) (w:=X.w) (I.ok.hd hc) it lo 1 n
  refine W.item i s _ _ hg st fun v h' tk hv st' kk=>?_
  obtain⟨t,rfl⟩:=hv
  have I1:Inv X pins σ H { s with heap:=h',toks:=tk }:=I.turned (fun b o hb e=>kk b o (by simpa using hb) e) f0 f1 f3 f4 f5
  refine⟨_,rfl,YZ (s:={ s with heap:=h',toks:=tk }) (n:= "range_iterator") st' rfl rfl (by decide) ⟨.int (lo+i),H,I1,⟨t,?_⟩,⟨rfl,rfl⟩,st',fun b hb=>(hf b hb).1⟩⟩
  rw[Int.mul_one]
 done:=by
  intro X hP hw hK hc i pins s σ H E I hf st hg
  subst hP hw hK
  obtain⟨f0,f1,f2,f3,f4,f5⟩:=hf it (by simp)
  exact wpAny_pyNext_range_end (I.ok.hd hc) st (by have:n<=i:=hg; omega) fun h' eb=>⟨rfl,I.turned (t':=s.toks) (fun b o hb e=>eb b o hb e) f0 f1 f3 f4 f5⟩
 self:=fun _ _ _ _ _ st h=>wpAny_pyIter_rangeiter st h
end L2
namespace L2
open PySem PySem.Spec PyProof.Rows
section
variable {X:Cx} {tg:Expr}
noncomputable def zeb (K:PySem.W.Frag) (tl:TE):TI:=fun σ H R=>tl σ H fun x H1=>∃ a,x=.ref a/\(∃ xs,SqL K H1 a xs)/\R (Itl K a) H1
noncomputable def iTup (K:PySem.W.Frag) (tl:TE):TI:=fun σ H R=>tl σ H fun x H1=>∃ a,x=.ref a/\(∃ xs,SqT K H1 a xs)/\R (Itt K a) H1
theorem V0 {l:Expr}{tl:TE}(hl:PE X l tl):PI X tg l (zeb X.K tl):=by
 intro pins s σ H R I h
 refine thn (hl pins s σ H _ I h) fun v s1 ⟨x,H1,I1,r1,q1⟩=>?_
 obtain⟨a,e,⟨xs,hq⟩,q⟩:=q1
 subst e
 cases r1
 obtain⟨its,rv,p,hz⟩:=I1.list hq
 refine wpAny_pyIter_list p.isList ?_
 refine⟨s1.heap.objs.size,[s1.heap.objs.size],_,_,H1,rfl,I1.kept (t':=s1.toks) fun b o e=>Heap.get?_push_of_some _ e,Yd a _,⟨_,Heap.get?_push_size _ rfl,rfl,rfl⟩,fun b hb=>?_,q⟩
 have e:b=s1.heap.objs.size:=by simpa using hb
 subst e
 exact I1.fpOk (Nat.le_refl _) (I1.hok.fresh (Nat.le_refl _))
theorem zcY {l:Expr}{tl:TE}(hl:PE X l tl):PI X tg l (iTup X.K tl):=by
 intro pins s σ H R I h
 refine thn (hl pins s σ H _ I h) fun v s1 ⟨x,H1,I1,r1,q1⟩=>?_
 obtain⟨a,e,⟨xs,hq⟩,q⟩:=q1
 subst e
 cases r1
 obtain⟨its,rv,p,hz⟩:=I1.tuple hq
 refine wpAny_pyIter_tuple (show s1.heap.IsTuple a its.toArray from p) ?_
 refine⟨s1.heap.objs.size,[s1.heap.objs.size],_,_,H1,rfl,I1.kept (t':=s1.toks) fun b o e=>Heap.get?_push_of_some _ e,Vm a _,⟨_,Heap.get?_push_size _ rfl,rfl,rfl⟩,fun b hb=>?_,q⟩
 have e:b=s1.heap.objs.size:=by simpa using hb
 subst e
 exact I1.fpOk (Nat.le_refl _) (I1.hok.fresh (Nat.le_refl _))
theorem kX {pins:List (Addr×Obj)}{σ:St}{H:Hp}{s:Shared}{R:It->Hp->Prop}{E:Value->Shared->Prop}{lo hi:Int}{t u v:Tok}{tk:Nat}(I:Inv X pins σ H s) (h1: -(2 ^ 62)<=lo) (h2:lo<2 ^ 62) (h3: -(2 ^ 62)<=hi) (h4:hi<2 ^ 62)
  (q:R (Itr lo (hi-lo).toNat) H):wpAny (model X.prog X.w) X.A (pyIter (.ref s.heap.objs.size)) (PIE X pins σ tg R) E { s with heap:=s.heap.push { cls:=.type "range",data:=.fields #[.int lo t,.int hi u,.int 1 v] },toks:=tk }:=by
 refine wpAny_pyIter_range (IsRange.new ..) (small_one h1 h2 h3 h4) ?_
 have I1:Inv X pins σ H { s with heap:=s.heap.push { cls:=.type "range",data:=.fields #[.int lo t,.int hi u,.int 1 v] },toks:=tk }:=I.kept fun b o e=>Heap.get?_push_of_some _ e
 refine⟨(s.heap.push { cls:=.type "range",data:=.fields #[.int lo t,.int hi u,.int 1 v] }).objs.size,[(s.heap.push { cls:=.type "range",data:=.fields #[.int lo t,.int hi u,.int 1 v] }).objs.size],_,_,H,rfl,
  I1.kept (t':=tk) fun b o e=>Heap.get?_push_of_some _ e,Vl _ lo (hi-lo).toNat,?_,fun b hb=>?_,q⟩
 ·have e1:lo+((0:Nat):Int)*1=lo:=by simp
  have e2:(((hi-lo).toNat:Nat):Int)-((0:Nat):Int)=Builtin.Range.rangeSize lo hi 1:=by rw[rangeSize_one]; split <;> omega
  show IsRangeIter _ _ (lo+((0:Nat):Int)*1) ((((hi-lo).toNat:Nat):Int)-((0:Nat):Int)) 1
  rw[e1,e2]
  exact Heap.get?_push_size _ rfl
 ·have e:b=(s.heap.push { cls:=.type "range",data:=.fields #[.int lo t,.int hi u,.int 1 v] }).objs.size:=by simpa using hb
  subst e
  exact I1.fpOk (Nat.le_refl _) (I1.hok.fresh (Nat.le_refl _))
noncomputable def zec (ta:TA):TI:=fun σ H R=>ta σ H fun vs H1=>∃ j:Int,vs= [.int j]/\ -(2 ^ 62)<=j/\j<2 ^ 62/\R (Itr 0 j.toNat) H1
theorem yX {a:Expr}{ta:TA}{p pos:Pos}(hg:Gl X "range") (hm:X.mg "range" =none) (ha:PA X [a] ta) (hs:starEach [a] X.env= [(false,eval a X.env)]:=by rfl):PI X tg (.Call (.Name "range" p) [a] [] pos) (zec ta):=by
 intro pins s σ H R I h
 refine Call_ (jQ I hg hm boot_range (PyProof.Rows.callWith_type1 (thn (ha pos pins s σ H _ I h) fun us s1 ⟨vs,H1,I1,r1,q1⟩=>?_) hs rfl))
 obtain⟨j,e,q1,q2,q⟩:=q1
 subst e
 cases r1 with
 | cons r rr=>
  cases rr
  obtain⟨t,rfl⟩:=r
  exact call_range_1 (kX I1 (by omega) (by omega) q1 q2 (by simpa using q))
noncomputable def tFor (wi:TI) (g:TG) (tb:TS):TS:=fun D σ H=>wi σ H fun J H1=>∃ W:Nat->Nat->St->Hp->Prop,(∃ m,W 0 m σ H1)/\∀ i m σ H,W i m σ H ->
 (J.stop i H/\D.nx σ H)∨(J.go i H/\∃ N:St->Hp->Prop,(∀ σ' H',N σ' H'->∃ m',m'<m/\W (i+1) m' σ' H')/\∀ x H',J.yld i H x H'->g x σ H' fun σ2 H2=>tb { D with nx:=N,ct:=N,bk:=D.nx } σ2 H2)
noncomputable def ZK (fp:List Addr) (h:Heap):List (Addr×Obj):=fp.filterMap fun b=>(h.get? b).map fun o=>(b,o)
theorem qv {fp:List Addr}{h:Heap}{b:Addr}{o:Obj}(hb:b∈fp) (e:h.get? b=some o):(b,o)∈ZK fp h:=List.mem_filterMap.mpr ⟨b,hb,by rw[e]; rfl⟩
theorem yS {fp:List Addr}{h:Heap}{p:Addr×Obj}(hp:p∈ZK fp h):p.1∈fp/\h.get? p.1=some p.2:=by
 obtain⟨b,hb,e⟩:=List.mem_filterMap.mp hp
 cases q:h.get? b with
 | none=>rw[q] at e; cases e
 | some o=>
  rw[q] at e
  have e':(b,o)=p:=Option.some.inj e
  subst e'
  exact⟨hb,q⟩
theorem Inv.pinned {pins:List (Addr×Obj)}{σ:St}{H:Hp}{s:Shared}{fp:List Addr}(I:Inv X pins σ H s) (hf:∀ b∈fp,jA X pins H b) (ho:∀ b∈fp,∃ o,s.heap.get? b=some o/\∀ v,o.data≠ .cell v):Inv X (pins++ZK fp s.heap) σ H s :=
 I.pins_of fun p hp=>(List.mem_append.mp hp).elim (fun z=>I.pin p (List.mem_append_right _ z)) fun z=>by
  obtain⟨hb,e⟩:=yS z
  obtain⟨f0,f1,f2,_⟩:=hf p.1 hb
  obtain⟨o,e',d⟩:=ho p.1 hb
  rw[e] at e'; cases e'
  exact⟨e,f0,f1,f2,d⟩
theorem Inv.unpinned {pins pl:List (Addr×Obj)}{σ:St}{H:Hp}{s:Shared}(I:Inv X (pins++pl) σ H s):Inv X pins σ H s:=I.pins_of fun p hp=>I.pin p (List.mem_append_right _ (List.mem_append_left _ hp))
theorem kP {iter:Expr}{body:List Stmt}{wi:TI}{g:TG}{tb:TS}{pos:Pos}(hp:PassesOwn (model X.prog X.w) X.A X.env X.xe) (hc:X.calm=true) (hi:PI X tg iter wi) (hg:PG X tg g) (hb:PSs X body tb)
  (hs:∀ x,foldedSetIterable iter X.env x=pure x:=by intro _; rfl):PS X (.For tg iter body [] pos) (tFor wi g tb):=by
 intro pins s σ H D I h
 refine wpAny_For (thn (hi pins s σ H _ I h) fun v s1 h1=>thn h1 fun itv s2 h2=>?_) hs
 obtain⟨it,fp,tn,J,H2,e,I2,T,st2,f2,W,⟨m0,w0⟩,turn⟩:=h2
 subst e
 -- what stays true of the iterator's objects through the loop
 have stat:∀ {H':Hp},(∀ b∈fp,H' b=none)->∀ b∈fp,jA X pins H' b:=fun hn b hb=>⟨hn b hb,(f2 b hb).2⟩
 refine codeAny_forLoop_any (fun n s'=>∃ i σ' H',Inv X pins σ' H' s'/\tn i s'.heap/\(∀ b∈fp,H' b=none)/\W i n σ' H') ?_ m0 ⟨0,σ,H2,I2,st2,fun b hb=>(f2 b hb).1,w0⟩
 rintro n s3 ⟨i,σ3,H3,I3,st3,fr3,w3⟩
 rcases turn i n σ3 H3 w3 with ⟨stop,qn⟩ | ⟨go,N,hN,step⟩
 ·refine wpAny_passesOwn hp (thn (T.done X rfl rfl rfl hc i pins s3 σ3 H3 X.xe I3 (stat fr3) st3 stop) fun r s4 ⟨hr,I4⟩=>?_)
  subst hr
  exact wpAny_execs_nil ⟨σ3,H3,I4,qn⟩
 ·refine wpAny_passesOwn hp (thn (T.item X rfl rfl rfl hc i pins s3 σ3 H3 X.xe I3 (stat fr3) st3 go) fun r s4 ⟨u,hr,h4⟩=>?_)
  subst hr
  refine wpAny_passesOwn hp (thn h4 fun _ s5 ⟨x,H5,I5,r5,y5,st5,fr5⟩=>?_)
  have I5':=I5.pinned (stat fr5) (T.obj _ _ st5)
  refine wpAny_passesOwn hp (thn (hg _ s5 σ3 H5 x u _ I5' r5 (step x H5 y5)) fun _ s6 ⟨σ6,H6,I6,q6⟩=>?_)
  refine wpAny_passesOwn hp (thn (hb _ s6 σ6 H6 _ I6 q6) fun f s7 q7=>?_)
  have again:∀ {σ7:St} {H7:Hp},Inv X (pins++ZK fp s5.heap) σ7 H7 s7->N σ7 H7->∃ m,m<n/\∃ i σ' H',Inv X pins σ' H' s7/\tn i s7.heap/\(∀ b∈fp,H' b=none)/\W i m σ' H':=fun {σ7 H7} I7 n7=>by
   obtain⟨m',hm,w7⟩:=hN σ7 H7 n7
   refine⟨m',hm,i+1,σ7,H7,I7.unpinned,T.keep _ _ _ st5 fun b hb o e=>(I7.pin (b,o) (List.mem_append_right _ (List.mem_append_right _ (qv hb e)))).1,fun b hb=>?_,w7⟩
   obtain⟨o,e,d⟩:=T.obj _ _ st5 b hb
   exact (I7.pin (b,o) (List.mem_append_right _ (List.mem_append_right _ (qv hb e)))).2.1
  cases f with
  | next=>obtain⟨σ7,H7,I7,n7⟩:=q7; exact again I7 n7
  | cont=>obtain⟨σ7,H7,I7,n7⟩:=q7; exact again I7 n7
  | brk=>obtain⟨σ7,H7,I7,q7⟩:=q7; exact⟨σ7,H7,I7.unpinned,q7⟩
  | ret v=>obtain⟨x7,σ7,H7,I7,r7,q7⟩:=q7; exact⟨x7,σ7,H7,I7.unpinned,r7,q7⟩
end
theorem YT {K:PySem.W.Frag}{a:Addr}{xs:List V}{g:TG}{tb:TS}{D:qy}{σ:St}{H:Hp}(Pv:Nat->St->Hp->Prop) (h0:Pv 0 σ H) (hl:∀ i σ H,i<=xs.length->Pv i σ H->SqL K H a xs)
  (hs:∀ i x σ H,xs[i]?=some x->Pv i σ H->g x σ H fun σ2 H2=>tb { D with nx:=Pv (i+1),ct:=Pv (i+1),bk:=D.nx } σ2 H2) (hd:∀ σ H,Pv xs.length σ H->D.nx σ H) :
  ∃ W:Nat->Nat->St->Hp->Prop,(∃ m,W 0 m σ H)/\∀ i m σ H,W i m σ H ->
   ((Itl K a).stop i H/\D.nx σ H)∨((Itl K a).go i H/\∃ N:St->Hp->Prop,(∀ σ' H',N σ' H'->∃ m',m'<m/\W (i+1) m' σ' H')/\∀ x H',(Itl K a).yld i H x H'->g x σ H' fun σ2 H2=>tb { D with nx:=N,ct:=N,bk:=D.nx } σ2 H2):=by
 refine⟨fun i m σ H=>m=xs.length-i/\i<=xs.length/\Pv i σ H,⟨xs.length,by simp,Nat.zero_le _,h0⟩,?_⟩
 rintro i m σ H ⟨rfl,hi,p⟩
 have q:=hl i σ H hi p
 by_cases hlt:i<xs.length
 ·refine .inr ⟨⟨xs,xs[i],q,by simp[hlt]⟩,Pv (i+1),fun σ' H' p'=>⟨xs.length-(i+1),by omega,rfl,hlt,p'⟩,fun x H' y=>?_⟩
  obtain⟨e,y⟩:=y
  subst e
  exact hs i x σ _ (y xs q) p
 ·have e:i=xs.length:=by omega
  subst e
  exact .inl ⟨⟨xs,q,Nat.le_refl _⟩,hd σ H p⟩
end L2
namespace L2
open PySem PySem.Spec PyProof.Rows
noncomputable abbrev R2:=V->V->Hp->VK->Prop
noncomputable def OpR (X:Cx) (f:Value->Value->Sem Value) (r:R2):Prop :=
 ∀ (pins:List (Addr×Obj)) (s:Shared) (σ:St) (H:Hp) (x y:V) (v u:Value) (Q:VK),Inv X pins σ H s->RelV x v->RelV y u->r x y H Q ->
  wpAny (model X.prog X.w) X.A (f v u) (EP X pins σ Q) X.xe s
noncomputable def UnR (X:Cx) (f:Value->Sem Value) (r:V->Hp->VK->Prop):Prop :=
 ∀ (pins:List (Addr×Obj)) (s:Shared) (σ:St) (H:Hp) (x:V) (v:Value) (Q:VK),Inv X pins σ H s->RelV x v->r x H Q ->
  wpAny (model X.prog X.w) X.A (f v) (EP X pins σ Q) X.xe s
noncomputable def qz (X:Cx) (f:Value) (r:List V->Hp->VK->Prop):Prop :=
 ∀ (pins:List (Addr×Obj)) (s:Shared) (σ:St) (H:Hp) (xs:List V) (us:List Value) (Q:VK),Inv X pins σ H s->Vals xs us->r xs H Q ->
  wpAny (model X.prog X.w) X.A (call f us) (EP X pins σ Q) X.xe s
noncomputable def TruR (X:Cx) (r:V->Hp->(Bool->Hp->Prop)->Prop):Prop :=
 ∀ (pins:List (Addr×Obj)) (s:Shared) (σ:St) (H:Hp) (x:V) (v:Value) (Q:Bool->Hp->Prop),Inv X pins σ H s->RelV x v->r x H Q ->
  wpAny (model X.prog X.w) X.A (truthy v) (TP X pins σ Q) X.xe s
noncomputable def tOp (r:R2) (ta tb:TE):TE:=fun σ H Q=>ta σ H fun x H1=>tb σ H1 fun y H2=>r x y H2 Q
noncomputable def tUn (r:V->Hp->VK->Prop) (ta:TE):TE:=fun σ H Q=>ta σ H fun x H1=>r x H1 Q
noncomputable def rI (C:Int->Int->Prop) (g:Int->Int->V):R2:=fun x y H Q=>∃ i j,x=.int i/\y=.int j/\C i j/\Q (g i j) H
noncomputable def rI0 (g:Int->Int->V):R2:=fun x y H Q=>∃ i j,x=.int i/\y=.int j/\Q (g i j) H
noncomputable def rU (g:Int->V):V->Hp->VK->Prop:=fun x H Q=>∃ i,x=.int i/\Q (g i) H
section
variable {X:Cx} {a b c:Expr} {ta tb tc:TE} {pos:Pos}
theorem zb5 (ha:PE X a ta) (hb:PE X b tb){pins:List (Addr×Obj)}{s:Shared}{σ:St}{H:Hp}{R:V->V->Hp->Prop}(I:Inv X pins σ H s)
  (h:ta σ H fun x H1=>tb σ H1 fun y H2=>R x y H2) {Q:Value->Shared->Prop} {f:Value->Value->Sem Value}
  (hf:∀ v u s2 x y H2,Inv X pins σ H2 s2->RelV x v->RelV y u->R x y H2->wpAny (model X.prog X.w) X.A (f v u) Q X.xe s2) :
  wpAny (model X.prog X.w) X.A (eval a X.env) (fun v s₁=>wpAny (model X.prog X.w) X.A (eval b X.env) (fun u s₂=>wpAny (model X.prog X.w) X.A (f v u) Q X.xe s₂) X.xe s₁) X.xe s:=by
 refine thn (ha pins s σ H _ I h) fun v s1 ⟨x,H1,I1,r1,q1⟩=>?_
 refine thn (hb pins s1 σ H1 _ I1 q1) fun u s2 ⟨y,H2,I2,r2,q2⟩=>?_
 exact hf v u s2 x y H2 I2 r1 r2 q2
theorem wd {op:Operator}{r:R2}(ho:OpR X (binaryOp op) r) (ha:PE X a ta) (hb:PE X b tb):PE X (.BinOp a op b pos) (tOp r ta tb):=by
 intro pins s σ H Q I h
 exact wpAny_BinOp (zb5 ha hb I h fun v u s2 x y H2 I2 rx ry q=>ho pins s2 σ H2 x y v u Q I2 rx ry q)
theorem zbQ {op:UnaryOp}{r:V->Hp->VK->Prop}(ho:UnR X (unaryOp op) r) (ha:PE X a ta):PE X (.UnaryOp op a pos) (tUn r ta):=by
 intro pins s σ H Q I h
 exact UnaryOp_ (thn (ha pins s σ H _ I h) fun v s1 ⟨x,H1,I1,r1,q1⟩=>ho pins s1 σ H1 x v Q I1 r1 q1)
theorem opI {f:Value->Value->Sem Value}{C:Int->Int->Prop}{g:Int->Int->Int}
  (rule:∀ (i j:Int) (t u:Tok) (s:Shared) (Q:Value->Shared->Prop) (E:Value->Shared->Prop),C i j->Q (.int (g i j) s.toks) { s with toks:=s.toks+1 }->wpAny (model X.prog X.w) X.A (f (.int i t) (.int j u)) Q E s) :
  OpR X f (rI C fun i j=>.int (g i j)):=by
 intro pins s σ H x y v u Q I rx ry h
 obtain⟨i,j,rfl,rfl,hc,q⟩:=h
 obtain⟨t,rfl⟩:=rx
 obtain⟨t',rfl⟩:=ry
 exact rule i j t t' s _ _ hc ⟨.int (g i j),H,I.tok _,⟨_,rfl⟩,q⟩
theorem zcK {f:Value->Value->Sem Value}{g:Int->Int->Int}
  (rule:∀ (i j:Int) (t u:Tok) (s:Shared) (Q:Value->Shared->Prop) (E:Value->Shared->Prop),Q (.int (g i j) s.toks) { s with toks:=s.toks+1 }->wpAny (model X.prog X.w) X.A (f (.int i t) (.int j u)) Q E s) :
  OpR X f (rI0 fun i j=>.int (g i j)):=by
 intro pins s σ H x y v u Q I rx ry h
 obtain⟨i,j,rfl,rfl,q⟩:=h
 obtain⟨t,rfl⟩:=rx
 obtain⟨t',rfl⟩:=ry
 exact rule i j t t' s _ _ ⟨.int (g i j),H,I.tok _,⟨_,rfl⟩,q⟩
theorem zay {f:Value->Value->Sem Value}{g:Int->Int->Bool}
  (rule:∀ (i j:Int) (t u:Tok) (s:Shared) (Q:Value->Shared->Prop) (E:Value->Shared->Prop),Q (.bool (g i j)) s->wpAny (model X.prog X.w) X.A (f (.int i t) (.int j u)) Q E s) :
  OpR X f (rI0 fun i j=>.bl (g i j)):=by
 intro pins s σ H x y v u Q I rx ry h
 obtain⟨i,j,rfl,rfl,q⟩:=h
 obtain⟨t,rfl⟩:=rx
 obtain⟨t',rfl⟩:=ry
 exact rule i j t t' s _ _ ⟨.bl (g i j),H,I,rfl,q⟩
noncomputable def CDiv (i j:Int):Prop:=0<j/\j<1073741824
noncomputable def zdO (i j:Int):Prop:=0<=j/\j<=1000000/\i.natAbs<2 ^ 64
noncomputable def CMul (i j:Int):Prop:=(-(2 ^ 64)<i/\i<2 ^ 64)∨(-(2 ^ 64)<j/\j<2 ^ 64)
theorem CMul.ok {i j:Int}(h:CMul i j):IntMulOk i j:=by
 rcases h with ⟨h1,h2⟩ | ⟨h1,h2⟩
 ·exact .of_left (intBits_le_64 h1 h2)
 ·exact .of_right (intBits_le_64 h1 h2)
theorem Vn (k:Nat):(0:Int)<=2 ^ k:=by
 rw[two_pow_cast]
 exact Int.natCast_nonneg _
theorem v6:OpR X (binaryOp .Add) (rI0 fun i j=>.int (i+j)):=zcK fun _ _ _ _ _ _ _ q=>add_int q
theorem zcR:OpR X (binaryOp .Sub) (rI0 fun i j=>.int (i-j)):=zcK fun _ _ _ _ _ _ _ q=>sub_int q
theorem kB:OpR X (binaryOp .Mult) (rI CMul fun i j=>.int (i*j)):=opI fun _ _ _ _ _ _ _ hc q=>mul_int q hc.ok
theorem zaz:OpR X (binaryOp .FloorDiv) (rI CDiv fun i j=>.int (i / j)):=opI fun i j _ _ _ _ _ hc q=>by
 have h1:(0:Int)<j:=hc.1
 have h2:j<1073741824:=hc.2
 exact floordiv_int (by omega) (by rw[Int.fdiv_eq_ediv_of_nonneg i (by omega)]; exact q) (.inl (PyProof.noPylong_small (by omega)))
theorem kA:OpR X (binaryOp .Mod) (rI (fun _ j=>0<j) fun i j=>.int (i % j)):=opI fun i j _ _ _ _ _ hc q=>by
 have h1:(0:Int)<j:=hc
 exact mod_int' (by omega) (by rw[Int.fmod_eq_emod_of_nonneg i (by omega)]; exact q)
theorem zcO:OpR X (binaryOp .Pow) (rI zdO fun i j=>.int (i ^ j.toNat)):=opI fun _ _ _ _ _ _ _ hc q=>pow_int_small hc.1 hc.2.1 hc.2.2 q
theorem zcP:OpR X (binaryOp .LShift) (rI zdO fun i j=>.int (i*2 ^ j.toNat)):=opI fun _ _ _ _ _ _ _ hc q=>lshift_int_small hc.1 hc.2.1 hc.2.2 q
theorem zcQ:OpR X (binaryOp .RShift) (rI (fun _ j=>0<=j) fun i j=>.int (i / 2 ^ j.toNat)):=opI fun i j _ _ _ _ _ hc q=>
 rshift_int hc (by rw[Int.fdiv_eq_ediv_of_nonneg i (Vn _)]; exact q)
theorem zcL:OpR X (binaryOp .BitAnd) (rI0 fun i j=>.int (Builtin.bitAnd i j)):=zcK fun _ _ _ _ _ _ _ q=>and_int q
theorem unI {f:Value->Sem Value}{g:Int->Int}
  (rule:∀ (i:Int) (t:Tok) (s:Shared) (Q:Value->Shared->Prop) (E:Value->Shared->Prop),Q (.int (g i) s.toks) { s with toks:=s.toks+1 }->wpAny (model X.prog X.w) X.A (f (.int i t)) Q E s) :
  UnR X f (rU fun i=>.int (g i)):=by
 intro pins s σ H x v Q I rx h
 obtain⟨i,rfl,q⟩:=h
 obtain⟨t,rfl⟩:=rx
 exact rule i t s _ _ ⟨.int (g i),H,I.tok _,⟨_,rfl⟩,q⟩
theorem zdI:UnR X (unaryOp .USub) (rU fun i=>.int (-i)):=unI fun _ _ _ _ _ q=>neg_int q
end
section
variable {X:Cx} {a b c:Expr} {ta tb tc:TE} {pos:Pos}
theorem YS {pins:List (Addr×Obj)}{σ:St}{H:Hp}{s:Shared}{Q:VK}{k k':Bool}(I:Inv X pins σ H s) (q:Q (.bl k) H) (e:k=k'):EP X pins σ Q (.bool k') s:=by
 subst e
 exact⟨.bl k,H,I,rfl,q⟩
theorem zem:OpR X (compareOp .Lt) (rI0 fun i j=>.bl (decide (i<j))):=zay fun _ _ _ _ _ _ _ q=>lt_int q
theorem zel:OpR X (compareOp .LtE) (rI0 fun i j=>.bl (decide (i<=j))):=zay fun _ _ _ _ _ _ _ q=>le_int q
theorem zek:OpR X (compareOp .Gt) (rI0 fun i j=>.bl (decide (j<i))):=zay fun _ _ _ _ _ _ _ q=>gt_int q
theorem zej:OpR X (compareOp .GtE) (rI0 fun i j=>.bl (decide (j<=i))):=zay fun _ _ _ _ _ _ _ q=>ge_int q
theorem zcN:OpR X (compareOp .Is) (fun x y H Q=>y=.non/\Q (.bl (decide (x=.non))) H):=by
 intro pins s σ H x y v u Q I rx ry h
 obtain⟨rfl,q⟩:=h
 cases ry
 refine is_none_gen (YS I q ?_)
 cases x <;> first
  | (cases rx; rfl)
  | (obtain⟨t,rfl⟩:=rx; rfl)
theorem zaA:OpR X (compareOp .IsNot) (fun x y H Q=>y=.non/\Q (.bl (!decide (x=.non))) H):=by
 intro pins s σ H x y v u Q I rx ry h
 obtain⟨rfl,q⟩:=h
 cases ry
 refine isnot_none_gen (YS I q ?_)
 cases x <;> first
  | (cases rx; rfl)
  | (obtain⟨t,rfl⟩:=rx; rfl)
theorem zaE {op:CmpOp}{r:R2}(ho:OpR X (compareOp op) r) (ha:PE X a ta) (hb:PE X b tb) (hm:behindInMarks op b=false):PE X (.Compare a [op] [b] pos) (tOp r ta tb):=by
 intro pins s σ H Q I h
 exact wpAny_Compare1 (zb5 ha hb I h fun v u s2 x y H2 I2 rx ry q=>ho pins s2 σ H2 x y v u Q I2 rx ry q) hm
noncomputable def zbW (t:TE):TT:=fun σ H Q=>t σ H fun x H'=>∃ k,x=.bl k/\Q k H'
theorem zaM {op:CmpOp}{r:R2}(ho:OpR X (compareOp op) r) (ha:PE X a ta) (hb:PE X b tb) (hm:behindInMarks op b=false):PT X (.Compare a [op] [b] pos) (zbW (tOp r ta tb)):=by
 intro pins s σ H Q I h
 refine wpAny_isTrue_Compare1 (thn (ha pins s σ H _ I h) fun v s1 ⟨x,H1,I1,r1,q1⟩=>thn (hb pins s1 σ H1 _ I1 q1) fun u s2 ⟨y,H2,I2,r2,q2⟩=>
  thn (ho pins s2 σ H2 x y v u _ I2 r1 r2 q2) fun c s3 ⟨z,H3,I3,r3,k,e,q3⟩=>?_) hm
 subst e
 cases r3
 exact wpAny_truthy_bool ⟨H3,I3,q3⟩
noncomputable def Vi (r r':R2) (ta tb tc:TE):TE:=fun σ H Q=>ta σ H fun x H1=>tb σ H1 fun y H2=>r x y H2 fun z H3=>∃ k,z=.bl k /\
 (if k=true then tc σ H3 fun w' H4=>r' y w' H4 Q else Q (.bl false) H3)
theorem kD {op op':CmpOp}{r r':R2}(ho:OpR X (compareOp op) r) (ho':OpR X (compareOp op') r') (ha:PE X a ta) (hb:PE X b tb) (hc:PE X c tc)
  (hm:lastMarks [op,op'] [b,c]=false:=by with_unfolding_all rfl):PE X (.Compare a [op,op'] [b,c] pos) (Vi r r' ta tb tc):=by
 intro pins s σ H Q I h
 refine Compare_chain (thn (ha pins s σ H _ I h) fun v s1 ⟨x,H1,I1,r1,q1⟩=>chain_link (thn (hb pins s1 σ H1 _ I1 q1) fun u s2 ⟨y,H2,I2,r2,q2⟩=>
  thn (ho pins s2 σ H2 x y v u _ I2 r1 r2 q2) fun d s3 ⟨z,H3,I3,r3,k,e,q3⟩=>?_)) hm
 subst e
 cases r3
 refine wpAny_truthy_bool ?_
 cases k with
 | false=>exact ite_ff ⟨.bl false,H3,I3,rfl,q3⟩
 | true=>exact ite_tt (chain_last (thn (hc pins s3 σ H3 _ I3 q3) fun w' s4 ⟨z',H4,I4,r4,q4⟩=>ho' pins s4 σ H4 y z' u w' Q I4 r2 r4 q4))
theorem kT {op op':CmpOp}{r r':R2}(ho:OpR X (compareOp op) r) (ho':OpR X (compareOp op') r') (ha:PE X a ta) (hb:PE X b tb) (hc:PE X c tc)
  (hm:lastMarks [op,op'] [b,c]=false:=by with_unfolding_all rfl):PT X (.Compare a [op,op'] [b,c] pos) (zbW (Vi r r' ta tb tc)):=by
 intro pins s σ H Q I h
 refine isTrue_chain (thn (ha pins s σ H _ I h) fun v s1 ⟨x,H1,I1,r1,q1⟩=>test_link (thn (hb pins s1 σ H1 _ I1 q1) fun u s2 ⟨y,H2,I2,r2,q2⟩=>
  thn (ho pins s2 σ H2 x y v u _ I2 r1 r2 q2) fun d s3 ⟨z,H3,I3,r3,k,e,q3⟩=>?_)) hm
 subst e
 cases r3
 refine wpAny_truthy_bool ?_
 cases k with
 | false=>
  obtain⟨k',e',q'⟩:=q3
  cases e'
  exact ite_ff ⟨H3,I3,q'⟩
 | true=>
  refine ite_tt (test_last (thn (hc pins s3 σ H3 _ I3 q3) fun w' s4 ⟨z',H4,I4,r4,q4⟩=>thn (ho' pins s4 σ H4 y z' u w' _ I4 r2 r4 q4) fun d' s5 ⟨z2,H5,I5,r5,k2,e2,q5⟩=>?_))
  subst e2
  cases r5
  exact wpAny_truthy_bool ⟨H5,I5,q5⟩
noncomputable def K3 (K:PySem.W.Frag) (x:V) (H:Hp) (k:Bool):Prop :=
 match x with
 | .non=>k=false
 | .bl b=>k=b
 | .int i=>k=(i !=0)
 | .str y=>y.length<=sizeLine/\k=((y.length:Int) !=0)
 | .byt y=>y.size<=sizeLine/\k=((y.size:Int) !=0)
 | .ref p=>(∃ xs,SqL K H p xs/\k= !xs.isEmpty)∨(∃ xs,SqT K H p xs/\k= !xs.isEmpty)∨∃ kvs,H p=some (.dK kvs)/\k= !kvs.isEmpty
 | _=>False
theorem vY {κ:Type}{kvs:List (κ×V)}{vs:List (κ×Value)}(r:KV kvs vs):(!vs.isEmpty)= !kvs.isEmpty:=by
 cases r <;> rfl
theorem Q8 {xs:List V}{its:List Value}(r:Vals xs its):(!its.toArray.isEmpty)= !xs.isEmpty:=by
 cases r <;> simp
theorem Ja:(sizeLine:Nat)<2 ^ 63:=by rw[sizeLine_eq]; decide
theorem Kw:TruR X (fun x H Q=>∃ k,K3 X.K x H k/\Q k H):=by
 intro pins s σ H x v Q I rx h
 obtain⟨k,e,q⟩:=h
 have hl:=Ja
 have hs:sizeLine=16777216:=sizeLine_eq
 cases x with
 | non=>
  cases rx
  have e':k=false:=e
  subst e'
  exact truthy_none ⟨H,I,q⟩
 | bl b=>
  cases rx
  have e':k=b:=e
  subst e'
  exact wpAny_truthy_bool ⟨H,I,q⟩
 | int i=>
  obtain⟨t,rfl⟩:=rx
  have e':k=(i !=0):=e
  subst e'
  exact PySem.P.truthy_int ⟨H,I,q⟩
 | str y=>
  obtain⟨t,rfl⟩:=rx
  obtain⟨hy,e'⟩:y.length<=sizeLine/\k=((y.length:Int) !=0):=e
  subst e'
  exact PySem.P.truthy_str (by omega) ⟨H,I.tok _,q⟩
 | byt y=>
  obtain⟨t,rfl⟩:=rx
  obtain⟨hy,e'⟩:y.size<=sizeLine/\k=((y.size:Int) !=0):=e
  subst e'
  exact PySem.W.truthy_bytes (by omega) ⟨H,I.tok _,q⟩
 | ref p=>
  cases rx
  have e':(∃ xs,SqL X.K H p xs/\k= !xs.isEmpty)∨(∃ xs,SqT X.K H p xs/\k= !xs.isEmpty)∨∃ kvs,H p=some (.dK kvs)/\k= !kvs.isEmpty:=e
  rcases e' with ⟨xs,hx,e'⟩ | ⟨xs,hx,e'⟩ | ⟨kvs,hx,e'⟩
  ·subst e'
   obtain⟨its,r,pl,hz⟩:=I.list hx
   have hlen:=r.length
   exact wpAny_truthy_list pl.isList (by simp only[List.size_toArray]; omega) ⟨H,I.tok _,by rw[Q8 r]; exact q⟩
  ·subst e'
   obtain⟨its,r,pl,hz⟩:=I.tuple hx
   have hlen:=r.length
   exact truthy_tuple pl (by simp only[List.size_toArray]; omega) ⟨H,I.tok _,by rw[Q8 r]; exact q⟩
  ·subst e'
   obtain⟨hz,hS,vs,r,m⟩:kvs.length<=sizeLine/\(p==sysModules)=false/\∃ vs,KV kvs vs/\s.heap.DictOf (qj X.prog X.w) p vs:=I.hok p _ hx
   have hlen:kvs.length=vs.length:=Paired.length r
   exact wpAny_truthy_dict hS m (by omega) ⟨H,I.tok _,by rw[vY r]; exact q⟩
 | _=>exact (show False from e).elim
theorem kU (ha:PE X a ta) (he:∀ whole,isTrue a X.env whole=(do let v<-whole; standAt a.pos; holding [v] (truthy v))) :
  PT X a (fun σ H Q=>ta σ H fun x H'=>∃ k,K3 X.K x H' k/\Q k H'):=by
 intro pins s σ H Q I h
 exact isTrue_plain (thn (ha pins s σ H _ I h) fun v s1 ⟨x,H1,I1,r1,q1⟩=>Kw pins s1 σ H1 x v Q I1 r1 q1) (he _)
theorem jE {x:V}{us:List Value}(r:Vals [x] us):∃ u,us= [u]/\RelV x u:=by
 cases r with
 | cons r1 r2=>cases r2; exact⟨_,rfl,r1⟩
theorem KM {x y:V}{us:List Value}(r:Vals [x,y] us):∃ u w',us= [u,w']/\RelV x u/\RelV y w':=by
 cases r with
 | cons r1 r2=>
  cases r2 with
  | cons r3 r4=>cases r4; exact⟨_,_,rfl,r1,r3⟩
theorem yB (hc:X.calm=true):qz X (.builtin "max") (fun xs H Q=>∃ i j,xs= [.int i,.int j]/\Q (.int (if j>i then j else i)) H):=by
 intro pins s σ H xs us Q I r h
 obtain⟨i,j,rfl,q⟩:=h
 obtain⟨u,w',rfl,⟨t,rfl⟩,⟨t',rfl⟩⟩:=KM r
 refine max_two_ints (I.ok.hd hc) fun h' tk k=>⟨_,H,I.kept k,?_,q⟩
 by_cases hj:j>i
 ·rw[if_pos hj,if_pos hj]; exact⟨_,rfl⟩
 ·rw[if_neg hj,if_neg hj]; exact⟨_,rfl⟩
theorem yD (hc:X.calm=true):qz X (.builtin "min") (fun xs H Q=>∃ i j,xs= [.int i,.int j]/\Q (.int (if j<i then j else i)) H):=by
 intro pins s σ H xs us Q I r h
 obtain⟨i,j,rfl,q⟩:=h
 obtain⟨u,w',rfl,⟨t,rfl⟩,⟨t',rfl⟩⟩:=KM r
 refine min_two_ints (I.ok.hd hc) fun h' tk k=>⟨_,H,I.kept k,?_,q⟩
 by_cases hj:j<i
 ·rw[if_pos hj,if_pos hj]; exact⟨_,rfl⟩
 ·rw[if_neg hj,if_neg hj]; exact⟨_,rfl⟩
theorem JT:qz X (.type "int") (fun xs H Q=>(∃ i,xs= [.int i]/\Q (.int i) H)∨∃ k,xs= [.bl k]/\Q (.int (if k then 1 else 0)) H):=by
 intro pins s σ H xs us Q I r h
 rcases h with ⟨i,rfl,q⟩ | ⟨k,rfl,q⟩
 ·obtain⟨u,rfl,t,rfl⟩:=jE r
  exact call_int_int ⟨.int i,H,I,⟨_,rfl⟩,q⟩
 ·obtain⟨u,rfl,r1⟩:=jE r
  cases r1
  exact call_int_bool ⟨.int (if k then 1 else 0),H,I.tok _,⟨_,rfl⟩,q⟩
end
end L2
namespace L2
open PySem PySem.Spec PyProof.Rows
structure ObjM (h:Heap) (x dx C:Addr) (mA:Str->Option Value):Prop where
 obj:h.get? x=some (PySem.W.instObj C dx)
 ns:h.Ns1 dx mA
 ne:dx≠x
theorem yQ {h:Heap}{dx:Addr}{mA:Str->Option Value}(n:h.Ns1 dx mA):∃ od,h.get? dx=some od/\∀ name,PySem.W.lookIn name od=some (mA name):=by
 obtain⟨o,es,ep,ho,hd,hk,_,hm⟩:=n
 refine⟨o,ho,fun name=>?_⟩
 have e:=hm name
 unfold nsFind findBy at e
 rw[<- Array.find?_toList] at e
 unfold PySem.W.lookIn
 rw[hd]
 dsimp only
 split
 ·rename_i y q
  rw[q] at e
  exact congrArg some e
 ·rename_i q
  rw[q] at e
  have a:es.toList.any (·.refKey)=false:=by
   rw[List.any_eq_false]
   intro y hy
   obtain⟨z,t,hkey⟩:=hk y (Array.mem_toList_iff.mp hy)
   simp[DictEntry.refKey,hkey]
  have a':¬ es.toList.any (·.refKey)=true:=by rw[a]; exact Bool.false_ne_true
  rw[if_neg a']
  exact congrArg some e
theorem ObjM.look {h:Heap}{x dx C:Addr}{mA:Str->Option Value}(I:ObjM h x dx C mA):∃ od,PySem.W.InstAt h x (PySem.W.instObj C dx) C (some od)/\∀ name,PySem.W.lookIn name od=some (mA name) :=
 let ⟨od,ho,hl⟩:=yQ I.ns
 ⟨od,⟨I.obj,rfl,rfl,ho⟩,hl⟩
section
variable {prog:Program} {w:World} {A:Around} {E:Value->Shared->Prop} {s:Shared} {K:PySem.W.Frag} {x dx C f:Addr} {mA:Str->Option Value} {name:Str} {v:Value}
end
section
variable {P:Program} {w:World} {H H':Hp} {h h':Heap} {a C dx:Addr} {fs fs':List (Str×V)}
theorem zan (hok:HOk P w H h) (e:H a=some (.ins C dx fs)):∃ mA,ObjM h a dx C mA/\(∀ f,RelO (fs.lookup f) (mA f))/\PySem.Within mA (fs.map (·.1))/\fs.length<=1000/\H dx=some (.own a):=by
 obtain⟨d,z,ne,ob,mA,n,r,q⟩:=(show ObjOk P w H h a (.ins C dx fs) from hok a _ e)
 exact⟨mA,⟨ob,n,ne⟩,r,q,z,d⟩
end
structure Cls (K:PySem.W.Frag) (C:Addr):Prop where
 pg:PySem.W.plainGet K C Str.empty=true
 hd:PySem.W.hasDictIn K C=true
 po:PySem.W.plainOver K C=true
 sa:PySem.W.findIn K (.ref C) "__setattr__" =some (some (.builtin "object.__setattr__"))
theorem Cls.get {K:PySem.W.Frag}{C:Addr}(c:Cls K C) (f:Str):PySem.W.plainGet K C f=true:=c.pg
noncomputable def jF (K:PySem.W.Frag) (C:Addr) (f:Str):Prop:=PySem.W.findIn K (.ref C) f=some none
structure zbZ (K:PySem.W.Frag) (C:Addr) (m:Str) (f:Addr):Prop where
 at_:PySem.W.findIn K (.ref C) m=some (some (.ref f))
 fn:PySem.W.isFn K (.ref f)=true
 kp:PySem.W.keepIn K (.ref f)=true
section
variable {X:Cx} {pins:List (Addr×Obj)} {σ:St} {H:Hp} {s:Shared} {a C dx:Addr} {fs:List (Str×V)} {f:Str} {v:V} {A:Around} {E:Value->Shared->Prop}
theorem Inv.made (I:Inv X pins σ H s):Inv X pins σ (upd (upd H s.heap.objs.size (.own (s.heap.objs.size+1))) (s.heap.objs.size+1) (.ins C s.heap.objs.size []))
  { s with heap:=(s.heap.push PySem.W.emptyDict).push (PySem.W.instObj C s.heap.objs.size) }:=by
 have e1:(s.heap.push PySem.W.emptyDict).get? s.heap.objs.size=some PySem.W.emptyDict:=Heap.get?_push_size s.heap rfl
 have e2:((s.heap.push PySem.W.emptyDict).push (PySem.W.instObj C s.heap.objs.size)).get? (s.heap.objs.size+1)=some (PySem.W.instObj C s.heap.objs.size):=by
  have:=Heap.get?_push_size (s.heap.push PySem.W.emptyDict) (o:=PySem.W.instObj C s.heap.objs.size) rfl
  rwa [Heap.size_push] at this
 have e3:(s.heap.push PySem.W.emptyDict).Ns s.heap.objs.size (fun _=>none):=⟨PySem.W.emptyDict,#[],_,e1,rfl,(fun e he=>absurd he (by simp)),fun _=>rfl⟩
 have I1:=I.laid (a:=s.heap.objs.size) (o:=.own (s.heap.objs.size+1)) (h':=s.heap.push PySem.W.emptyDict) (t':=s.toks) (fun b u q=>Heap.get?_push_of_some _ q) (Nat.le_refl _) ⟨_,e1⟩
 refine I1.laid (a:=s.heap.objs.size+1) (o:=.ins C s.heap.objs.size []) (t':=s.toks) (fun b u q=>Heap.get?_push_of_some _ q) (Nat.le_of_eq (Heap.size_push _ _)) ?_
 have ne:s.heap.objs.size≠s.heap.objs.size+1:=Nat.ne_of_lt (Nat.lt_succ_self _)
 refine⟨by rw[ze ne,zi],Nat.zero_le _,ne,e2,fun _=>none,(Heap.Ns1.of_empty e3).at fun o q=>Heap.get?_push_of_some _ q,fun _=>True.intro,fun y hy=>absurd rfl hy⟩
end
section
variable {X:Cx} {o e value:Expr} {f:Str} {pos pos' tpos:Pos} {ta tv:TE}
end
section
variable {X:Cx} {pins:List (Addr×Obj)} {σ:St} {H:Hp} {s:Shared} {A:Around} {E:Value->Shared->Prop} {Q:Value->Shared->Prop} {c:Value} {b:Bool}
inductive jV (K:PySem.W.Frag) (H:Hp):V->Value->Prop where
 | non:jV K H .non (.type "NoneType")
 | bl (x:Bool):jV K H (.bl x) (.type "bool")
 | int (i:Int):jV K H (.int i) (.type "int")
 | str (x:Str):jV K H (.str x) (.type "str")
 | flt (x:UInt64):jV K H (.flt x) (.type "float")
 | lst {a:Addr} {xs:List V} (e:H a=some (.lst xs)):jV K H (.ref a) (.type "list")
 | frz {a:Addr} {o:Obj} {xs:List V} (e:H a=some (.frz o (.lst xs))):jV K H (.ref a) (.type "list")
 | tup {a:Addr} {xs:List V} (e:H a=some (.tup xs)):jV K H (.ref a) (.type "tuple")
 | dK {a:Addr} {kvs:List (Key×V)} (e:H a=some (.dK kvs)):jV K H (.ref a) (.type "dict")
 | dT {a:Addr} {kvs:List (List Key×V)} (e:H a=some (.dT kvs)):jV K H (.ref a) (.type "dict")
 | ins {a C dx:Addr} {fs:List (Str×V)} (e:H a=some (.ins C dx fs)) (cl:Cls K C) (ha:PySem.W.findIn K (.ref C) "__class__" =some (some (.builtin "object.__class__")))
   (hn:PySem.W.specialIn K (.builtin "object.__class__") "__get__" =some (some (.builtin "getset_descriptor.__get__"))) (htk:PySem.W.takesIn K (.builtin "object.__class__")=some true)
   (hm:PySem.W.mroIn K C (.type "object")=some true):jV K H (.ref a) (.ref C)
theorem yL {x:V}{u t:Value}(I:Inv X pins σ H s) (rx:RelV x u) (ty:jV X.K H x t) (e:PySem.W.kitOne X.K t c=some b) (h:∀ tk,Q (.bool b) { s with toks:=tk }) :
  wpAny (model X.prog X.w) A (call (.builtin "isinstance") [u,c]) Q E s:=by
 cases ty with
 | non=>cases (show u=Value.none from rx); exact PySem.W.kia_one PySem.W.kitx_none I.kIn True.intro e (fun z=>nomatch z) h
 | bl y=>cases (show u=Value.bool y from rx); exact PySem.W.kia_one PySem.W.kitx_bool I.kIn True.intro e (fun z=>nomatch z) h
 | int i=>obtain⟨t,q⟩:=(show ∃ t,u=Value.int i t from rx); cases q; exact PySem.W.kia_one PySem.W.kitx_int I.kIn True.intro e (fun z=>nomatch z) h
 | str y=>obtain⟨t,q⟩:=(show ∃ t,u=Value.str y t from rx); cases q; exact PySem.W.kia_one PySem.W.kitx_str I.kIn True.intro e (fun z=>nomatch z) h
 | flt y=>obtain⟨t,q⟩:=(show ∃ t,u=Value.float y t from rx); cases q; exact PySem.W.kia_one PySem.W.kitx_float I.kIn True.intro e (fun z=>nomatch z) h
 | @lst a xs ea=>
  cases (show u=Value.ref a from rx)
  obtain⟨_,_,n,_,h1⟩:=(show ObjOk X.prog X.w H s.heap a (.lst xs) from I.hok a _ ea)
  exact PySem.W.kia_one PySem.W.kitx_list I.kIn ⟨_,h1,rfl⟩ e (fun z=>nomatch z) h
 | @frz a ob xs ea=>
  cases (show u=Value.ref a from rx)
  obtain⟨_,_,_,n,_,h1⟩:=(show ObjOk X.prog X.w H s.heap a (.frz ob (.lst xs)) from I.hok a _ ea)
  exact PySem.W.kia_one PySem.W.kitx_list I.kIn ⟨_,h1,rfl⟩ e (fun z=>nomatch z) h
 | @tup a xs ea=>
  cases (show u=Value.ref a from rx)
  obtain⟨_,_,_,p⟩:=(show ObjOk X.prog X.w H s.heap a (.tup xs) from I.hok a _ ea)
  obtain⟨o,h1,h2,_⟩:=p
  exact PySem.W.kia_one PySem.W.kitx_tuple I.kIn ⟨o,h1,h2⟩ e (fun z=>nomatch z) h
 | @dK a kvs ea=>
  cases (show u=Value.ref a from rx)
  obtain⟨_,_,vs,_,p⟩:=(show ObjOk X.prog X.w H s.heap a (.dK kvs) from I.hok a _ ea)
  obtain⟨o,es,ep,h1,h2,_⟩:=p
  exact PySem.W.kia_one PySem.W.kitx_dict I.kIn ⟨o,h1,h2.1⟩ e (fun z=>nomatch z) h
 | @dT a kvs ea=>
  cases (show u=Value.ref a from rx)
  obtain⟨_,_,xs,_,o,es,ep,h1,h2,_⟩:=(show ObjOk X.prog X.w H s.heap a (.dT kvs) from I.hok a _ ea)
  exact PySem.W.kia_one PySem.W.kitx_dict I.kIn ⟨o,h1,h2.1⟩ e (fun z=>nomatch z) h
 | @ins a C dx fs ea cl ha hn htk hm=>
  cases (show u=Value.ref a from rx)
  obtain⟨mA,O,_⟩:=zan I.hok ea
  obtain⟨od,J,_⟩:=O.look
  exact PySem.W.kia_one (PySem.W.kitx_own (cl.get _) cl.hd ha hn htk hm) I.kIn J e (fun z=>nomatch z) h
end
end L2
namespace L2
open PySem PySem.Spec PyProof.Rows
structure Room (k:Nat) (A:Around):Prop where
 hd:A.handled=none
 dp:A.depth+3*k+5<recursionLimit
 un:A.units+16*k+200<cLine
theorem Room.mono {j k:Nat}{A:Around}(r:Room k A) (h:j<=k):Room j A:=⟨r.hd,by have:=r.dp; omega,by have:=r.un; omega⟩
theorem Room.deeper {k:Nat}{A:Around}(r:Room (k+1) A) (env:Env):Room k (A.deeper env) :=
 ⟨r.hd,by have:=r.dp; show A.depth+1+3*k+5<_; omega,by have:=r.un; show A.units+3+16*k+200<_; omega⟩
theorem Room.in1 {k:Nat}{A:Around}(r:Room (k+1) A):Room k A.in1 :=
 ⟨r.hd,by have:=r.dp; show A.depth+3*k+5<_; omega,by have:=r.un; show A.units+1+16*k+200<_; omega⟩
theorem Room.depth {k:Nat}{A:Around}(r:Room k A):A.depth<recursionLimit:=by have:=r.dp; omega
theorem Room.units {k:Nat}{A:Around}(r:Room k A):A.units+64<cLine:=by have:=r.un; omega
noncomputable def zdE:TA:=fun _ H Q=>Q [] H
noncomputable def Kt (ta:TE) (tr:TA):TA:=fun σ H Q=>ta σ H fun x H1=>tr σ H1 fun xs H2=>Q (x::xs) H2
section
variable {X:Cx} {e:Expr} {es:List Expr} {te:TE} {t:TA} {pos:Pos}
theorem pa_nil:PA X [] zdE:=fun _ _ _ _ H Q I h=>Calls.spliced_nil ⟨[],H,I,.nil,h⟩
theorem zp (ha:PE X e te) (hr:PA X es t) (hs:starEach (e::es) X.env=(false,eval e X.env)::starEach es X.env:=by rfl):PA X (e::es) (Kt te t):=by
 intro pos pins s σ H Q I h
 rw[hs]
 show wpAny _ _ (spliced ((false,eval e X.env)::backTo pos (starEach es X.env))) _ _ s
 refine Calls.spliced_cons (thn (ha pins s σ H _ I h) fun u s1 ⟨x,H1,I1,r1,q1⟩=>?_)
 exact thn (hr pos pins s1 σ H1 _ I1 q1) fun us s2 ⟨xs,H2,I2,r2,q2⟩=>⟨x::xs,H2,I2,.cons r1 r2,q2⟩
noncomputable def tTup (t:TA):TE:=fun σ H Q=>t σ H fun xs H1=>xs.length<=sizeLine/\∀ p,H1 p=none->Q (.ref p) (upd H1 p (.tup xs))
noncomputable def tLst (t:TA):TE:=fun σ H Q=>t σ H fun xs H1=>xs.length<=sizeLine/\∀ p,H1 p=none->Q (.ref p) (upd H1 p (.lst xs))
theorem zcU {x1}(h:PA X es t):PE X (.Tuple es x1 pos) (tTup t):=by
 intro pins s σ H Q I hq
 refine wpAny_Tuple_spliced (thn (h pos pins s σ H _ I hq) fun us s1 ⟨xs,H1,I1,r,z,q⟩=>⟨by rw[<- r.length]; exact z,?_⟩)
 have hf:H1 s1.heap.objs.size=none:=I1.hok.fresh (Nat.le_refl _)
 refine⟨.ref s1.heap.objs.size,upd H1 s1.heap.objs.size (.tup xs),I1.laid (t':=s1.toks) (fun b u e=>Heap.get?_push_of_some _ e) (Nat.le_refl _) ?_,rfl,q _ hf⟩
 exact⟨z,us,r,⟨_,Heap.get?_push_size _ rfl,rfl,_,rfl⟩⟩
theorem kI (h:PA X es t):PE X (.List es pos) (tLst t):=by
 intro pins s σ H Q I hq
 refine wpAny_List_spliced (thn (h pos pins s σ H _ I hq) fun us s1 ⟨xs,H1,I1,r,z,q⟩=>⟨by rw[<- r.length]; exact z,?_⟩)
 have hf:H1 s1.heap.objs.size=none:=I1.hok.fresh (Nat.le_refl _)
 refine⟨.ref s1.heap.objs.size,upd H1 s1.heap.objs.size (.lst xs),I1.laid (t':=s1.toks) (fun b u e=>Heap.get?_push_of_some _ e) (Nat.le_refl _) ?_,rfl,q _ hf⟩
 exact⟨z,us,0,r,Heap.get?_push_size _ rfl⟩
end
noncomputable abbrev Sp:=List V->Hp->VK->XK->Prop
noncomputable abbrev CXT:=List Env->Hp->Shared->XK->Value->Shared->Prop
structure K0 (P:Program) (w:World) (K:PySem.W.Frag) (mg:Str->Option Value) (base:Heap) (A:Around) (outer:List Env) (s:Shared) (H:Hp):Prop where
 frames:A.frames=some outer
 mod:Mod K mg base
 bs:∀ b o,base.get? b=some o->s.heap.get? b=some o/\H b=none
 bsz:base.objs.size<=s.heap.objs.size
 funs:s.heap.FunFrames base outer
 frf:∀ b∈frs outer,H b=none
 hok:HOk P w H s.heap
 bare:AllBare s.gens
noncomputable def CE (outer:List Env) (P:Program) (w:World) (H:Hp) (s:Shared) (Q:VK) (u:Value) (s':Shared):Prop :=
 ∃ v H',s'.os=s.os/\AllBare s'.gens/\Un (frs outer) [] H H' s.heap s'.heap/\HOk P w H' s'.heap/\RelV v u/\Q v H'
noncomputable def CR (CX:CXT) (outer:List Env) (P:Program) (w:World) (H:Hp) (s:Shared) (Q:VK) (E:XK) (r:Result) (s':Shared):Prop :=
 match r with
 | .ok (.ret u)=>CE outer P w H s Q u s'
 | .ok _=>False
 | .error e=>CX outer H s E e s'
structure FnOk (P:Program) (w:World) (K:PySem.W.Frag) (mg:Str->Option Value) (base:Heap) (CX:CXT) (k:Nat) (f:Addr) (fd:FuncData) (ps:List Str) (sp:Sp):Prop where
 len:∀ vs H Q E,sp vs H Q E->vs.length=ps.length
 run:∀ (A:Around) (outer:List Env) (s:Shared) (H:Hp) (args:Args) (us:List Value) (vs:List V) (Q:VK) (E:XK),Room k A->K0 P w K mg base A outer s H->BindsTo s fd args (ps.zip us)->Vals vs us->sp vs H Q E ->
  codeAny (model P w) A (.call (.ref f) args) (CR CX outer P w H s Q E) s
theorem FnOk.mono {P:Program}{w:World}{K:PySem.W.Frag}{mg:Str->Option Value}{base:Heap}{CX:CXT}{j k:Nat}{f:Addr}{fd:FuncData}{ps:List Str}{sp:Sp}(F:FnOk P w K mg base CX j f fd ps sp) (h:j<=k) :
  FnOk P w K mg base CX k f fd ps sp:=⟨F.len,fun A outer s H args us vs Q E hr=>F.run A outer s H args us vs Q E (hr.mono h)⟩
section
variable {X:Cx} {pins:List (Addr×Obj)} {σ:St} {H:Hp} {s s':Shared}
theorem Inv.env0 (I:Inv X pins σ H s):K0 X.prog X.w X.K X.mg X.base X.A X.stack s H :=
 ⟨I.ok.frames,I.ok.mod,I.bs,Nat.le_trans I.ok.bsz I.sz,I.stack,I.stkFree,I.hok,I.bare⟩
theorem Inv.after {Q:VK}{u:Value}(I:Inv X pins σ H s) (h:CE X.stack X.prog X.w H s Q u s'):EP X pins σ Q u s':=by
 obtain⟨v,H',os,bare,un,hok,r,q⟩:=h
 obtain⟨hh,g,d,t,os'⟩:=s'
 obtain rfl:os'=s.os:=os
 exact⟨v,H',I.call (h':=hh) (g':=g) (d':=d) (t':=t) (ch:= []) un hok bare (fun b z=>absurd z (by simp)),r,q⟩
end
noncomputable def zeM (sp:Sp) (dvs:List V) (E:XK) (t:TA):TE:=fun σ H Q=>t σ H fun vs H1=>sp (vs++dvs) H1 Q E
noncomputable def Binds (K:PySem.W.Frag) (fd:FuncData) (ps:List Str) (ds:List Value):Prop :=
 ∀ (s:Shared) (us:List Value),K.In s.heap->(us++ds).length=ps.length->BindsTo s fd ⟨us,[]⟩ (ps.zip (us++ds))
theorem Binds.all {K:PySem.W.Frag}{fd:FuncData}{ps:List Str}(h:∀ us:List Value,us.length=ps.length->bindArgs fd ⟨us,[]⟩=pure (ps.zip us)):Binds K fd ps []:=fun s us _ hl=>by
 rw[List.append_nil] at hl |-
 exact .of_eq (h us hl)
noncomputable def wx (CX:CXT) (X:Cx) (E:XK):Prop:=∀ (pins:List (Addr×Obj)) (σ:St) (H:Hp) (s:Shared) (e:Value) (s':Shared),Inv X pins σ H s->CX X.stack H s E e s'->X.xe e s'
section
variable {X:Cx} {CX:CXT} {k:Nat} {f C:Addr} {fd:FuncData} {ps:List Str} {sp:Sp} {dvs:List V} {ds:List Value} {E:XK} {x m:Str} {p pos apos:Pos} {e o:Expr} {es:List Expr} {ta:TE} {t:TA}
theorem zc5 {pins:List (Addr×Obj)}{σ:St}{H:Hp}{s:Shared}{Q:VK}{us:List Value}{vs:List V}(F:FnOk X.prog X.w X.K X.mg X.base CX k f fd ps sp) (hr:Room k X.A) (hb:Binds X.K fd ps ds) (hd:Vals dvs ds) (hx:wx CX X E)
  (I:Inv X pins σ H s) (r:Vals vs us) (h:sp (vs++dvs) H Q E):wpAny (model X.prog X.w) X.A (call (.ref f) us) (EP X pins σ Q) X.xe s:=by
 have r2:Vals (vs++dvs) (us++ds):=r.append hd
 have hl:(us++ds).length=ps.length:=by rw[<- r2.length]; exact F.len _ _ _ _ h
 refine wpAny_call (codeAny_mono (F.run X.A X.stack s H ⟨us,[]⟩ (us++ds) (vs++dvs) Q E hr I.env0 (hb s us I.kIn hl) r2 h) fun r s' hq=>?_)
 cases r with
 | error e=>exact hx pins σ H s e s' I hq
 | ok fl=>
  cases fl with
  | ret u=>exact I.after hq
  | next=>exact False.elim hq
  | brk=>exact False.elim hq
  | cont=>exact False.elim hq
theorem zaD (F:FnOk X.prog X.w X.K X.mg X.base CX k f fd ps sp) (hr:Room k X.A) (hg:Gl X x) (hm:X.mg x=some (.ref f)) (hk:PySem.W.keepIn X.K (.ref f)=true) (hb:Binds X.K fd ps ds) (hd:Vals dvs ds) (hx:wx CX X E)
  (ha:PA X (e::es) t) (hdb:(x==("__debug__" :Str))=false:=by decide) (he:starEach (e::es) X.env=(false,eval e X.env)::starEach es X.env:=by rfl) (hpl:(backTo pos (starEach es X.env)).any (·.1)=false:=by rfl) :
  PE X (.Call (.Name x p) (e::es) [] pos) (zeM sp dvs E t):=by
 intro pins s σ H Q I h
 refine wpAny_Call_Name_kw (Z8 I hg hm ?_ hdb)
 refine PySem.W.callWith_K (h₀:=X.base) I.ok.mod.kin hk (thn (ha pos pins s σ H _ I h) fun us s1 ⟨vs,H1,I1,r,q⟩=>⟨I1.kIn,?_⟩) he hpl
 exact zc5 F hr hb hd hx I1 r q
structure Mk (K:PySem.W.Frag) (C f:Addr):Prop where
 makes:PySem.W.makesIn K C=true
 init:PySem.W.findIn K (.ref C) "__init__" =some (some (.ref f))
 fn:PySem.W.isFn K (.ref f)=true
 kp:PySem.W.keepIn K (.ref C)=true
end
section
variable {X:Cx} {CX:CXT} {k:Nat} {f C:Addr} {fd:FuncData} {ps ks:List Str} {sp:Sp} {E:XK} {x m:Str} {p pos apos kpos:Pos} {e o:Expr} {es:List Expr} {kws:List Keyword} {te ta:TE} {t tk:TA} {nm:Option Str}
variable {g:List Value->List Value->List Value} {gV:List V->List V->List V}
end
structure qA (N P:List Str) (sc:Scope):Prop where
 kind:sc.kind=.function
 co:sc.isCoroutine=false
 gen:sc.isGenerator=false
 nd:N.Nodup
 pre:N.take P.length=P
 par:∀ x∈P,sc.names.lookup x=some .local∨sc.names.lookup x=some .cell
 nofree:∀ y∈sc.names,y.2≠ .free
theorem JO {kindOf:Str->Option NameKind}{x:Str}:∀ {binds:List (Str×Value)}{m:Str->Option Value},(∀ v,(x,v)∉binds)->bindL kindOf binds m x=m x
 | [],_,_=>rfl
 | (n,v)::r,m,h=>by
  unfold bindL
  rw[JO fun w hw=>h w (List.mem_cons_of_mem _ hw)]
  split
  ·have:x≠n:=by rintro rfl; exact h v List.mem_cons_self
   simp[this]
  ·rfl
theorem JM {kindOf:Str->Option NameKind}{x:Str}:∀ {binds:List (Str×Value)}{m:Str->Option Value},(∀ v,(x,v)∉binds)->bindC kindOf binds m x=m x
 | [],_,_=>rfl
 | (n,v)::r,m,h=>by
  unfold bindC
  rw[JM fun w hw=>h w (List.mem_cons_of_mem _ hw)]
  split
  ·rfl
  ·have:x≠n:=by rintro rfl; exact h v List.mem_cons_self
   simp[this]
theorem JN {kindOf:Str->Option NameKind}{x:Str}{v:Value}:∀ {P:List Str}{vs:List Value}{i:Nat}{m:Str->Option Value},P.Nodup->P[i]?=some x->vs[i]?=some v->kindOf x=some .local ->
  bindL kindOf (P.zip vs) m x=some v
 | [],_,_,_,_,h,_,_=>by simp at h
 | _::_,[],_,_,_,_,h,_=>by simp at h
 | p::P,w::vs,0,m,nd,h1,h2,hk=>by
  simp at h1 h2; subst h1; subst h2
  show bindL kindOf ((p,w)::P.zip vs) m p=_
  unfold bindL
  rw[JO fun v hv=>(List.nodup_cons.mp nd).1 (List.of_mem_zip hv).1,if_pos hk]
  simp
 | p::P,w::vs,i+1,m,nd,h1,h2,hk=>by
  show bindL kindOf ((p,w)::P.zip vs) m x=_
  unfold bindL
  exact JN (i:=i) (List.nodup_cons.mp nd).2 (by simpa using h1) (by simpa using h2) hk
theorem JL {kindOf:Str->Option NameKind}{x:Str}{v:Value}:∀ {P:List Str}{vs:List Value}{i:Nat}{m:Str->Option Value},P.Nodup->P[i]?=some x->vs[i]?=some v->kindOf x≠some .local ->
  bindC kindOf (P.zip vs) m x=some v
 | [],_,_,_,_,h,_,_=>by simp at h
 | _::_,[],_,_,_,_,h,_=>by simp at h
 | p::P,w::vs,0,m,nd,h1,h2,hk=>by
  simp at h1 h2; subst h1; subst h2
  show bindC kindOf ((p,w)::P.zip vs) m p=_
  unfold bindC
  rw[JM fun v hv=>(List.nodup_cons.mp nd).1 (List.of_mem_zip hv).1,if_neg hk]
  simp
 | p::P,w::vs,i+1,m,nd,h1,h2,hk=>by
  show bindC kindOf ((p,w)::P.zip vs) m x=_
  unfold bindC
  exact JL (i:=i) (List.nodup_cons.mp nd).2 (by simpa using h1) (by simpa using h2) hk
noncomputable def start (N:List Str) (vs:List V):St:=vs.map some++List.replicate (N.length-vs.length) none
noncomputable def jM (CX:CXT) (P:Program) (w:World) (K:PySem.W.Frag) (mg:Str->Option Value) (base:Heap) (N:List Str) (qual:Str) (scope:Scope) (f:Addr) (cd:Value) (A:Around) (outer:List Env) (s:Shared) (H:Hp) (E:XK):Cx where
 prog:=P
 w:=w
 K:=K
 mg:=mg
 base:=base
 A:=A.deeper (envOfC qual scope s.heap.objs.size f cd)
 N:=N
 s₀:=s
 H₀:=H
 env:=envOfC qual scope s.heap.objs.size f cd
 outer:=outer
 stack:=envOfC qual scope s.heap.objs.size f cd::outer
 ex:= []
 calm:=true
 fn:=fun _=>true
 pn:= []
 xe:=fun e s'=>wpAny (model P w) (A.deeper (envOfC qual scope s.heap.objs.size f cd)) (leaving (envOfC qual scope s.heap.objs.size f cd) e) (fun _ s''=>CX outer H s E e s'') (fun e' s''=>CX outer H s E e' s'') s'
theorem Zl {sc:Scope}{n:Nat}{x:Str}(h:sc.names.lookup x=some .cell):∃ c,(cellsFrom n sc.names []).lookup x=some c:=by
 have q:=PySem.W.cellsFrom_some sc.names n [] (.inl h)
 exact Option.isSome_iff_exists.mp q
theorem yK {CX:CXT}{P:Program}{w:World}{K:PySem.W.Frag}{mg:Str->Option Value}{base:Heap}{N ps:List Str}{qual:Str}{scope:Scope}{f:Addr}{cd:Value}{A:Around}{outer:List Env}{s s1:Shared}{H:Hp}{E:XK}{us:List Value}{vs:List V}
  (S:qA N ps scope) (hd:A.handled=none) (e0:K0 P w K mg base A outer s H) (hl:vs.length=ps.length) (r:Vals vs us)
  (x:InCallC s s.heap.objs.size (bindL (envOfC qual scope s.heap.objs.size f cd).kindOf (ps.zip us) fun _=>none) (cellsFrom (s.heap.objs.size+1) scope.names []) (bindC (envOfC qual scope s.heap.objs.size f cd).kindOf (ps.zip us) fun _=>none) s1) :
  Inv (jM CX P w K mg base N qual scope f cd A outer s H E) [] (start N vs) H s1:=by
 have hpl:ps.length<=N.length:=by have:=congrArg List.length S.pre; rw[List.length_take] at this; omega
 obtain⟨h1,tk,rfl,hk⟩:=x.done
 have noA:∀ b:Addr,b∉(jM CX P w K mg base N qual scope f cd A outer s H E).ex:=fun b z=>absurd (show b∈([]:List Addr) from z) (by simp)
 refine⟨⟨e0.mod,S.kind,rfl,rfl,Nat.le_refl _,fun y z c h1 h2=>?_,fun y hy=>?_,fun y c _ h=>?_,fun _=>hd,Around.frames_deeper e0.frames,.inr ⟨rfl,rfl⟩,fun b z=>absurd z (noA b),e0.bs,e0.bsz,fun b _ _=>noA b,fun b z=>absurd z (noA b),e0.funs,e0.frf⟩,
  rfl,e0.bare,Un.kept hk,⟨_,x.toInCall.ns,fun i y v h1 h2 h3=>?_⟩,fun y c h=>⟨_,x.cell y c h⟩,e0.hok.fresh (Nat.le_refl _),fun y c h=>?_,fun p hp=>absurd (show p∈([]:List (Addr×Obj)) from hp) (by simp),e0.hok.kept hk,?_⟩
 ·exact name_of_addr x.apart (PySem.mem_of_lookup h1) (PySem.mem_of_lookup h2)
 ·have hy:scope.names.lookup y=some .cell∨scope.names.lookup y=some .free:=hy
  rcases hy with hy | hy
  ·exact Zl hy
  ·exact absurd rfl (S.nofree _ (PySem.mem_of_lookup hy))
 ·exact Nat.le_of_lt (x.above y c (PySem.mem_of_lookup h))
 ·have hi:i<vs.length:=by
   unfold start at h2
   by_cases hi:i<vs.length
   ·exact hi
   ·rw[List.getElem?_append_right (by simpa using hi)] at h2
    rw[List.getElem?_replicate] at h2
    split at h2 <;> cases h2
  have ha:vs[i]?=some v:=by
   unfold start at h2
   rw[List.getElem?_append_left (by simpa using hi),List.getElem?_map] at h2
   cases e:vs[i]? with
   | none=>rw[e] at h2; cases h2
   | some a=>rw[e] at h2; cases h2; rfl
  obtain⟨u,hu,rv⟩:=r.get ha
  have hp:ps[i]?=some y:=by
   rw[<- S.pre,List.getElem?_take_of_lt (by omega)]; exact h1
  have ndP:ps.Nodup:=by rw[<- S.pre]; exact S.nd.sublist (List.take_sublist _ _)
  refine⟨u,rv,?_⟩
  rcases S.par y (List.mem_of_getElem? hp) with k | k
  ·exact .inl ⟨k,JN ndP hp hu k⟩
  ·obtain⟨c,e⟩:=Zl (n:=s.heap.objs.size+1) k
   refine .inr ⟨.inl k,c,e,?_⟩
   have q:=x.cell y c e
   rw[JL ndP hp hu (by show scope.names.lookup y≠_; rw[k]; decide)] at q
   exact q
 ·exact e0.hok.fresh (Nat.le_of_lt (x.above y c (PySem.mem_of_lookup h)))
 ·unfold start
  show _=N.length
  rw[List.length_append,List.length_map,List.length_replicate]
  omega
theorem zbK {CX:CXT}{P:Program}{w:World}{K:PySem.W.Frag}{mg:Str->Option Value}{base:Heap}{k:Nat}{f:Addr}{name qual:Str}{params:Arguments}{body:List Stmt}{scope:Scope}{dV kV doc pm cdv ct oc:Value}{an od:Option Addr}
  {osl:Array (Option Value)} {N ps:List Str} {sp:Sp} (lk:K.lookup f=some ⟨oc,od,.func (PySem.W.fnOf name qual params body scope dV kV doc pm an cdv ct),osl⟩) (hcd:PySem.W.codeIn K cdv qual=true) (S:qA N ps scope)
  (len:∀ vs H Q E,sp vs H Q E->vs.length=ps.length)
  (hbody:∀ (A:Around) (outer:List Env) (s:Shared) (H:Hp) (vs:List V) (Q:VK) (E:XK),Room k (A.deeper (envOfC qual scope s.heap.objs.size f cdv))->sp vs H Q E ->
   ∃ t,PSs (jM CX P w K mg base N qual scope f cdv A outer s H E) body t/\t { nx:=fun _ H'=>Q .non H',rt:=Q } (start N vs) H) :
  FnOk P w K mg base CX (k+1) f (PySem.W.fnOf name qual params body scope dV kV doc pm an cdv ct) ps sp:=by
 refine⟨len,fun A outer s H args us vs Q E hr e0 hb r hsp=>?_⟩
 have hl:=len _ _ _ _ hsp
 have KX:K.In s.heap:=e0.mod.kin.keeps fun b o e=>(e0.bs b o e).1
 have lim:s.heap.NoLimit:=e0.mod.nolimit.keeps fun b o e=>(e0.bs b o e).1
 have hkind:∀ y∈ps.zip us,scope.names.lookup y.1=some .local∨(scope.names.lookup y.1=some .cell/\((cellsFrom (s.heap.objs.size+1) scope.names []).lookup y.1).isSome=true):=fun ⟨n,v⟩ hy=>by
  rcases S.par n (List.of_mem_zip hy).1 with q | q
  ·exact .inl q
  ·exact .inr ⟨q,PySem.W.cellsFrom_some _ _ _ (.inl q)⟩
 refine codeAny_call_function hr.depth (KX _ _ lk) rfl S.co S.gen rfl (PySem.W.codeRec_of KX hcd) (hb _ _ _ _ ?_)
 refine wpAny_newFunctionEnv_cells S.kind hkind fun env he s1 x=>?_
 subst he
 refine⟨lim.keeps x.toInCall.keep,codeAny_func ?_⟩
 obtain⟨t,ht,hq⟩:=hbody A outer s H vs Q E (hr.deeper _) hsp
 have I:Inv (jM CX P w K mg base N qual scope f cdv A outer s H E) [] (start N vs) H s1:=yK S hr.hd e0 hl r x
 refine wpAny_mono (ht [] s1 (start N vs) H _ I hq) (fun fl s' hs=>?_) fun e s' hs=>hs
 have fin:∀ {σ':St} {H':Hp} {v:V} {u:Value},Inv (jM CX P w K mg base N qual scope f cdv A outer s H E) [] σ' H' s'->RelV v u->Q v H'->CE outer P w H s Q u s' :=
  fun {σ' H' v u} J rv q=>⟨v,H',J.os,J.bare,J.base,J.hok,rv,q⟩
 cases fl with
 | ret u=>
  obtain⟨v,σ',H',J,rv,q⟩:=hs
  exact fin J rv q
 | next=>
  obtain⟨σ',H',J,q⟩:=hs
  exact fin (v:=V.non) (u:=Value.none) J rfl q
 | brk=>
  obtain⟨_,_,_,q⟩:=hs
  exact False.elim q
 | cont=>
  obtain⟨_,_,_,q⟩:=hs
  exact False.elim q
end L2
namespace L2
open PySem PySem.Spec PyProof.Rows
section
variable {X:Cx} {x:Str} {p pos:Pos} {e:Expr} {es:List Expr} {t:TA} {id T:String} {r:List V->Hp->VK->Prop}
noncomputable def tCB (r:List V->Hp->VK->Prop) (t:TA):TE:=fun σ H Q=>t σ H fun vs H1=>r vs H1 Q
theorem jq (hc:qz X (.builtin id) r) (hg:Gl X x) (hm:X.mg x=none) (hv:bootBuiltins x=some (.builtin id)) (ha:PA X (e::es) t) (hn:x≠ "__name__" :=by decide) (hdb:(x==("__debug__" :Str))=false:=by decide)
    (he:starEach (e::es) X.env=(false,eval e X.env)::starEach es X.env:=by rfl) (hpl:(backTo pos (starEach es X.env)).any (·.1)=false:=by rfl):PE X (.Call (.Name x p) (e::es) [] pos) (tCB r t):=by
  intro pins s σ H Q I h
  refine wpAny_Call_Name_kw (jQ I hg hm hv ?_ hn hdb)
  exact PyProof.Rows.callWith_builtin1 (thn (ha pos pins s σ H _ I h) fun us s1 ⟨vs,H1,I1,r1,q1⟩=>hc pins s1 σ H1 vs us Q I1 r1 q1) he hpl
theorem jw (hc:qz X (.type T) r) (hg:Gl X x) (hm:X.mg x=none) (hv:bootBuiltins x=some (.type T)) (ha:PA X (e::es) t) (hn:x≠ "__name__" :=by decide) (hdb:(x==("__debug__" :Str))=false:=by decide)
    (he:starEach (e::es) X.env=(false,eval e X.env)::starEach es X.env:=by rfl) (hpl:(backTo pos (starEach es X.env)).any (·.1)=false:=by rfl):PE X (.Call (.Name x p) (e::es) [] pos) (tCB r t):=by
  intro pins s σ H Q I h
  refine wpAny_Call_Name_kw (jQ I hg hm hv ?_ hn hdb)
  exact PyProof.Rows.callWith_type1 (thn (ha pos pins s σ H _ I h) fun us s1 ⟨vs,H1,I1,r1,q1⟩=>hc pins s1 σ H1 vs us Q I1 r1 q1) he hpl
end
end L2
namespace HT
open PySem PyProof.Rows
section
open PySem.SeqAt
open PySem.AutoSeq1 (wpAny_loadPart')
open PySem.MeetsSeq PySem.MeetsSeq2 PySem.MeetsSeq3
end
section
variable {prog:Program} {w:World} {A:Around} {E:Value->Shared->Prop} {s:Shared}
theorem cat_tup {t b:Addr}{vs ws:List Value}{Q:Value->Shared->Prop}(ht:IsTup s.heap t vs.toArray) (hb:IsTup s.heap b ws.toArray) (hv:vs≠ [])
  (h1:ws= []->Q (.ref t) s) (h2:ws≠ []->Q (.ref s.heap.objs.size) { s with heap:=s.heap.push { cls:=.type "tuple",data:=.seq (vs++ws).toArray } })
  (hsz:vs.length+ws.length<=sizeLine):wpAny (model prog w) A (binaryOp .Add (.ref t) (.ref b)) Q E s:=by
 obtain⟨⟨cls,dd,data,sl⟩,ho,hc,n,hd⟩:=id ht
 obtain⟨⟨cls2,dd2,data2,sl2⟩,ho2,hc2,n2,hd2⟩:=id hb
 simp only at hc hd hc2 hd2
 subst hc hd hc2 hd2
 have e:vs.toArray++ws.toArray=(vs++ws).toArray:=by simp
 by_cases hw:ws= []
 ·exact concat_meets ⟨_,ho,rfl⟩ ⟨_,ho2,rfl⟩ noFill_tuple_add seq_tuple_add PySem.F.slot_tuple_add PySem.F.entry_tuple_add (PySem.F.args_tuple_add_2 _ _)
   (tuple_addW1 t b vs.toArray ws.toArray n n2 dd dd2 sl sl2 (by simpa using hv) (by simp[hw])) ⟨ho,ho2,h1 hw⟩
 ·refine concat_meets ⟨_,ho,rfl⟩ ⟨_,ho2,rfl⟩ noFill_tuple_add seq_tuple_add PySem.F.slot_tuple_add PySem.F.entry_tuple_add (PySem.F.args_tuple_add_2 _ _)
   (tuple_addW2 t b vs.toArray ws.toArray n n2 dd dd2 sl sl2 (by simpa using hv) (by simpa using hw) (by rw[List.size_toArray,List.size_toArray]; exact hsz)) ⟨ho,ho2,?_⟩
  rw[e]
  exact h2 hw
noncomputable def sIx (n d:Nat):Option Int->Nat
 | none=>d
 | some v=>if v<0 then (v+(n:Int)).toNat else min v.toNat n
end
end HT
namespace L2
open PySem PySem.Spec PyProof.Rows
noncomputable abbrev TO:=St->Hp->(Option Int->Hp->Prop)->Prop
noncomputable def PO (X:Cx) (e:Option Expr) (t:TO):Prop :=
 ∀ (pins:List (Addr×Obj)) (s:Shared) (σ:St) (H:Hp) (Q:Option Int->Hp->Prop),Inv X pins σ H s->t σ H Q ->
  wpAny (model X.prog X.w) X.A (evalPart e X.env) (fun u s'=>∃ o H',Inv X pins σ H' s'/\IsPart u o/\Q o H') X.xe s
noncomputable def zbm:TO:=fun _ H Q=>Q none H
noncomputable def zeO (t:TE):TO:=fun σ H Q=>t σ H fun x H1=>∃ i,x=.int i/\Q (some i) H1
section
variable {X:Cx} {e:Expr} {te:TE} {lo hi:Option Expr} {tl th:TO} {pos p2:Pos}
theorem wY:PO X none zbm:=by
 intro pins s σ H Q I h
 rw[evalPart_none]
 exact wpAny_pure ⟨none,H,I,.none,h⟩
theorem wZ (h:PE X e te):PO X (some e) (zeO te):=by
 intro pins s σ H Q I hw
 rw[evalPart_some]
 refine thn (h pins s σ H _ I hw) fun u s1 ⟨x,H1,I1,r1,q1⟩=>?_
 obtain⟨i,rfl,q⟩:=q1
 obtain⟨t,rfl⟩:=r1
 exact⟨some i,H1,I1,.int i t,q⟩
noncomputable def SlR (X:Cx) (r:V->Option Int->Option Int->Hp->VK->Prop):Prop :=
 ∀ (pins:List (Addr×Obj)) (s:Shared) (σ:St) (H:Hp) (x:V) (v vl vu:Value) (lo hi:Option Int) (sl:Addr) (Q:VK),Inv X pins σ H s->RelV x v->s.heap.IsSliceOf sl vl vu .none->IsPart vl lo->IsPart vu hi->r x lo hi H Q ->
  ∃ T id,typeLookup (.type T) "__getitem__" =pure (some (.builtin id))/\s.TypeIs v T/\wpAny (model X.prog X.w) X.A (getItem v (.ref sl)) (EP X pins σ Q) X.xe s
noncomputable def tSl (r:V->Option Int->Option Int->Hp->VK->Prop) (te:TE) (tl th:TO):TE:=fun σ H Q=>te σ H fun x H1=>tl σ H1 fun l H2=>th σ H2 fun u H3=>r x l u H3 Q
theorem W7 {r:V->Option Int->Option Int->Hp->VK->Prop}(hr:SlR X r) (he:PE X e te) (hl:PO X lo tl) (hu:PO X hi th):PE X (.Subscript e (.Slice lo hi none p2) pos) (tSl r te tl th):=by
 intro pins s σ H Q I h
 refine Subscript_ (thn (he pins s σ H _ I h) fun v s1 ⟨x,H1,I1,r1,q1⟩=>?_)
 refine wpAny_Slice (thn (hl pins s1 σ H1 _ I1 q1) fun vl s2 ⟨l,H2,I2,pl,q2⟩=>thn (hu pins s2 σ H2 _ I2 q2) fun vu s3 ⟨u,H3,I3,pu,q3⟩=>?_)
 rw[evalPart_none]
 refine wpAny_pure ?_
 have I4:Inv X pins σ H3 { s3 with heap:=s3.heap.push { cls:=.type "slice",data:=.fields #[vl,vu,.none] } }:=I3.kept (t':=s3.toks) fun b ob q=>Heap.get?_push_of_some _ q
 obtain⟨T,id,hT,ht,hg⟩:=hr pins { s3 with heap:=s3.heap.push { cls:=.type "slice",data:=.fields #[vl,vu,.none] } } σ H3 x v vl vu l u s3.heap.objs.size Q I4 r1 (Heap.IsSliceOf.new ..) pl pu q3
 show wpAny (model X.prog X.w) X.A (subscriptTail e (.Slice lo hi none p2) v (.ref s3.heap.objs.size)) (EP X pins σ Q) X.xe { s3 with heap:=s3.heap.push { cls:=.type "slice",data:=.fields #[vl,vu,.none] } }
 exact tail_any (ops:= [.ref s3.heap.objs.size,v]) ht hT hg (by with_unfolding_all rfl)
noncomputable def QX (xs:List V) (lo hi:Option Int):List V:=(xs.drop (HT.sIx xs.length 0 lo)).take (HT.sIx xs.length xs.length hi-HT.sIx xs.length 0 lo)
theorem Wy (xs:List V) (lo hi:Option Int):(QX xs lo hi).length<=xs.length:=by
 unfold QX
 rw[List.length_take,List.length_drop]
 omega
theorem Vals.nil_iff {xs:List V}{us:List Value}(r:Vals xs us):us= []↔xs= []:=by
 cases r with
 | nil=>simp
 | cons _ _=>simp
end
end L2
namespace L2
open PySem PySem.Spec PyProof.Rows
noncomputable def ixN (n:Nat) (i:Int):Option Nat:=if 0<=i then (if i<n then some i.toNat else none) else if -(n:Int)<=i then some (i+n).toNat else none
noncomputable def atI {α:Type}(xs:List α) (i:Int):Option α:=(ixN xs.length i).bind fun j=>xs[j]?
theorem VT {n:Nat}{i:Int}{j:Nat}(h:ixN n i=some j):seqIndex? i n=some j/\j<n/\ -(n:Int)<=i/\i<n:=by
 unfold ixN at h
 by_cases h0:0<=i
 ·rw[if_pos h0] at h
  by_cases h1:i<n
  ·rw[if_pos h1] at h
   have e:i.toNat=j:=Option.some.inj h
   exact⟨by rw[seqIndex_of h0 h1,e],by omega,by omega,h1⟩
  ·rw[if_neg h1] at h; cases h
 ·rw[if_neg h0] at h
  by_cases h1: -(n:Int)<=i
  ·rw[if_pos h1] at h
   have e:(i+n).toNat=j:=Option.some.inj h
   exact⟨by rw[seqIndex_neg (by omega) h1,e],by omega,h1,by omega⟩
  ·rw[if_neg h1] at h; cases h
theorem VH {α:Type}{xs:List α}{i:Int}{v:α}(h:atI xs i=some v):∃ j,seqIndex? i xs.length=some j/\xs[j]?=some v/\j<xs.length/\ -(xs.length:Int)<=i/\i<xs.length:=by
 unfold atI at h
 cases e:ixN xs.length i with
 | none=>rw[e] at h; cases h
 | some j=>
  rw[e] at h
  obtain⟨h1,h2,h3,h4⟩:=VT e
  exact⟨j,h1,h,h2,h3,h4⟩
theorem jZ {α:Type}{xs:List α}{j:Nat}{v:α}(h:xs[j]?=some v):atI xs (j:Int)=some v:=by
 have hj:j<xs.length:=(List.getElem?_eq_some_iff.mp h).1
 have e:ixN xs.length (j:Int)=some j:=by
  unfold ixN
  rw[if_pos (by omega),if_pos (by omega)]; simp
 unfold atI; rw[e]; exact h
noncomputable def wy (b:Expr):Prop:=∀ o i,subscripted b false o i=operate [o,i] (getItem o i)
noncomputable def IxR (X:Cx) (r:R2):Prop :=
 ∀ (value slice:Expr) (pins:List (Addr×Obj)) (s:Shared) (σ:St) (H:Hp) (x y:V) (v u:Value) (Q:VK),Inv X pins σ H s->RelV x v->RelV y u->r x y H Q ->
  subscripted slice false v u=operate [v,u] (getItem v u)->wpAny (model X.prog X.w) X.A (subscriptTail value slice v u) (EP X pins σ Q) X.xe s
noncomputable def MtR (X:Cx) (id:String) (r:V->List V->Hp->VK->Prop):Prop :=
 ∀ (pins:List (Addr×Obj)) (s:Shared) (σ:St) (H:Hp) (x:V) (xs:List V) (v:Value) (us:List Value) (Q:VK),Inv X pins σ H s->RelV x v->Vals xs us->r x xs H Q ->
  wpAny (model X.prog X.w) X.A (call (.builtin id) (v::us)) (EP X pins σ Q) X.xe s
section
variable {X:Cx} {a b:Expr} {ta tb:TE} {pos:Pos}
theorem IxR.or {r r':R2}(h:IxR X r) (h':IxR X r'):IxR X (fun x y H Q=>r x y H Q∨r' x y H Q):=by
 intro value slice pins s σ H x y v u Q I rx ry q hs
 rcases q with q | q
 ·exact h value slice pins s σ H x y v u Q I rx ry q hs
 ·exact h' value slice pins s σ H x y v u Q I rx ry q hs
theorem zeq {r:R2}(hr:IxR X r) (ha:PE X a ta) (hb:PE X b tb) (hs:wy b):PE X (.Subscript a b pos) (tOp r ta tb):=by
 intro pins s σ H Q I h
 exact Subscript_ (zb5 ha hb I h fun v u s2 x y H2 I2 rx ry q=>hr a b pins s2 σ H2 x y v u Q I2 rx ry q (hs _ _))
noncomputable def rIxL (K:PySem.W.Frag):R2:=fun x y H Q=>∃ p xs i v,x=.ref p/\y=.int i/\SqL K H p xs/\atI xs i=some v/\Q v H
noncomputable def rIxT (K:PySem.W.Frag):R2:=fun x y H Q=>∃ p xs i v,x=.ref p/\y=.int i/\SqT K H p xs/\atI xs i=some v/\Q v H
theorem ix_list:IxR X (rIxL X.K):=by
 intro value slice pins s σ H x y v u Q I rx ry h hs
 obtain⟨p,xs,i,z,rfl,rfl,hq,he,q⟩:=h
 cases rx
 obtain⟨t,rfl⟩:=ry
 obtain⟨its,r,pl,hz⟩:=I.list hq
 obtain⟨j,h1,h2,h3,h4,h5⟩:=VH he
 obtain⟨w,ew,rw'⟩:=r.get h2
 have hl:=r.length
 have hn:=Ja
 have fin:EP X pins σ Q w s:=⟨z,H,I,rw',q⟩
 by_cases h0:0<=i
 ·have hj:i.toNat=j:=by
   rw[seqIndex_of h0 h5] at h1
   exact Option.some.inj h1
  exact item_listR pl.isList h0 (by omega) (by rw[hj]; simpa using ew) fin hs
 ·have hj:(i+(its.toArray.size:Int)).toNat=j:=by
   rw[seqIndex_neg (by omega) h4] at h1
   rw[List.size_toArray,<- hl]
   exact Option.some.inj h1
  exact subscriptTail_builtinR (x:=w) pl.isList.typeIs slot_list_getitem.lookup
   (wpAny_getItem_list_neg (Q:=fun r s'=>r=w/\EP X pins σ Q r s') pl.isList (by omega) (by rw[List.size_toArray] <;> omega) (by omega) (by rw[hj]; simpa using ew) ⟨rfl,fin⟩) hs
theorem zcz:IxR X (rIxT X.K):=by
 intro value slice pins s σ H x y v u Q I rx ry h hs
 obtain⟨p,xs,i,z,rfl,rfl,hq,he,q⟩:=h
 cases rx
 obtain⟨t,rfl⟩:=ry
 obtain⟨its,r,pl,hz⟩:=I.tuple hq
 obtain⟨j,h1,h2,h3,h4,h5⟩:=VH he
 obtain⟨w,ew,rw'⟩:=r.get h2
 have hl:=r.length
 have hn:=Ja
 have fin:EP X pins σ Q w s:=⟨z,H,I,rw',q⟩
 exact subscriptTail_builtinR (x:=w) pl.typeIs slot_tuple_getitem.lookup
  (getItem_tuple (j:=j) (Q:=fun r s'=>r=w/\EP X pins σ Q r s') pl (by omega) (by omega) (by rw[List.size_toArray,<- hl]; exact h1) (by simpa using ew) ⟨rfl,fin⟩) hs
theorem v5 (its:List Value) (n j:Nat) (u:Value):Obj.mapSeq (·.setIfInBounds j u) { cls:=.type "list",data:=.seq its.toArray n }={ cls:=.type "list",data:=.seq (its.set j u).toArray n }:=by
 simp[Obj.mapSeq]
theorem Inv.lst {pins:List (Addr×Obj)}{σ:St}{H:Hp}{s:Shared}{p:Addr}{xs:List V}(I:Inv X pins σ H s) (h:H p=some (.lst xs)) :
  ∃ (its:List Value) (n:Nat),Vals xs its/\s.heap.get? p=some { cls:=.type "list",data:=.seq its.toArray n }/\xs.length<=sizeLine:=by
 obtain⟨z,its,n,r,e⟩:=I.hok p _ h
 exact⟨its,n,r,e,z⟩
theorem Inv.lstUpd {pins:List (Addr×Obj)}{σ:St}{H:Hp}{s:Shared}{p:Addr}{xs ys:List V}{its its':List Value}{n n':Nat}{f:Obj->Obj}(I:Inv X pins σ H s) (h:H p=some (.lst xs))
  (ho:s.heap.get? p=some { cls:=.type "list",data:=.seq its.toArray n }) (hf:f { cls:=.type "list",data:=.seq its.toArray n }={ cls:=.type "list",data:=.seq its'.toArray n' }) (r:Vals ys its') (hz:ys.length<=sizeLine) (t:Nat) :
  Inv X pins σ (upd H p (.lst ys)) { s with heap:=s.heap.update p f,toks:=t }:=by
 have e:(s.heap.update p f).get? p=some { cls:=.type "list",data:=.seq its'.toArray n' }:=by
  rw[Heap.get?_update_self f ho (by rw[hf] <;> rfl),hf]
 refine I.write (x:=p) (e:=p) (by rw[h]; trivial) (.inl rfl) (fun b u hb q=>(Heap.get?_update_other _ _ (Ne.symm hb)).trans q) ⟨_,e⟩ ?_
 exact⟨hz,its',n',r,e⟩
noncomputable def zew:V->V->V->Hp->(Hp->Prop)->Prop:=fun o i v H Q=>∃ p xs k j,o=.ref p/\i=.int k/\H p=some (.lst xs)/\ixN xs.length k=some j/\Q (upd H p (.lst (xs.set j v)))
theorem Kf:zb2 X zew:=by
 intro pins s σ H o i v ov iv u Q I ro ri rv h
 obtain⟨p,xs,k,j,rfl,rfl,hp,hj,q⟩:=h
 cases ro
 obtain⟨t,rfl⟩:=ri
 obtain⟨its,n,r,ho,hz⟩:=I.lst hp
 obtain⟨h1,h2,h3,h4⟩:=VT hj
 have hl:=r.length
 have hn:=Ja
 have I':Inv X pins σ (upd H p (.lst (xs.set j v))) { s with heap:=s.heap.update p (Obj.mapSeq (·.setIfInBounds j u)) } :=
  I.lstUpd hp ho (v5 its n j u) (r.set rv j) (by rw[List.length_set]; exact hz) s.toks
 by_cases h0:0<=k
 ·have hk:k.toNat=j:=by
   rw[seqIndex_of h0 h4] at h1
   exact Option.some.inj h1
  exact PySem.W.ki_setAt ho h0 (by omega) (by rw[List.size_toArray,<- hl]; exact h4) (by rw[hk]; exact⟨_,I',q⟩)
 ·have hk:(k+(its.toArray.size:Int)).toNat=j:=by
   rw[seqIndex_neg (by omega) h3] at h1
   rw[List.size_toArray,<- hl]
   exact Option.some.inj h1
  exact PySem.W.ki_setBack ho (by omega) (by rw[List.size_toArray,<- hl]; exact h3) (by omega) (by rw[hk]; exact⟨_,I',q⟩)
theorem w9 (lo hi:Option Int) (n:Nat):(sliceBounds lo hi none n).1=((HT.sIx n 0 lo:Nat):Int)/\(sliceBounds lo hi none n).2.1=((HT.sIx n n hi:Nat):Int)/\(sliceBounds lo hi none n).2.2=1:=by
 refine⟨?_,?_,rfl⟩
 ·cases lo with
  | none=>simp[sliceBounds,HT.sIx]
  | some i=>
   simp only[sliceBounds,HT.sIx,Option.getD_none,show (1:Int)>0 by decide,if_true]
   by_cases h:i<0
   ·simp only[h,if_true] <;> omega
   ·simp only[h,if_false] <;> omega
 ·cases hi with
  | none=>simp[sliceBounds,HT.sIx]
  | some i=>
   simp only[sliceBounds,HT.sIx,Option.getD_none,show (1:Int)>0 by decide,if_true]
   by_cases h:i<0
   ·simp only[h,if_true] <;> omega
   ·simp only[h,if_false] <;> omega
theorem JD (its:List Value) (lo hi:Option Int):slicePick its.toArray lo hi none=((its.drop (HT.sIx its.length 0 lo)).take (HT.sIx its.length its.length hi-HT.sIx its.length 0 lo)).toArray:=by
 obtain⟨h1,h2,h3⟩:=w9 lo hi its.toArray.size
 unfold slicePick
 rw[h1,h2,h3]
 simp only[sliceRange_one,pick_run,List.size_toArray] <;> rfl
noncomputable def rSlL (K:PySem.W.Frag):V->Option Int->Option Int->Hp->VK->Prop:=fun x lo hi H Q=>∃ a xs,x=.ref a/\SqL K H a xs/\∀ p,H p=none->Q (.ref p) (upd H p (.lst (QX xs lo hi)))
theorem V7:SlR X (rSlL X.K):=by
 intro pins s σ H x v vl vu lo hi sl Q I rx hs pl pu h
 obtain⟨a,xs,rfl,hx,q⟩:=h
 cases rx
 obtain⟨its,r,ht,hz⟩:=I.list hx
 have hlen:=r.length
 refine⟨"list",_,slot_list_getitem.lookup,ht.isList.typeIs,?_⟩
 refine wpAny_getItem_list_slice ht.isList hs pl pu .none (by simp) ?_ (by rw[List.size_toArray] <;> omega)
 rw[JD,<- hlen]
 refine⟨.ref s.heap.objs.size,_,I.laid (t':=s.toks) (o:=.lst (QX xs lo hi)) (fun b ob q=>Heap.get?_push_of_some _ q) (Nat.le_refl _) ?_,rfl,q _ (I.hok.fresh (Nat.le_refl _))⟩
 exact⟨Nat.le_trans (Wy xs lo hi) hz,_,0,(r.drop (HT.sIx xs.length 0 lo)).take (HT.sIx xs.length xs.length hi-HT.sIx xs.length 0 lo),Heap.get?_push_size _ rfl⟩
theorem Zj:qz X (.builtin "len") (fun xs H Q=>∃ p ys,xs= [.ref p]/\(SqL X.K H p ys∨SqT X.K H p ys)/\Q (.int ys.length) H):=by
 intro pins s σ H xs us Q I r h
 obtain⟨p,ys,rfl,hq,q⟩:=h
 obtain⟨u,rfl,rx⟩:=jE r
 cases rx
 have hn:=Ja
 rcases hq with hq | hq
 ·obtain⟨its,r',pl,hz⟩:=I.list hq
  have hlen:=r'.length
  exact Calls.call_len_list pl.isList (by simp only[List.size_toArray] <;> omega) ⟨.int ys.length,H,I.tok _,⟨s.toks+1,by rw[List.size_toArray,hlen]⟩,q⟩
 ·obtain⟨its,r',pl,hz⟩:=I.tuple hq
  have hlen:=r'.length
  exact len_tuple pl (by simp only[List.size_toArray] <;> omega) ⟨.int ys.length,H,I.tok _,⟨s.toks+1,by rw[List.size_toArray,hlen]⟩,q⟩
theorem Zk:qz X (.type "list") (fun xs H Q=>∃ p ys,xs= [.ref p]/\(SqL X.K H p ys∨SqT X.K H p ys)/\∀ l,H l=none->Q (.ref l) (upd H l (.lst ys))):=by
 intro pins s σ H xs us Q I r h
 obtain⟨p,ys,rfl,hq,q⟩:=h
 obtain⟨u,rfl,rx⟩:=jE r
 cases rx
 have fin:∀ (its:List Value),Vals ys its->ys.length<=sizeLine->∀ (h':Heap) (c':Nat),(∀ b o',s.heap.get? b=some o'->h'.get? b=some o') ->
   h'.get? s.heap.objs.size=some { cls:=.type "list",dict:=none,data:=.seq its.toArray c',slots:=#[] }->EP X pins σ Q (.ref s.heap.objs.size) { s with heap:=h' }:=fun its r' hz h' c' kp e=>
  ⟨.ref s.heap.objs.size,_,I.laid (t':=s.toks) kp (Nat.le_refl _) (show ObjOk X.prog X.w _ h' _ (.lst ys) from ⟨hz,its,c',r',e⟩),rfl,q _ (I.hok.fresh (Nat.le_refl _))⟩
 rcases hq with hq | hq
 ·obtain⟨its,r',pl,hz⟩:=I.list hq
  have hlen:=r'.length
  obtain⟨o,ho,hc,n,hd⟩:=pl.isList
  exact call_list_seq p (.inl rfl) ho hc hd (fun h' c' kp e=>fin its r' hz h' c' kp e) (by simp only[List.size_toArray] <;> omega)
 ·obtain⟨its,r',pl,hz⟩:=I.tuple hq
  have hlen:=r'.length
  obtain⟨o,ho,hc,n,hd⟩:=pl
  exact call_list_seq p (.inr rfl) ho hc hd (fun h' c' kp e=>fin its r' hz h' c' kp e) (by simp only[List.size_toArray] <;> omega)
theorem Jw:qz X (.type "tuple") (fun xs H Q=>∃ p ys,xs= [.ref p]/\((SqL X.K H p ys/\∀ l,H l=none->Q (.ref l) (upd H l (.tup ys)))∨(SqT X.K H p ys/\Q (.ref p) H))):=by
 intro pins s σ H xs us Q I r h
 obtain⟨p,ys,rfl,h⟩:=h
 obtain⟨u,rfl,rx⟩:=jE r
 cases rx
 rcases h with ⟨hq,q⟩ | ⟨hq,q⟩
 ·obtain⟨its,r',pl,hz⟩:=I.list hq
  have hlen:=r'.length
  refine call_tuple_list pl.isList (fun h' kp=>?_) (by simp only[List.size_toArray] <;> omega)
  have I1:Inv X pins σ H { s with heap:=h' }:=I.kept (t':=s.toks) kp
  have I2:Inv X pins σ (upd H h'.objs.size (.tup ys)) { s with heap:=h'.push { cls:=.type "tuple",data:=.seq its.toArray } } :=
   I1.laid (t':=s.toks) (fun b o e=>Heap.get?_push_of_some _ e) (Nat.le_refl _) (show ObjOk X.prog X.w _ _ _ (.tup ys) from ⟨hz,its,r',IsTup.new _ _⟩)
  exact⟨.ref h'.objs.size,_,I2,rfl,q _ (I1.hok.fresh (Nat.le_refl _))⟩
 ·obtain⟨its,r',pl,hz⟩:=I.tuple hq
  exact call_tuple_same pl ⟨.ref p,H,I,rfl,q⟩
noncomputable def tyV (K:PySem.W.Frag) (T:String) (x:V) (H:Hp):Prop:=match x with
 | .str _=>T= "str"
 | .int _=>T= "int"
 | .ref p=>(T= "list" /\∃ xs,SqL K H p xs)∨(T= "tuple" /\∃ o,K.lookup p=some o/\o.cls=.type "tuple" /\o.dict=none) ∨
   (T= "dict" /\((∃ kvs,H p=some (.dK kvs))∨∃ kvs,H p=some (.dT kvs)))∨(T= "set" /\∃ S n,H p=some (.set S n))
 | _=>False
theorem zdF {pins:List (Addr×Obj)}{σ:St}{H:Hp}{s:Shared}{T:String}{x:V}{v:Value}(I:Inv X pins σ H s) (r:RelV x v) (ty:tyV X.K T x H) :
  s.TypeIs v T/\∀ a,v=.ref a->∃ ob,s.heap.get? a=some ob/\ob.dict=none:=by
 cases x with
 | str z=>
  obtain⟨t,rfl⟩:=r
  cases (show T= "str" from ty)
  exact⟨typeIs_str s z t,fun _ e=>nomatch e⟩
 | int i=>
  obtain⟨t,rfl⟩:=r
  cases (show T= "int" from ty)
  exact⟨typeIs_int s i t,fun _ e=>nomatch e⟩
 | ref p=>
  cases r
  rcases ty with ⟨rfl,xs,hq⟩ | ⟨rfl,o,hk,hc,hd⟩ | ⟨rfl,hk⟩ | ⟨rfl,S,n,hk⟩
  ·obtain⟨its,_,pl,_⟩:=I.list hq
   refine⟨pl.isList.typeIs,fun a e=>?_⟩
   cases e
   obtain⟨o,n,e,c,hd,_⟩:=pl
   exact⟨o,e,hd⟩
  ·refine⟨⟨o,I.kIn p o hk,hc⟩,fun a e=>?_⟩
   cases e
   exact⟨o,I.kIn _ o hk,hd⟩
  ·have z:∃ o,s.heap.get? p=some o/\o.ExactDict:=by
    rcases hk with ⟨kvs,hk⟩ | ⟨kvs,hk⟩
    ·obtain⟨_,_,_,_,o,_,_,e,ex,_⟩:=I.hok p _ hk
     exact⟨o,e,ex⟩
    ·obtain⟨_,_,_,_,o,_,_,e,ex,_⟩:=I.hok p _ hk
     exact⟨o,e,ex⟩
   obtain⟨o,e,ex⟩:=z
   refine⟨⟨o,e,ex.1⟩,fun a e2=>?_⟩
   cases e2
   exact⟨o,e,ex.2.1⟩
  ·obtain⟨o,_,_,_,e,ex,_⟩:=I.hok p _ hk
   refine⟨⟨o,e,ex.1⟩,fun a e2=>?_⟩
   cases e2
   exact⟨o,e,ex.2.1⟩
 | _=>exact False.elim ty
noncomputable def tBM (K:PySem.W.Frag) (T:String) (r:V->List V->Hp->VK->Prop) (to:TE) (t:TA):TE:=fun σ H Q=>to σ H fun x H1=>tyV K T x H1/\t σ H1 fun xs H2=>r x xs H2 Q
variable {o e:Expr} {es:List Expr} {to:TE} {t:TA} {name:Str} {apos cpos:Pos} {T id:String} {r:V->List V->Hp->VK->Prop}
theorem zep (pa:PlainAttrs T) (slot:Slot T name id) (hty:typeOf (.builtin id)=pure (.type "method_descriptor")) (hm:MtR X id r) (ho:PE X o to) (ha:PA X (e::es) t)
  (hbase:attributeBase o name X.env (eval o X.env)=eval o X.env:=by rfl)
  (hfew:((backTo cpos (starEach (e::es) X.env)).all (fun x=> !x.1)&&(backToKw cpos (keywordEach [] X.env)).all (fun x=>x.1.isSome)
   && decide ((e::es).length+([]:List Keyword).length+(if ([]:List Keyword).isEmpty then 0 else 1)<30))=true:=by rfl)
  (hline:(apos.endLine==cpos.line)=true:=by rfl) (hs:starEach (e::es) X.env=(false,eval e X.env)::starEach es X.env:=by rfl) (hplain:(backTo cpos (starEach es X.env)).any (·.1)=false:=by rfl) :
  PE X (.Call (.Attribute o name apos) (e::es) [] cpos) (tBM X.K T r to t):=by
 intro pins s σ H Q I h
 refine wpAny_Call_method_late hbase hfew hline rfl (thn (ho pins s σ H _ I h) fun v s1 ⟨x,H1,I1,r1,ty,q1⟩=>?_)
 obtain⟨h1,h2⟩:=zdF I1 r1 ty
 refine⟨T,id,pa,slot,hty,h1,h2,?_⟩
 have hA:=ha cpos pins s1 σ H1 _ I1 q1
 rw[hs] at hA |-
 refine Calls.callWith_builtin (by show (false||(backTo cpos (starEach es X.env)).any (·.1))=false; rw[hplain] <;> rfl) (Calls.evalArgs_plain ?_)
 exact thn hA fun us s2 ⟨vs,H2,I2,r2,q2⟩=>hm pins s2 σ H2 x vs v us Q I2 r1 r2 q2
end
end L2
namespace L2
open PySem PySem.Spec PyProof.Rows
noncomputable def MtM (X:Cx) (id:String) (r:V->List V->Hp->VK->Prop):Prop :=
 ∀ (pins:List (Addr×Obj)) (s:Shared) (σ:St) (H:Hp) (x:V) (xs:List V) (v:Value) (us:List Value) (Q:VK),Inv X pins σ H s->RelV x v->Vals xs us->r x xs H Q ->
  wpAny (model X.prog X.w) X.A (call (.builtin id) (v::us)) (EP X pins σ Q) X.xe s
theorem Vals.one:∀ {x:V}{us:List Value},Vals [x] us->∃ u,us= [u]/\RelV x u
 | _,_,.cons r .nil=>⟨_,rfl,r⟩
theorem Vals.zero:∀ {us:List Value},Vals [] us->us= []
 | _,.nil=>rfl
theorem Vals.reverse {xs:List V}{us:List Value}(h:Vals xs us):Vals xs.reverse us.reverse:=by
 induction h with
 | nil=>exact .nil
 | cons r t ih=>rw[List.reverse_cons,List.reverse_cons]; exact Vals.append ih (.cons r .nil)
theorem Vals.rep {xs:List V}{us:List Value}(h:Vals xs us):∀ k:Nat,Vals (List.replicate k xs).flatten (List.replicate k us).flatten
 | 0=>.nil
 | k+1=>by
  rw[List.replicate_succ,List.replicate_succ,List.flatten_cons,List.flatten_cons]
  exact Vals.append h (Vals.rep h k)
theorem J2 (its:List Value):∀ (k:Nat) (acc:List Value),
  List.foldl (fun x1 x2=>x1++x2) acc.toArray (List.replicate k its.toArray)=(acc++(List.replicate k its).flatten).toArray
 | 0,acc=>by simp
 | k+1,acc=>by
  have e:acc.toArray++its.toArray=(acc++its).toArray:=by simp
  have e2:(acc++its)++(List.replicate k its).flatten=acc++(List.replicate (k+1) its).flatten:=by
   rw[List.replicate_succ,List.flatten_cons,List.append_assoc]
  rw[<- e2,<- J2 its k (acc++its),<- e,List.replicate_succ,List.foldl_cons]
section
variable {X:Cx} {pins:List (Addr×Obj)} {σ:St} {H:Hp} {s:Shared} {l b:Addr} {xs ys zs:List V}
theorem Inv.lset {its its':List Value}{n:Nat}{f:Array Value->Array Value}{t':Nat}(I:Inv X pins σ H s) (hH:H l=some (.lst xs))
  (e:s.heap.get? l=some { cls:=.type "list",data:=.seq its.toArray n }) (hf:f its.toArray=its'.toArray) (hv:Vals ys its') (hz:ys.length<=sizeLine) :
  Inv X pins σ (upd H l (.lst ys)) { s with heap:=s.heap.update l (Obj.mapSeq f),toks:=t' }:=by
 have q:=PySem.IsL.update e f
 rw[hf] at q
 refine I.write (x:=l) (e:=l) (by rw[hH]; exact trivial) (.inl rfl) (fun b' u hb hu=>(Heap.get?_update_other s.heap (Obj.mapSeq f) (Ne.symm hb)).trans hu) ⟨_,q⟩ ?_
 exact⟨hz,its',_,hv,q⟩
theorem Inv.lnew {its:List Value}{t':Nat}(I:Inv X pins σ H s) (hv:Vals ys its) (hz:ys.length<=sizeLine) :
  Inv X pins σ (upd H s.heap.objs.size (.lst ys)) { s with heap:=s.heap.push { cls:=.type "list",data:=.seq its.toArray },toks:=t' } :=
 I.laid (fun _ _ q=>Heap.get?_push_of_some _ q) (Nat.le_refl _) ⟨hz,its,0,hv,Heap.get?_push_size _ rfl⟩
theorem Inv.fresh (I:Inv X pins σ H s):H s.heap.objs.size=none:=I.hok.fresh (Nat.le_refl _)
theorem Inv.lstM (I:Inv X pins σ H s) (hH:H l=some (.lst xs)):xs.length<=sizeLine/\∃ (its:List Value) (n:Nat),Vals xs its/\xs.length=its.length/\s.heap.get? l=some { cls:=.type "list",data:=.seq its.toArray n }:=by
 obtain⟨z,its,n,r,e⟩:=I.hok l _ hH
 exact⟨z,its,n,r,r.length,e⟩
end
section
variable {X:Cx}
noncomputable def zaR:V->List V->Hp->VK->Prop:=fun x vs H Q=>∃ l xs y,x=.ref l/\vs= [y]/\H l=some (.lst xs)/\xs.length<sizeLine/\Q .non (upd H l (.lst (xs++ [y])))
theorem yR:MtM X "list.append" zaR:=by
 intro pins s σ H x vs v us Q I rx rv h
 obtain⟨l,xs,y,rfl,rfl,hH,hz,q⟩:=h
 cases rx
 obtain⟨u,rfl,ru⟩:=rv.one
 obtain⟨z,its,n,r,hl,e⟩:=I.lstM hH
 refine call_meets F.slot_list_append ⟨_,e,rfl⟩ F.entry_list_append (F.args_list_append_2 _ _) (PySem.list_append l its.toArray n u (by rw[List.size_toArray]; omega)) ⟨e,?_⟩
 refine⟨.non,_,I.lset (its':=its++ [u]) hH e (by simp) (r.append (.cons ru .nil)) ?_,rfl,q⟩
 rw[List.length_append,List.length_singleton]
 omega
noncomputable def rCat:R2:=fun x y H Q=>∃ l b xs zs,x=.ref l/\y=.ref b/\H l=some (.lst xs)/\H b=some (.lst zs)/\xs.length+zs.length<=sizeLine/\∀ p,H p=none->Q (.ref p) (upd H p (.lst (xs++zs)))
theorem zcM:OpR X (binaryOp .Add) rCat:=by
 intro pins s σ H x y v u Q I rx ry h
 obtain⟨l,b,xs,zs,rfl,rfl,hH,hB,hz,q⟩:=h
 cases rx
 cases ry
 obtain⟨z,its,n,r,hl,e⟩:=I.lstM hH
 obtain⟨z2,its2,n2,r2,hl2,e2⟩:=I.lstM hB
 refine PySem.P.add_list e e2 ?_ (by rw[List.size_toArray,List.size_toArray]; omega)
 have ea:its.toArray++its2.toArray=(its++its2).toArray:=by simp
 rw[ea]
 exact⟨.ref _,_,I.lnew (t':=s.toks) (r.append r2) (by rw[List.length_append]; omega),rfl,q _ I.fresh⟩
theorem VU {α:Type}(xs:List α) (k:Nat):(List.replicate k xs).flatten.length=k*xs.length:=by
 induction k with
 | zero=>simp
 | succ k ih=>rw[List.replicate_succ,List.flatten_cons,List.length_append,ih,Nat.succ_mul,Nat.add_comm]
end
section
variable {prog:Program} {w:World} {A:Around} {E:Value->Shared->Prop} {s:Shared}
end
section
variable {X:Cx}
end
end L2
namespace Att
open PySem PySem.W PySem.Calls PyProof.Rows
theorem Z3 {P:Params}{h:Heap}:∀ (ns:List Int) (vs:List Value),WellAll P h vs (ns.map WData.int)->IntsAre vs ns:=by
 intro ns
 induction ns with
 | nil=>
  intro vs w
  rw[List.map_nil] at w
  cases w
  exact .nil
 | cons n ns ih=>
  intro vs w
  rw[List.map_cons] at w
  cases w with
  | cons a b=>
   cases a
   exact .cons _ _ (ih _ b)
theorem y8 {l:OpenLaw}{n:Nat}(hn:l.most=some n){P:Params}{h:Heap}{args:List WData}{vals:List Value}
  (hpre:l.row.toRowW.claim.pre args=true) (hwl:WellAll P h vals args) :
  ∃ a vs ns,vals= [Value.ref a]/\args= [WData.list (ns.map WData.int)]/\h.get? a=some { cls:=.type "list",data:=.seq vs.toArray }/\IntsAre vs ns/\ns.length<=n:=by
 have hsh:WShape.hasAll [] args [.list .int]=true:=(pre_splitW hpre).1
 have hc:l.pre.holds [] { args:=args }=true:=(pre_splitW hpre).2
 obtain⟨d,r,rfl,h1,h2⟩:=hasAllW_cons hsh
 obtain rfl:=hasAllW_nil h2
 obtain⟨xs,rfl,h3⟩:=hasW_list h1
 obtain⟨ns,rfl⟩:=items_int h3
 have hlen:ns.length<=n:=by
  unfold OpenLaw.pre at hc
  have h4:(WTm.not (.lt (.lit (.int (n:Int))) (.len (.arg 0)))).holds [] { args:= [.list (ns.map .int)] }=true:=by
   have h4:=(holds_andW hc).1
   rw[hn] at h4
   exact h4
  have h5:=condW_of h4 (w_not (w_lt w_lit (w_len_list (w_arg rfl))))
  rw[List.length_map] at h5
  refine Nat.le_of_not_lt fun q=>?_
  have q':(n:Int)<((ns.length:Nat):Int):=by omega
  first
   | (rw[decide_eq_true q'] at h5; exact absurd h5 (by decide))
   | (simp at h5; omega)
 cases hwl with
 | cons w1 w2=>
  cases w2
  cases w1 with
  | list ho hall=>exact⟨_,_,ns,rfl,rfl,ho,Z3 ns _ hall,hlen⟩
theorem yZ (l:OpenLaw) (args:List WData):l.row.toRowW.claim.post args (.bool true) args=true :=
 postW_of (r:=l.row.toRowW) (X:=(true==true))
  (show WShape.has [] (.bool true) .bool=true by first | rfl | decide | simp[WShape.has,WShape.arms,WShape.armsAll])
  (show (WTm.eq .res (.lit (.bool true))).value [] { args:=args,res:=some (.bool true),after:=args }=some (.bool (true==true)) from w_eq_bool (w_res rfl) w_lit) rfl
theorem attach_call {l:OpenLaw}{n:Nat}{q:Program}{loose:List Str}{XP:(Str->Option Value)->Heap->Prop}{YP:World->Heap->Prop}{d:DefRec}
  (hn:l.most=some n) (hdf:d.params.defaults= [])
  (call:∀ (w:World) (s₀ s₁:Shared) (mg mb:Str->Option Value) (fa:Addr) (o:Obj) (pm cd doc:Value) (a:Addr) (vs:List Value) (ns:List Int),
   Ground q loose [] XP w s₀ mg mb s₁.heap->YP w s₁.heap ->
   s₁.heap.get? fa=some o->o.data=.func (docDef d.name d.params d.body d.scope pm cd doc)->s₁.heap.CodeRec cd d.name->mg d.name=some (.ref fa) ->
   s₁.heap.get? a=some { cls:=.type "list",data:=.seq vs.toArray }->IntsAre vs ns->ns.length<=n->s₁.gens=#[] ->
   codeAny (model l.prog w) callerA (.call (.ref fa) ⟨[.ref a],[]⟩) (fun r s'=>r=.ok (.ret (.bool true))/\OldK s₁.heap s'.heap/\s'.os=s₁.os/\AllBare s'.gens) s₁) :
  WalkO q loose XP YP l.row.toRowW d [] (fun f vs=>PySem.call f vs):=by
 intro w s₀ s₁ mg mb G Y fa o pm cd doc dV kV ho hd hcd hD hmg hg args vals as hpre hlay hrd hwl hlo
 obtain rfl:dV=.none:=Dflts.none hD hdf
 obtain rfl:kV=.none:=Dflts.noKw hD
 obtain⟨a,vs,ns,rfl,rfl,hobj,hints,hlen⟩:=y8 hn hpre hwl
 refine enter_call (codeAny_mono (call w s₀ s₁ mg mb fa o pm cd doc a vs ns G Y ho (fd_plain hd) hcd hmg hobj hints hlen hg) fun r s' hq=>?_)
 obtain⟨rfl,h2,h3,h4⟩:=hq
 exact⟨.inl ⟨.bool true,.bool true,[],rfl,fun _=>rfl,.bool true,yZ l _,fun _=>⟨List.Pairwise.nil,fun _ hm=>(nomatch hm)⟩⟩,h2,h3,h4⟩
section
variable {prog:Program} {w:World} {A:Around} {E:Value->Shared->Prop} {s:Shared} {K:Frag}
end
end Att
namespace L2
open PySem PySem.Spec PyProof.Rows
theorem jz:∀ {vs:List Value}{ns:List Int},IntsAre vs ns->Vals (ns.map V.int) vs
 | _,_,.nil=>.nil
 | _,_,.cons n t h=>.cons ⟨t,rfl⟩ (jz h)
noncomputable def zb1 (H:Hp):Prop:=∀ b,H b=none∨∃ o xs,H b=some (.frz o (.lst xs))
theorem Y7 {P:Program}{w:World}{K:PySem.W.Frag}{mg mb:Str->Option Value}{CX:CXT}{k:Nat}{fa a:Addr}{fd:FuncData}{x:Str}{sp:Sp} {s₁:Shared}{vs:List Value}{ns:List Int}
  (KX:K.In s₁.heap) (hns:s₁.heap.Ns mainGlobals mg) (hb:s₁.heap.Ns builtinsNs mb) (hbb:∀ x:Str,x≠ "__name__" ->mb x=bootBuiltins x) (hlim:s₁.heap.NoLimit) (hg:s₁.gens=#[])
  (ha:s₁.heap.get? a=some { cls:=.type "list",data:=.seq vs.toArray }) (hi:IntsAre vs ns) (hl:ns.length<=sizeLine) (hr:Room k callerA)
  (F:∀ base:Heap,K.In base->base.Ns mainGlobals mg->FnOk P w K mg base CX k fa fd [x] sp) (hbind:∀ (s:Shared) (u:Value),BindsTo s fd ⟨[u],[]⟩ [(x,u)])
  (hsp:∀ H:Hp,zb1 H->SqL K H a (ns.map V.int)->sp [.ref a] H (fun v _=>v=.bl true) fun _ _ _=>False)
  (hCX:∀ H e s',CX [] H s₁ (fun _ _ _=>False) e s'->False) :
  codeAny (model P w) callerA (.call (.ref fa) ⟨[.ref a],[]⟩) (fun r s'=>r=.ok (.ret (.bool true))/\OldK s₁.heap s'.heap/\s'.os=s₁.os/\AllBare s'.gens) s₁:=by
 have rv:=jz hi
 have lenV:=hi.length
 -- from an abstract heap in which nothing but the script may be tracked
 have core:∀ H:Hp,zb1 H->SqL K H a (ns.map V.int)->HOk P w H s₁.heap->(∀ b,H b≠none->b=a)->(H a≠none->K.lookup a=none) ->
   codeAny (model P w) callerA (.call (.ref fa) ⟨[.ref a],[]⟩) (fun r s'=>r=.ok (.ret (.bool true))/\OldK s₁.heap s'.heap/\s'.os=s₁.os/\AllBare s'.gens) s₁:=by
  intro H hO hS hok hA hK
  have wE:∀ {b:Addr} {o:Obj},s₁.heap.get? b=some o->H b=none->(wO s₁.heap H).get? b=some o:=fun e n=>Y1 e n
  have noA:∀ {b:Addr} {o:Obj} {es:Array DictEntry} {ep:Nat},s₁.heap.get? b=some o->o.data=.dict es ep->H b=none:=fun {b o es ep} e d=>by
   cases q:H b with
   | none=>rfl
   | some u=>
    have e':b=a:=hA b (by rw[q]; simp)
    subst e'
    rw[ha] at e; cases e
    have d':Data.seq vs.toArray _=Data.dict es ep:=d
    cases d'
  have nsK:∀ {b:Addr} {m:Str->Option Value},s₁.heap.Ns b m->(wO s₁.heap H).Ns b m:=fun {b m} ⟨o,es,ep,e,d,r⟩=>⟨o,es,ep,wE e (noA e d),d,r⟩
  have hKb:K.In (wO s₁.heap H):=fun b o e=>wE (KX b o e) (by
   cases q:H b with
   | none=>rfl
   | some u=>
    have e':b=a:=hA b (by rw[q]; simp)
    subst e'
    rw[hK (by rw[q]; simp)] at e; cases e)
  have hM:Mod K mg (wO s₁.heap H):=⟨hKb,nsK hns,⟨mb,nsK hb,hbb⟩,let ⟨mc,h1,h2⟩:=hlim; ⟨mc,nsK h1,h2⟩⟩
  have e0:K0 P w K mg (wO s₁.heap H) callerA [] s₁ H:=⟨rfl,hM,fun b o e=>zax e,Nat.le_of_eq (yJ _ _),trivial,fun b hb=>absurd (show b∈([]:List Addr) from hb) (by simp),hok,.of_eq hg⟩
  refine codeAny_mono ((F _ hKb (nsK hns)).run callerA [] s₁ H ⟨[.ref a],[]⟩ [.ref a] [.ref a] _ _ hr e0 (hbind s₁ (.ref a)) (.cons rfl .nil) (hsp H hO hS)) fun r s' h=>?_
  cases r with
  | error e=>exact (hCX H e s' h).elim
  | ok fl=>
   cases fl with
   | next=>exact False.elim h
   | brk=>exact False.elim h
   | cont=>exact False.elim h
   | ret u=>
    obtain⟨v,H',os,bare,un,hok',r',q⟩:=h
    have q':v=.bl true:=q
    subst q'
    obtain rfl:u=Value.bool true:=r'
    refine⟨rfl,OldK.of_keep fun b o e=>?_,os,bare⟩
    cases q:H b with
    | none=>exact un.keep b o e q (by intro z; exact absurd (show b∈([]:List Addr) from z) (by simp)) (by simp)
    | some u=>
     rcases hO b with z | ⟨ob,xs,z⟩
     ·rw[q] at z; cases z
     ·have z2:=un.frzs b ob _ z
      obtain⟨e1,_⟩:=hok b _ z
      obtain⟨e2,_⟩:=hok' b _ z2
      rw[e] at e1; cases e1
      exact e2
 cases hk:K.lookup a with
 | some o=>
  -- the script is one of the module's own objects
  have e:=KX a o hk
  rw[ha] at e
  cases e
  refine core (fun _=>none) (fun _=>.inl rfl) (.inr ⟨_,vs.toArray,_,hk,rfl,rfl,rfl,by rw[List.size_toArray,lenV]; exact hl,by simpa using rv⟩) (fun b u z=>by have z':(none:Option HO)=some u:=z; cases z') (fun b z=>absurd rfl z) fun z=>absurd rfl z
 | none=>
  refine core (fun b=>if b=a then some (.frz { cls:=.type "list",data:=.seq vs.toArray } (.lst (ns.map V.int))) else none) (fun b=>?_) (.inl (.inr ⟨{ cls:=.type "list",data:=.seq vs.toArray },if_pos rfl⟩)) (fun b u z=>?_) (fun b z=>?_) fun _=>hk
  ·by_cases hb:b=a
   ·exact .inr ⟨_,_,if_pos hb⟩
   ·exact .inl (if_neg hb)
  ·by_cases hb:b=a
   ·have z':=(if_pos hb).symm.trans z
    cases z'
    subst hb
    exact⟨ha,by rw[List.length_map]; exact hl,vs,_,rv,ha⟩
   ·have z':=(if_neg hb).symm.trans z
    cases z'
  ·by_cases hb:b=a
   ·exact hb
   ·exact absurd (if_neg hb) z
end L2
namespace L2
open PySem PySem.Spec PyProof.Rows
noncomputable abbrev KOf {K:PySem.W.Frag} {h:Heap} (_:K.In h):PySem.W.Frag:=K
theorem walk_of {l:PySem.W.OpenLaw}{n k:Nat}{q:Program}{loose:List Str}{XP:(Str->Option Value)->Heap->Prop}{YP:World->Heap->Prop}{d:DefRec}{K:Params->PySem.W.Frag}{CX:World->CXT}{sp:World->Sp}{x:Str}
  (hn:l.most=some n) (hn2:n<=sizeLine) (hdf:d.params.defaults= []) (hr:Room k callerA)
  (hY:∀ (w:World) (h:Heap),YP w h->(K w.params).In h)
  (F:∀ (w:World) (mg:Str->Option Value) (fa:Addr) (h:Heap),(K w.params).In h->h.Ns mainGlobals mg->mg d.name=some (.ref fa) ->
   ∃ fd:FuncData,(∀ (s:Shared) (u:Value),BindsTo s fd ⟨[u],[]⟩ [(x,u)]) /\
    ∀ base:Heap,(K w.params).In base->base.Ns mainGlobals mg->FnOk l.prog w (K w.params) mg base (CX w) k fa fd [x] (sp w))
  (hsp:∀ (w:World) (H:Hp) (a:Addr) (ns:List Int),ns.length<=n->zb1 H->SqL (K w.params) H a (ns.map V.int)->sp w [.ref a] H (fun v _=>v=.bl true) fun _ _ _=>False)
  (hCX:∀ (w:World) (H:Hp) (s:Shared) (e:Value) (s':Shared),CX w [] H s (fun _ _ _=>False) e s'->False) :
  PySem.W.WalkO q loose XP YP l.row.toRowW d [] (fun f vs=>PySem.call f vs):=by
 refine Att.attach_call hn hdf fun w s₀ s₁ mg mb fa o pm cd doc a vs ns G Y ho hd hcd hmg hobj hints hlen hg=>?_
 have KX:=hY w _ Y
 obtain⟨fd,hb,hF⟩:=F w mg fa _ KX G.T.g hmg
 exact Y7 KX G.T.g G.T.b G.T.builtins G.T.nolimit hg hobj hints (Nat.le_trans hlen hn2) hr hF hb (fun H hO hS=>hsp w H a ns hlen hO hS) fun H e s'=>hCX w H s₁ e s'
end L2
namespace L2
open PySem PySem.Spec PyProof.Rows
noncomputable def zT (s:Stmt):Arguments:=match s with
 | .FunctionDef _ a _ _ _ _ _ _ _ _=>a
 | _=>{ posonlyargs:= [],args:= [],vararg:=none,kwonlyargs:= [],kw_defaults:= [],kwarg:=none,defaults:= [] }
noncomputable def defBody (s:Stmt):List Stmt:=match s with
 | .FunctionDef _ _ b _ _ _ _ _ _ _=>b
 | _=> []
noncomputable def defScope (s:Stmt):Scope:=match s with
 | .FunctionDef _ _ _ _ _ _ sc _ _ _=>sc
 | _=>{ kind:=.function,names:= [],isGenerator:=false,isCoroutine:=false }
noncomputable abbrev CX0:CXT:=fun _ _ _ _ _ _=>False
noncomputable abbrev E0:XK:=fun _ _ _=>False
theorem zeo {X:Cx}:wx CX0 X E0:=fun _ _ _ _ _ _ _ h=>h.elim
structure Fun (K:PySem.W.Frag) (x qual:Str) (st:Stmt) (f:Addr) (fd:FuncData):Prop where
 ex:∃ (oc:Value) (od:Option Addr) (kV doc pm:Value) (an:Option Addr) (cdv ct:Value) (osl:Array (Option Value)),
  fd=PySem.W.fnOf x qual (zT st) (defBody st) (defScope st) .none kV doc pm an cdv ct/\K.lookup f=some ⟨oc,od,.func fd,osl⟩/\PySem.W.codeIn K cdv qual=true
 kp:PySem.W.keepIn K (.ref f)=true
section
variable {P:Program} {w:World} {K:PySem.W.Frag} {mg:Str->Option Value} {base:Heap}
theorem Fun.ok {x qual:Str}{st:Stmt}{f:Addr}{fd:FuncData}{N ps:List Str}{k:Nat}{sp:Sp}(F:Fun K x qual st f fd) (S:qA N ps (defScope st)) (len:∀ vs H Q E,sp vs H Q E->vs.length=ps.length)
  (hbody:∀ (cdv:Value) (A:Around) (outer:List Env) (s:Shared) (H:Hp) (vs:List V) (Q:VK) (E:XK),Room k (A.deeper (envOfC qual (defScope st) s.heap.objs.size f cdv))->sp vs H Q E ->
   ∃ t,PSs (jM CX0 P w K mg base N qual (defScope st) f cdv A outer s H E).nox (defBody st) t/\t { nx:=fun _ H'=>Q .non H',rt:=Q } (start N vs) H):FnOk P w K mg base CX0 (k+1) f fd ps sp:=by
 obtain⟨oc,od,kV,doc,pm,an,cdv,ct,osl,rfl,lk,hcd⟩:=F.ex
 refine zbK lk hcd S len fun A outer s H vs Q E hr hsp=>?_
 obtain⟨t,h,q⟩:=hbody cdv A outer s H vs Q E hr hsp
 exact⟨t,h.nox,q⟩
theorem Fun.binds {x qual:Str}{st:Stmt}{f:Addr}{fd:FuncData}{ps:List Str}(F:Fun K x qual st f fd)
  (h:∀ (kV doc pm:Value) (an:Option Addr) (cdv ct:Value) (us:List Value),us.length=ps.length->bindArgs (PySem.W.fnOf x qual (zT st) (defBody st) (defScope st) .none kV doc pm an cdv ct) ⟨us,[]⟩=pure (ps.zip us)):Binds K fd ps []:=by
 obtain⟨oc,od,kV,doc,pm,an,cdv,ct,osl,rfl,lk,hcd⟩:=F.ex
 exact .all (h kV doc pm an cdv ct)
theorem jP {x qual:Str}{st:Stmt}{f:Addr}{oc:Value}{od an:Option Addr}{osl:Array (Option Value)}{kV doc pm cdv ct:Value}(l:K.lookup f=some ⟨oc,od,.func (PySem.W.fnOf x qual (zT st) (defBody st) (defScope st) .none kV doc pm an cdv ct),osl⟩)
  (c:PySem.W.codeIn K cdv qual=true) (k:PySem.W.keepIn K (.ref f)=true):Fun K x qual st f (PySem.W.fnOf x qual (zT st) (defBody st) (defScope st) .none kV doc pm an cdv ct):=⟨⟨oc,od,kV,doc,pm,an,cdv,ct,osl,rfl,l,c⟩,k⟩
end
section
variable {X:Cx}
theorem pv (i:Nat){x:Str}{pos:Pos}(hN:X.N[i]?=some x:=by rfl) (hv:Vis X.env.scope x:=by first | exact Or.inl rfl | exact Or.inr (Or.inl rfl) | exact Or.inr (Or.inr rfl)) (hd:(x==("__debug__" :Str))=false:=by decide)
    (hcd:(x==("__classdict__" :Str))=false:=by decide):PE X (.Name x pos) (zeQ i):=qq hN hv hd hcd
end
theorem WR {A B:Prop}(h:B):if false=true then A else B:=by
 rw[if_neg Bool.false_ne_true]
 exact h
theorem WS {A B:Prop}(h:A):if true=true then A else B:=by
 rw[if_pos rfl]
 exact h
noncomputable def Same (H H':Hp):Prop:=∀ b o,H b=some o->H' b=some o
theorem Same.refl (H:Hp):Same H H:=fun _ _ h=>h
theorem Same.trans {H H1 H2:Hp}(a:Same H H1) (b:Same H1 H2):Same H H2:=fun c o h=>b c o (a c o h)
theorem Same.free {H H':Hp}(e:Same H H'){l:Addr}(h:H' l=Option.none):H l=Option.none:=by
 cases q:H l with
 | none=>rfl
 | some o=>
  rw[e l o q] at h
  cases h
theorem Same.seq {K:PySem.W.Frag}{H H':Hp}{a:Addr}{xs:List V}(e:Same H H') (h:SqL K H a xs):SqL K H' a xs:=by
 rcases h with (h | ⟨o,h⟩) | h
 ·exact .inl (.inl (e _ _ h))
 ·exact .inl (.inr ⟨o,e _ _ h⟩)
 ·exact .inr h
end L2
namespace L2
open PySem PySem.Spec PyProof.Rows
section
variable {κ:Type} [DecidableEq κ]
noncomputable def vB (kvs:List (κ×V)) (k:κ):Option V:=(kvs.find? fun kv=>decide (kv.1=k)).map (·.2)
noncomputable def Va (kvs:List (κ×V)) (k:κ) (v:V):List (κ×V) :=
 if (kvs.any fun kv=>decide (kv.1=k))=true then kvs.map (fun kv=>if kv.1=k then (kv.1,v) else kv) else kvs++ [(k,v)]
noncomputable def zbG (kvs:List (κ×V)) (k:κ):List (κ×V):=kvs.filter fun kv=>decide (kv.1≠k)
theorem Jv {p:κ×V}{r:List (κ×V)}{k:κ}(e:p.1=k):vB (p::r) k=some p.2:=by simp[vB,List.find?_cons,e]
theorem Ju {p:κ×V}{r:List (κ×V)}{k:κ}(e:¬ p.1=k):vB (p::r) k=vB r k:=by simp[vB,List.find?_cons,e]
theorem vC (k:κ):∀ kvs:List (κ×V),(kvs.any fun kv=>decide (kv.1=k))=(vB kvs k).isSome
 | []=>rfl
 | p::r=>by
  rw[List.any_cons]
  by_cases e:p.1=k
  ·simp only[Jv e,decide_eq_true e,Bool.true_or,Option.isSome_some]
  ·rw[Ju e,decide_eq_false e,Bool.false_or]; exact vC k r
theorem RelO.isSome_eq {o:Option V}{u:Option Value}(r:RelO o u):o.isSome=u.isSome:=by
 cases o with
 | none=>cases u with
  | none=>rfl
  | some _=>exact (show False from r).elim
 | some _=>cases u with
  | none=>exact (show False from r).elim
  | some _=>rfl
theorem KV.val {kvs:List (κ×V)}{vs:List (κ×Value)}(r:KV kvs vs) (k:κ):RelO (vB kvs k) (valueAt vs k):=by
 unfold KV at r
 induction r with
 | nil=>exact True.intro
 | @cons p q ps qs h t ih=>
  obtain⟨h1,h2⟩:=h
  by_cases e:p.1=k
  ·have e':q.1=k:=h1.symm.trans e
   have b:valueAt (q::qs) k=some q.2:=by simp[valueAt,List.find?_cons,e']
   rw[Jv e,b]; exact h2
  ·have e':¬ q.1=k:=fun z=>e (h1.trans z)
   have b:valueAt (q::qs) k=valueAt qs k:=by simp[valueAt,List.find?_cons,e']
   rw[Ju e,b]; exact ih
theorem KV.any {kvs:List (κ×V)}{vs:List (κ×Value)}(r:KV kvs vs) (k:κ):(kvs.any fun kv=>decide (kv.1=k))=vs.any fun kv=>decide (kv.1=k):=by
 unfold KV at r
 induction r with
 | nil=>rfl
 | cons h t ih=>rw[List.any_cons,List.any_cons,ih,h.1]
theorem KV.repl {kvs:List (κ×V)}{vs:List (κ×Value)}(r:KV kvs vs) (k:κ){y:V}{u:Value}(ry:RelV y u) :
  KV (kvs.map fun kv=>if kv.1=k then (kv.1,y) else kv) (vs.map fun kv=>if kv.1=k then (kv.1,u) else kv):=by
 unfold KV at r |-
 induction r with
 | nil=>exact .nil
 | @cons p q ps qs h t ih=>
  rw[List.map_cons,List.map_cons]
  refine .cons ?_ ih
  obtain⟨h1,h2⟩:=h
  by_cases e:p.1=k
  ·rw[if_pos e,if_pos (h1.symm.trans e)]; exact⟨h1,ry⟩
  ·rw[if_neg e,if_neg (fun z=>e (h1.trans z))]; exact⟨h1,h2⟩
theorem KV.put {kvs:List (κ×V)}{vs:List (κ×Value)}(r:KV kvs vs) (k:κ){y:V}{u:Value}(ry:RelV y u):KV (Va kvs k y) (stored vs k u):=by
 unfold Va stored
 rw[r.any k]
 by_cases e:(vs.any fun kv=>decide (kv.1=k))=true
 ·rw[if_pos e,if_pos e]; exact r.repl k ry
 ·rw[if_neg e,if_neg e]; exact Paired.snoc r ⟨rfl,ry⟩
theorem KV.drop {kvs:List (κ×V)}{vs:List (κ×Value)}(r:KV kvs vs) (k:κ):KV (zbG kvs k) (without vs k):=by
 unfold KV at r |-
 unfold zbG without
 induction r with
 | nil=>exact .nil
 | @cons p q ps qs h t ih=>
  obtain⟨h1,h2⟩:=h
  rw[List.filter_cons,List.filter_cons]
  by_cases e:p.1=k
  ·have a:¬ decide (p.1≠k)=true:=by simp[e]
   have b:¬ decide (q.1≠k)=true:=by simp[h1.symm.trans e]
   rw[if_neg a,if_neg b]; exact ih
  ·have e':¬ q.1=k:=fun z=>e (h1.trans z)
   have a:decide (p.1≠k)=true:=by simp[e]
   have b:decide (q.1≠k)=true:=by simp[e']
   rw[if_pos a,if_pos b]; exact .cons ⟨h1,h2⟩ ih
theorem KV.keys {kvs:List (κ×V)}{vs:List (κ×Value)}(r:KV kvs vs):kvs.map (·.1)=vs.map (·.1):=by
 unfold KV at r
 induction r with
 | nil=>rfl
 | cons h t ih=>rw[List.map_cons,List.map_cons,ih,h.1]
theorem KV.length {kvs:List (κ×V)}{vs:List (κ×Value)}(r:KV kvs vs):kvs.length=vs.length:=Paired.length r
end
theorem zbP {P:Program}{w:World}{k:Key}{u:Value}(r:RelV (kV k) u):(qj P w).is k u=true:=by
 cases k with
 | inl i=>obtain⟨t,e⟩:=(show ∃ t,u=Value.int i t from r); subst e; exact W1 P w i t
 | inr x=>obtain⟨t,e⟩:=(show ∃ t,u=Value.str x t from r); subst e; exact W2 P w x t
noncomputable abbrev KT (H:Hp):List (List Key×V)->List (List Key×Addr×Value)->Prop:=Paired fun p q=>p.1=q.1/\H q.2.1=some (.tup (p.1.map kV))/\RelV p.2 q.2.2
theorem KT.val {H:Hp}{kvs:List (List Key×V)}{xs:List (List Key×Addr×Value)}(r:KT H kvs xs) (k:List Key):RelO (vB kvs k) ((atKey xs k).map (·.2)):=by
 induction r with
 | nil=>exact True.intro
 | @cons p q ps qs h t ih=>
  obtain⟨h1,_,h2⟩:=h
  by_cases e:p.1=k
  ·have e':q.1=k:=h1.symm.trans e
   have b:atKey (q::qs) k=some q.2:=by simp[atKey,List.find?_cons,e']
   rw[Jv e,b]; exact h2
  ·have e':¬ q.1=k:=fun z=>e (h1.trans z)
   have b:atKey (q::qs) k=atKey qs k:=by simp[atKey,List.find?_cons,e']
   rw[Ju e,b]; exact ih
theorem KT.repl {H:Hp}{kvs:List (List Key×V)}{xs:List (List Key×Addr×Value)}(r:KT H kvs xs) (k:List Key){y:V}{u:Value}(ry:RelV y u) :
  KT H (kvs.map fun kv=>if kv.1=k then (kv.1,y) else kv) (xs.map (putAt k u)):=by
 induction r with
 | nil=>exact .nil
 | @cons p q ps qs h t ih=>
  rw[List.map_cons,List.map_cons]
  refine .cons ?_ ih
  obtain⟨h1,h2,h3⟩:=h
  unfold putAt
  by_cases e:p.1=k
  ·rw[if_pos e,if_pos (h1.symm.trans e)]; exact⟨h1,h2,ry⟩
  ·rw[if_neg e,if_neg (fun z=>e (h1.trans z))]; exact⟨h1,h2,h3⟩
theorem KT.put {H:Hp}{kvs:List (List Key×V)}{xs:List (List Key×Addr×Value)}(r:KT H kvs xs) (k:List Key){b:Addr}{y:V}{u:Value}(hb:H b=some (.tup (k.map kV))) (ry:RelV y u) :
  KT H (Va kvs k y) (storedH xs k b u):=by
 have e:(kvs.any fun kv=>decide (kv.1=k))=(atKey xs k).isSome:=by
  rw[vC,(r.val k).isSome_eq,Option.isSome_map]
 unfold Va storedH
 rw[e]
 by_cases q:(atKey xs k).isSome=true
 ·rw[if_pos q,if_pos q]; exact r.repl k ry
 ·rw[if_neg q,if_neg q]; exact Paired.snoc r ⟨rfl,hb,ry⟩
theorem KT.keeps {H H':Hp}{kvs:List (List Key×V)}{xs:List (List Key×Addr×Value)}(r:KT H kvs xs) (ht:∀ b ys,H b=some (.tup ys)->H' b=some (.tup ys)):KT H' kvs xs :=
 Paired.mapP r fun _ _ z=>⟨z.1,ht _ _ z.2.1,z.2.2⟩
section
variable {P:Program} {w:World} {H:Hp} {h:Heap} {a:Addr}
end
section
variable {X:Cx} {pins:List (Addr×Obj)} {σ:St} {H:Hp} {s:Shared} {a:Addr} {y v:V} {u r:Value} {o:Option V} {A:Around} {E:Value->Shared->Prop}
theorem Inv.big (I:Inv X pins σ H s):sysModules<s.heap.objs.size:=by
 have h:mainGlobals<s.heap.objs.size:=(I.mod.glob.keeps I.bk).lt
 exact Nat.lt_trans (by decide) h
theorem zcm {P:Program}{w:World}{H':Hp}{h':Heap}{kvs:List (Key×V)}{vs:List (Key×Value)}(z:kvs.length<=sizeLine) (hd:(a==sysModules)=false) (rel:KV kvs vs) (dd:h'.DictOf (qj P w) a vs) :
  ObjOk P w H' h' a (.dK kvs):=⟨z,hd,vs,rel,dd⟩
end
section
variable {X:Cx} {pins:List (Addr×Obj)} {σ:St} {H:Hp} {s:Shared} {a:Addr} {kvs:List (Key×V)} {k:Key} {u:Value} {A:Around} {E:Value->Shared->Prop}
end
section
variable {X:Cx} {o i e value:Expr} {pos pos' tpos:Pos} {td ty tv:TE}
end
theorem YL {P:Program}{w:World}{H:Hp}(h:Heap) (hb:sysModules<h.objs.size):ObjOk P w H (h.push { cls:=.type "dict",data:=.dict #[] }) h.objs.size (.dK []) :=
 ⟨Nat.zero_le _,beq_eq_false_iff_ne.mpr (Ne.symm (Nat.ne_of_lt hb)),[],.nil,Heap.DictOf.new h⟩
noncomputable def zdC:TE:=fun _ H Q=>∀ p,H p=none->Q (.ref p) (upd H p (.dK []))
section
variable {X:Cx} {pos:Pos}
theorem pe_dnewK:PE X (.Dict [] [] pos) zdC:=fun pins s σ H Q I h=>
 wpAny_Dict_empty ⟨.ref s.heap.objs.size,_,I.laid (a:=s.heap.objs.size) (o:=.dK []) (t':=s.toks) (fun _ _ q=>Heap.get?_push_of_some _ q) (Nat.le_refl _) (YL s.heap I.big),rfl,h _ (I.hok.fresh (Nat.le_refl _))⟩
end
section
variable {X:Cx} {pins:List (Addr×Obj)} {σ:St} {H:Hp} {s:Shared} {a:Addr} {y d:V} {u r:Value} {o:Option V} {A:Around} {E:Value->Shared->Prop}
end
section
variable {X:Cx} {o e f:Expr} {apos cpos:Pos} {td ty tx:TE}
end
section
variable {X:Cx} {pins:List (Addr×Obj)} {σ:St} {H:Hp} {s:Shared} {a:Addr} {kvs:List (Key×V)} {A:Around} {E:Value->Shared->Prop}
end
section
variable {X:Cx} {pins:List (Addr×Obj)} {σ:St} {H:Hp} {s:Shared} {a:Addr} {y:V} {u:Value} {A:Around} {E:Value->Shared->Prop}
end
end L2
namespace L2
open PySem PySem.Spec PyProof.Rows
section
variable {X:Cx}
end
end L2
namespace L2
open PySem PySem.Spec PyProof.Rows
theorem zV {α β:Type} [BEq α] [LawfulBEq α]:∀ {l:List (α×β)}{x:α}{v:β},l.lookup x=some v->(x,v)∈l
 | [],_,_,h=>by simp at h
 | (a,b)::r,x,v,h=>by
  rw[List.lookup_cons] at h
  cases e:x==a with
  | true=>rw[e] at h; have e':=eq_of_beq e; subst e'; cases h; exact List.mem_cons_self
  | false=>rw[e] at h; exact List.mem_cons_of_mem _ (zV h)
theorem jL {env:Env}:∀ (names:List (Str×NameKind)) (cs:List (Str×Addr)),
    (∀ y∈names,y.2=.free->∃ c,env.cells.lookup y.1=some c)->(∀ x c,cs.lookup x=some c->env.cells.lookup x=some c) ->
    ∃ cl,(forIn names cs fun x r=>if (x.snd==NameKind.free)=true then do
                let z<-cellOf env x.fst
                pure (ForInStep.yield ((x.fst,z)::r))
              else pure (ForInStep.yield r):Sem (List (Str×Addr)))=pure cl/\(∀ x c,cl.lookup x=some c->env.cells.lookup x=some c) /\
      (∀ x,(∃ c,cs.lookup x=some c)∨(x,NameKind.free)∈names->∃ c,cl.lookup x=some c)
  | [],cs,_,h2=>⟨cs,by simp,h2,fun x hx=>by
      rcases hx with h | h
      · exact h
      · cases h⟩
  | (n,k)::r,cs,h1,h2=>by
    rw[List.forIn_cons]
    by_cases hk:k=.free
    · subst hk
      obtain⟨c,hc⟩:=h1 (n,.free) List.mem_cons_self rfl
      have e:cellOf env n=pure c:=by unfold cellOf; rw[hc]
      obtain⟨cl,e1,h3,h4⟩:=jL r ((n,c)::cs) (fun y hy=>h1 y (List.mem_cons_of_mem _ hy)) (fun x c' hx=>by
        rw[List.lookup_cons] at hx
        cases q:x==n with
        | true=>rw[q] at hx; cases hx; rw[eq_of_beq q]; exact hc
        | false=>rw[q] at hx; exact h2 x c' hx)
      refine⟨cl,?_,h3,fun x hx=>h4 x ?_⟩
      · simp only [beq_self_eq_true, if_true, e, pure_bind]
        exact e1
      · by_cases q : x = n
        · subst q; exact .inl ⟨c,by simp⟩
        · rcases hx with ⟨c', hx⟩ | hx
          · exact .inl ⟨c',by rw[List.lookup_cons,beq_eq_false_iff_ne.mpr q]; exact hx⟩
          · rcases List.mem_cons.mp hx with z | z
            · exact absurd (congrArg Prod.fst z) q
            · exact .inr z
    · have hb : (k == NameKind.free) = false := by simpa using hk
      obtain⟨cl,e1,h3,h4⟩:=jL r cs (fun y hy=>h1 y (List.mem_cons_of_mem _ hy)) h2
      refine⟨cl,?_,h3,fun x hx=>h4 x ?_⟩
      · simp only [hb, Bool.false_eq_true, if_false, pure_bind]
        exact e1
      · rcases hx with hx | hx
        · exact .inl hx
        · rcases List.mem_cons.mp hx with z | z
          · exact absurd (congrArg Prod.snd z).symm hk
          · exact .inr z
theorem vM {sc:Scope}{env:Env}(h:∀ y∈sc.names,y.2=.free->∃ c,env.cells.lookup y.1=some c) :
  ∃ cl,closureFor sc env=pure cl/\(∀ x c,cl.lookup x=some c->env.cells.lookup x=some c)/\(∀ x,(x,NameKind.free)∈sc.names->∃ c,cl.lookup x=some c):=by
 obtain⟨cl,e,h1,h2⟩:=jL (env:=env) sc.names [] h (fun x c z=>by simp at z)
 refine⟨cl,?_,h1,fun x hx=>h2 x (.inr hx)⟩
 simp only[closureFor]
 rw[bind_pure]
 exact e
noncomputable def yj (X:Cx) (C:Addr) (x:Value) (s':Shared):Prop:=∃ m,s'.heap.Ns C m/\∀ h',Heap.SameBut C s'.heap h'->∀ cenv:Env,cenv.locals=C->wpAny (model X.prog X.w) X.A (passOn "comprehension.variables-let-go" x cenv:Sem Value) (fun _ _=>False) X.xe { s' with heap:=h' }
noncomputable abbrev Cx.comp (X:Cx) (N':List Str) (scope:Scope) (cl:List (Str×Addr)) (C:Addr) (s2:Shared) (H2:Hp) (fp:List Addr):Cx :=
 { X with N:=N',env:=compEnvC scope cl C X.env,s₀:=s2,H₀:=H2,outer:=X.stack,stack:=X.stack,ex:=fp,fn:=fun x=>decide (scope.names.lookup x=some .cell),pn:= [],xe:=notedBy (model X.prog X.w) X.A (compEnvC scope cl C X.env) (yj X C) }
noncomputable def Cat (X:Cx) (σ:St) (C:Addr) (s2:Shared) (H2:Hp) (fp:List Addr):Prop:=∃ pins,Inv X pins σ H2 s2/\(∀ b∈fp,jA X pins H2 b)/\s2.heap.objs.size<=C
structure CSc (psc:Scope) (N:List Str) (sc:Scope) (N':List Str) (k:Nat) (ix:List Nat):Prop where
 kind:sc.kind=.function
 cel:∀ y∈sc.names,y.2=.cell->sc.names.lookup y.1=some .cell
 loc:∀ y∈sc.names,y.2=.local->sc.names.lookup y.1=some .local
 fre:∀ y∈sc.names,y.2=.free->psc.names.lookup y.1=some .cell∨psc.names.lookup y.1=some .free
 len:N'.length=k+ix.length
 nd:N'.Nodup
 cap:∀ (j i:Nat),ix[j]?=some i->∃ y,N'[k+j]?=some y/\N[i]?=some y/\sc.names.lookup y=some .free
noncomputable def VL (psc:Scope) (N:List Str) (sc:Scope) (N':List Str) (k:Nat) (ix:List Nat):Bool :=
 decide (sc.kind=.function)&&sc.names.all (fun y=>(decide (y.2≠ .cell)||decide (sc.names.lookup y.1=some .cell))&&(decide (y.2≠ .local)||decide (sc.names.lookup y.1=some .local))&&(decide (y.2≠ .free)||decide (psc.names.lookup y.1=some .cell)||decide (psc.names.lookup y.1=some .free))) &&
 decide (N'.length=k+ix.length)&&decide N'.Nodup&&(List.range ix.length).all (fun j=>match N'[k+j]?,N[ix.getD j 0]? with
  | some y,some z=>decide (y=z)&&decide (sc.names.lookup y=some .free)
  | _,_=>false)
theorem CSc.of {psc:Scope}{N:List Str}{sc:Scope}{N':List Str}{k:Nat}{ix:List Nat}(h:VL psc N sc N' k ix=true):CSc psc N sc N' k ix:=by
 unfold VL at h
 simp only[Bool.and_eq_true,decide_eq_true_eq,List.all_eq_true,Bool.or_eq_true] at h
 obtain⟨⟨⟨⟨h1,h2⟩,h3⟩,h4⟩,h5⟩:=h
 refine⟨h1,fun y hy e=>?_,fun y hy e=>?_,fun y hy e=>?_,h3,h4,fun j i e=>?_⟩
 ·rcases (h2 y hy).1.1 with z | z
  ·exact absurd e z
  ·exact z
 ·rcases (h2 y hy).1.2 with z | z
  ·exact absurd e z
  ·exact z
 ·rcases (h2 y hy).2 with (z | z) | z
  ·exact absurd e z
  ·exact .inl z
  ·exact .inr z
 ·obtain⟨hj,ei⟩:=List.getElem?_eq_some_iff.mp e
  have:=h5 j (List.mem_range.mpr hj)
  have e2:ix.getD j 0=i:=by rw[List.getD_eq_getElem?_getD,e]; rfl
  rw[e2] at this
  split at this
  ·rename_i y z ey ez
   simp only[Bool.and_eq_true,decide_eq_true_eq] at this
   obtain⟨rfl,hl⟩:=this
   exact⟨y,ey,ez,hl⟩
  ·cases this
noncomputable def cS (k:Nat) (ix:List Nat) (σ:St):St:=List.replicate k none++ix.map fun i=>(σ[i]?).join
theorem Zv {env:Env}:∀ {names:List (Str×NameKind)}{x:Str},
    ((names.map fun (n,k)=>if (k==NameKind.free&&env.scope.kind==.function&&env.kindOf n==some .cell) then (n,NameKind.cell) else (n,k)).lookup x=some .cell ∨
     (names.map fun (n,k)=>if (k==NameKind.free&&env.scope.kind==.function&&env.kindOf n==some .cell) then (n,NameKind.cell) else (n,k)).lookup x=some .free)->names.lookup x=some .free∨names.lookup x=some .cell
  | [],_,h=>by simp at h
  | (n,k)::r,x,h=>by
    have ih:=@Zv env r x
    rw[List.map_cons] at h
    dsimp only at h
    by_cases hcd:(k==NameKind.free&&env.scope.kind==.function&&env.kindOf n==some .cell)=true
    · have hkf : k = .free := by
        simp only[Bool.and_eq_true] at hcd
        exact eq_of_beq hcd.1.1
      rw[if_pos hcd] at h
      cases hx:x==n with
      | true=>rw[List.lookup_cons,hx,hkf]; exact .inl rfl
      | false=>simp only[List.lookup_cons,hx] at h; simp only[List.lookup_cons,hx]; exact ih h
    · rw [if_neg hcd] at h
      cases hx:x==n with
      | true=>
        simp only[List.lookup_cons,hx] at h
        rw[List.lookup_cons,hx]
        rcases h with h | h
        · exact .inr h
        · exact .inl h
      | false=>simp only[List.lookup_cons,hx] at h; simp only[List.lookup_cons,hx]; exact ih h
theorem ZZ {env:Env}:∀ {names:List (Str×NameKind)}{x:Str},names.lookup x=some .free ->
    ((names.map fun (n,k)=>if (k==NameKind.free&&env.scope.kind==.function&&env.kindOf n==some .cell) then (n,NameKind.cell) else (n,k)).lookup x=some .cell ∨
     (names.map fun (n,k)=>if (k==NameKind.free&&env.scope.kind==.function&&env.kindOf n==some .cell) then (n,NameKind.cell) else (n,k)).lookup x=some .free)
  | [],_,h=>by simp at h
  | (n,k)::r,x,h=>by
    have ih:=@ZZ env r x
    rw[List.map_cons]
    dsimp only
    cases hx:x==n with
    | true=>
      rw[List.lookup_cons,hx] at h
      cases h
      by_cases hcd:(NameKind.free==NameKind.free&&env.scope.kind==.function&&env.kindOf n==some .cell)=true
      · rw[if_pos hcd]; simp[List.lookup_cons,hx]
      · rw[if_neg hcd]; simp[List.lookup_cons,hx]
    | false=>
      rw[List.lookup_cons,hx] at h
      by_cases hcd:(k==NameKind.free&&env.scope.kind==.function&&env.kindOf n==some .cell)=true
      · rw[if_pos hcd]; simp only[List.lookup_cons,hx]; exact ih h
      · rw[if_neg hcd]; simp only[List.lookup_cons,hx]; exact ih h
structure ClOk (X:Cx) (sc:Scope) (cl:List (Str×Addr)) (C:Addr) (h4:Heap):Prop where
 src:∀ x c,cl.lookup x=some c->X.env.cells.lookup x=some c∨(C<c/\h4.IsCell c none)
 inj:∀ x y c,cl.lookup x=some c->cl.lookup y=some c->x=y
 has:∀ x,(sc.names.lookup x=some .free∨sc.names.lookup x=some .cell)->∃ c,cl.lookup x=some c
 own:∀ x c,sc.names.lookup x=some .cell->cl.lookup x=some c->C<c
 old:∀ x c,sc.names.lookup x=some .free->cl.lookup x=some c->X.env.cells.lookup x=some c
theorem zR:∀ (names:List (Str×NameKind)) (n:Nat) (acc:List (Str×Addr)),cellsFrom n names acc=cellsFrom n names []++acc
 | [],n,acc=>rfl
 | (x,k)::r,n,acc=>by
  unfold cellsFrom
  split
  ·rw[zR r (n+1) ((x,n)::acc),zR r (n+1) [(x,n)],List.append_assoc]; rfl
  ·exact zR r n acc
theorem qV:∀ (names:List (Str×NameKind)) (n:Nat) (y:Str×Addr),y∈cellsFrom n names []->(y.1,NameKind.cell)∈names
 | [],n,y,h=>by cases h
 | (x,k)::r,n,y,h=>by
  unfold cellsFrom at h
  split at h
  ·rename_i hk
   rw[zR] at h
   rcases List.mem_append.mp h with h | h
   ·exact List.mem_cons_of_mem _ (qV r _ y h)
   ·have e:y=(x,n):=by simpa using h
    subst e
    have hk':k=.cell:=eq_of_beq hk
    subst hk'
    exact List.mem_cons_self
  ·exact List.mem_cons_of_mem _ (qV r _ y h)
theorem jR {β:Type}:∀ (l1 l2:List (Str×β)) (x:Str),(l1++l2).lookup x=(match l1.lookup x with | some v=>some v | none=>l2.lookup x)
 | [],l2,x=>rfl
 | (a,b)::l1,l2,x=>by
  rw[List.cons_append,List.lookup_cons,List.lookup_cons]
  cases x==a with
  | true=>rfl
  | false=>exact jR l1 l2 x
theorem JE {M:Model}{A:Around}{E:Value->Shared->Prop}{s:Shared}{scope:Scope}{globals:Addr}{cl:List (Str×Addr)}{qual:Str}{env:Env}{builtins:Addr}{Q:Env->Shared->Prop}
  (hQ:Q (newEnv scope s.heap.objs.size globals (cellsFrom (s.heap.objs.size+1) scope.names cl) qual none .none (some env) builtins) { s with heap:=pushCells (s.heap.push { cls:=.type "dict",data:=.dict #[] }) scope.names }) :
  wpAny M A (newFunctionEnv scope globals cl [] qual none .none (some env) builtins) Q E s:=by
 simp only[newFunctionEnv,Option.isSome_some,if_true]
 refine wpAny_bind (wpAny_alloc ?_)
 refine wpAny_bind (wpAny_layCells _ (fun name kind cells=>by cases hkc:kind==NameKind.cell <;> simp[hkc]) _ _ _ _ ?_)
 rw[show ({ s with heap:=s.heap.push { cls:=.type "dict",data:=.dict #[] } }:Shared).heap.objs.size=s.heap.objs.size+1 from Heap.size_push ..]
 simp only[List.forIn_nil]
 exact wpAny_bind (wpAny_pure (wpAny_pure hQ))
section
variable {X:Cx} {pins:List (Addr×Obj)} {σ:St} {H:Hp} {s2:Shared}
theorem ClOk.of {sc:Scope}{N':List Str}{ix:List Nat}{k:Nat}(I:Inv X pins σ H s2) (S:CSc X.env.scope X.N sc N' k ix){cl:List (Str×Addr)}(hcl1:∀ x c,cl.lookup x=some c->X.env.cells.lookup x=some c) (hcl2:∀ x,(x,NameKind.free)∈sc.names->∃ c,cl.lookup x=some c)
  {g:Heap} {o:Obj} (hg:s2.heap.objs.size<=g.objs.size):ClOk X sc (cellsFrom (g.objs.size+1) sc.names cl) g.objs.size (pushCells (g.push o) sc.names):=by
 have ok:=cellsFrom_ok sc.names (g.push o) (g.objs.size+1) [] ⟨(fun _ _ hm=>nomatch hm),List.Pairwise.nil⟩ (by rw[Heap.size_push]; exact Nat.le_refl _)
 rw[Heap.size_push] at ok
 rw[zR]
 have hnew:∀ x c,(cellsFrom (g.objs.size+1) sc.names []).lookup x=some c->g.objs.size<c/\(pushCells (g.push o) sc.names).IsCell c none/\(x,NameKind.cell)∈sc.names:=fun x c e=>by
  have hm:=zV e
  have:=ok.empty x c hm
  exact⟨Nat.lt_of_succ_le this.2,this.1,qV _ _ _ hm⟩
 have hold:∀ x c,cl.lookup x=some c->c<g.objs.size:=fun x c e=>by
  obtain⟨v,ob,hob,_⟩:=I.cell x c (hcl1 x c e)
  exact Nat.lt_of_lt_of_le (Heap.lt_size hob) hg
 have hget:∀ x c,(cellsFrom (g.objs.size+1) sc.names []++cl).lookup x=some c->((cellsFrom (g.objs.size+1) sc.names []).lookup x=some c)∨((cellsFrom (g.objs.size+1) sc.names []).lookup x=none/\cl.lookup x=some c):=fun x c e=>by
  rw[jR] at e
  cases q:(cellsFrom (g.objs.size+1) sc.names []).lookup x with
  | some v=>rw[q] at e; exact .inl e
  | none=>rw[q] at e; exact .inr ⟨rfl,e⟩
 have hnone:∀ x,sc.names.lookup x=some .free->(cellsFrom (g.objs.size+1) sc.names []).lookup x=none:=fun x hx=>by
  cases q:(cellsFrom (g.objs.size+1) sc.names []).lookup x with
  | none=>rfl
  | some c=>
   have:=S.cel (x,.cell) (hnew x c q).2.2 rfl
   rw[hx] at this; cases this
 refine⟨fun x c e=>?_,fun x y c e1 e2=>?_,fun x hx=>?_,fun x c hx e=>?_,fun x c hx e=>?_⟩
 ·rcases hget x c e with q | ⟨_,q⟩
  ·exact .inr ⟨(hnew x c q).1,(hnew x c q).2.1⟩
  ·exact .inl (hcl1 x c q)
 ·rcases hget x c e1 with q1 | ⟨_,q1⟩
  ·rcases hget y c e2 with q2 | ⟨_,q2⟩
   ·have m1:=zV q1
    have m2:=zV q2
    by_cases hxy:x=y
    ·exact hxy
    ·exfalso
     have:=ok.apart
     obtain⟨i,hi,ei⟩:=List.getElem_of_mem m1
     obtain⟨j,hj,ej⟩:=List.getElem_of_mem m2
     have pw:=List.pairwise_iff_getElem.mp this
     rcases Nat.lt_trichotomy i j with h | h | h
     ·have:=pw i j hi hj h
      rw[ei,ej] at this; exact this rfl
     ·subst h
      rw[ei] at ej
      exact hxy (congrArg Prod.fst ej)
     ·have:=pw j i hj hi h
      rw[ei,ej] at this; exact this rfl
   ·exact absurd (hold y c q2) (Nat.not_lt.mpr (Nat.le_of_lt (hnew x c q1).1))
  ·rcases hget y c e2 with q2 | ⟨_,q2⟩
   ·exact absurd (hold x c q1) (Nat.not_lt.mpr (Nat.le_of_lt (hnew y c q2).1))
   ·exact I.ok.inj x y c (hcl1 x c q1) (hcl1 y c q2)
 ·rw[jR]
  rcases hx with hx | hx
  ·rw[hnone x hx]
   exact hcl2 x (zV hx)
  ·obtain⟨c,hc⟩:=Zl (n:=g.objs.size+1) hx
   rw[hc]; exact⟨c,rfl⟩
 ·rcases hget x c e with q | ⟨q,_⟩
  ·exact (hnew x c q).1
  ·obtain⟨c',hc⟩:=Zl (n:=g.objs.size+1) hx
   rw[hc] at q; cases q
 ·rcases hget x c e with q | ⟨_,q⟩
  ·rw[hnone x hx] at q; cases q
  ·exact hcl1 x c q
theorem Inv.child {fp:List Addr}{sc:Scope}{N':List Str}{ix:List Nat}{k:Nat}(I:Inv X pins σ H s2) (S:CSc X.env.scope X.N sc N' k ix) (hf:∀ b∈fp,jA X pins H b)
  (hfo:∀ b∈fp,∃ o,s2.heap.get? b=some o) {cl:List (Str×Addr)}
  {C:Addr} {s4:Shared} (L:ClOk X sc cl C s4.heap) (hC:s2.heap.objs.size<=C) (keep:∀ b o,s2.heap.get? b=some o->s4.heap.get? b=some o) {m0:Str->Option Value} (hns:s4.heap.Ns C m0) (ho:s4.os=s2.os) (hg:AllBare s4.gens) :
  Inv (X.comp N' sc cl C s2 H fp) [] (cS k ix σ) H s4 where
 ok:={
  mod:=I.ok.mod
  kind:=S.kind
  glob:=I.ok.glob
  blt:=I.ok.blt
  above:=hC
  inj:=L.inj
  has:=fun x hx=>L.has x (Zv (env:=X.env) hx)
  cab:=fun x c h e=>Nat.le_trans hC (Nat.le_of_lt (L.own x c (of_decide_eq_true h) e))
  hd:=I.ok.hd
  frames:=I.ok.frames
  stk:=.inl rfl
  exf:=fun b hb=>by
   obtain⟨f0,f1,f2,f3,f4,f5⟩:=hf b hb
   obtain⟨o,e⟩:=hfo b hb
   refine⟨Nat.ne_of_lt (Nat.lt_of_lt_of_le (Heap.lt_size e) hC),fun x c z=>?_⟩
   rcases L.src x c z with z | z
   ·exact f4 x c z
   ·exact Ne.symm (Nat.ne_of_lt (Nat.lt_trans (Nat.lt_of_lt_of_le (Heap.lt_size e) hC) z.1))
  bs:=fun b o e=>I.bs b o e
  bsz:=Nat.le_trans I.ok.bsz I.sz
  noex:=fun b o e hb=>by
   obtain⟨f0,f1,f2,f3,f4,f5⟩:=hf b hb
   rcases f3 with z | z
   ·exact I.ok.noex b o e z
   ·exact absurd (Nat.lt_of_lt_of_le (Heap.lt_size (I.ok.bs b o e).1) z) (Nat.lt_irrefl _)
  exfs:=fun b hb hz=>by
   obtain⟨f0,f1,f2,f3,f4,f5⟩:=hf b hb
   rcases List.mem_cons.mp (I.stkSub b hz) with z | z
   ·exact f1 z
   ·exact f2 z
  funs:=I.stack
  frf:=I.stkFree }
 os:=ho
 bare:=hg
 base:=Un.kept keep
 loc:=⟨m0,hns,fun i x v e1 e2 e3=>by
  unfold cS at e2
  by_cases hi:i<k
  ·rw[List.getElem?_append_left (by simpa using hi),List.getElem?_replicate,if_pos hi] at e2
   cases e2
  ·obtain⟨j,rfl⟩:∃ j,i=k+j:=⟨i-k,by omega⟩
   rw[List.getElem?_append_right (by simp),List.length_replicate,Nat.add_sub_cancel_left,List.getElem?_map] at e2
   cases q:ix[j]? with
   | none=>rw[q] at e2; cases e2
   | some i0=>
    rw[q] at e2
    obtain⟨y,hy1,hy2,hy3⟩:=S.cap j i0 q
    have ey:y=x:=by
     have:(X.comp N' sc cl C s2 H fp).N[k+j]?=some y:=hy1
     rw[this] at e1; exact Option.some.inj e1
    subst ey
    have ev:σ[i0]?=some (some v):=by
     simp only[Option.map_some,Option.some.injEq] at e2
     cases r:σ[i0]? with
     | none=>rw[r] at e2; cases e2
     | some z=>rw[r] at e2; exact congrArg some e2
    obtain⟨m,hn,hl⟩:=I.loc
    have hfr:=S.fre (y,.free) (zV hy3) rfl
    have hv:Vis X.env.scope y:=.inr hfr
    obtain⟨u,r1,l1⟩:=hl i0 y v hy2 ev hv
    refine⟨u,r1,.inr ⟨ZZ (env:=X.env) hy3,?_⟩⟩
    obtain⟨c,hc⟩:=L.has y (.inl hy3)
    refine⟨c,hc,?_⟩
    have hc':=L.old y c hy3 hc
    rcases l1 with ⟨hk,_⟩ | ⟨_,c',hc2,z⟩
    ·have hk':X.env.scope.names.lookup y=some .local:=hk
     rcases hfr with w | w
     ·rw[hk'] at w; cases w
     ·rw[hk'] at w; cases w
    ·rw[hc'] at hc2; cases hc2
     obtain⟨ob,hob,hd⟩:=z
     exact⟨ob,keep _ _ hob,hd⟩⟩
 cell:=fun x c e=>by
  rcases L.src x c e with e | e
  ·obtain⟨v,ob,hob,hd⟩:=I.cell x c e
   exact⟨v,ob,keep _ _ hob,hd⟩
  ·exact⟨none,e.2⟩
 free:=I.hok.fresh hC
 freeC:=fun x c e=>by
  rcases L.src x c e with e | e
  ·exact I.freeC x c e
  ·exact I.hok.fresh (Nat.le_trans hC (Nat.le_of_lt e.1))
 pin:=fun p hp=>by cases hp
 hok:=I.hok.kept keep
 len:=by
  show (cS k ix σ).length=N'.length
  rw[S.len]; unfold cS; simp
theorem Inv.back {fp:List Addr}{sc:Scope}{N':List Str}{cl:List (Str×Addr)}{C:Addr}{pl:List (Addr×Obj)}{σc:St}{H5:Hp}{s5:Shared}(I:Inv X pins σ H s2) (hf:∀ b∈fp,jA X pins H b) (J:Inv (X.comp N' sc cl C s2 H fp) pl σc H5 s5):Inv X pins σ H5 s5 :=
 I.call' (ch:=fp) J.os J.base J.hok J.bare fun b hb=>by
  obtain⟨f0,f1,f2,f3,f4,f5⟩:=hf b hb
  exact⟨f3,f1,f4,f5⟩
end
section
variable {X:Cx} {pins:List (Addr×Obj)} {σ:St} {H:Hp} {s:Shared}
theorem Inv.track {a:Addr}{o:HO}(I:Inv X pins σ H s) (ha:X.s₀.heap.objs.size<=a) (hn:H a=none) (hL:a≠X.env.locals) (hc:∀ x c,X.env.cells.lookup x=some c->c≠a) (hp:∀ p∈X.pn++pins,p.1≠a)
  (new:ObjOk X.prog X.w (upd H a o) s.heap a o):Inv X pins σ (upd H a o) s where
 ok:=I.ok
 os:=I.os
 bare:=I.bare
 base:={
  keep:=I.base.keep
  slot:=I.base.slot
  free:=fun b ob e n hx=>by
   rw[ze (Nat.ne_of_lt (Nat.lt_of_lt_of_le (Heap.lt_size e) ha))]
   exact I.base.free b ob e n hx
  there:=I.base.there
  tups:=fun b xs e=>by
   have:=I.base.tups b xs e
   rw[ze (zC this hn)]; exact this
  frzs:=fun b ob u e=>by
   have:=I.base.frzs b ob u e
   rw[ze (zC this hn)]; exact this
  tbls:=fun b ps e=>by
   obtain⟨mo,this⟩:=I.base.tbls b ps e
   exact⟨mo,by rw[ze (zC this hn)]; exact this⟩ }
 loc:=I.loc
 cell:=I.cell
 free:=by rw[ze (Ne.symm hL)]; exact I.free
 freeC:=fun x c e=>by rw[ze (hc x c e)]; exact I.freeC x c e
 pin:=fun p h=>by
  obtain⟨e,n,r⟩:=I.pin p h
  exact⟨e,by rw[ze (hp p h)]; exact n,r⟩
 hok:=fun b u q=>by
  by_cases hb:b=a
  ·subst hb; rw[zi] at q; cases q; exact new
  ·rw[ze hb] at q
   exact (I.hok b u q).stay (fun c v _ r=>r) (fun c r=>by rw[ze (zC r hn)]; exact r) fun c xs r=>by rw[ze (zC r hn)]; exact r
 len:=I.len
end
noncomputable def PF (X:Cx) (ifs:List Expr) (t:TT):Prop :=
 ∀ (pins:List (Addr×Obj)) (s:Shared) (σ:St) (H:Hp) (Q:Bool->Hp->Prop),Inv X pins σ H s->t σ H Q ->
  wpAny (model X.prog X.w) X.A (forIn ifs true fun c r=>if r=true then do let ok<-isTrue c X.env (eval c X.env); pure (ForInStep.yield ok) else pure (ForInStep.yield r)) (TP X pins σ Q) X.xe s
noncomputable def zeP:TT:=fun _ H Q=>Q true H
theorem pf_nil {X:Cx}:PF X [] zeP:=fun _ _ _ H _ I h=>wpAny_tests_nil ⟨H,I,h⟩
theorem zcV {X:Cx}{c:Expr}{t:TT}(h:PT X c t):PF X [c] t:=fun pins s σ H Q I hw=>wpAny_tests_one (h pins s σ H Q I hw)
theorem Ww {prog:Program}{w:World}{A:Around}{R:Result->Shared->Prop}{s:Shared}{e target iter:Expr}{ifs:List Expr}{it acc:Value}{env:Env}{act:Sem Unit}(hlp:∀ (R:Result->Shared->Prop) (s:Shared) (I:Nat->Shared->Prop) (n:Nat),(∀ n s,I n s->wpAny (model prog w) A ((compTurn e 0 it acc env).onRaise (fun x=>do noteFrame x env; theTreesLotGoes x)) (fun fin s'=>match fin with
   | .done f=>R (.ok f) s'
   | .again c'=>c'=Code.compLoop e 0 it acc env/\∃ m,m<n/\I m s') (fun e s'=>R (.error e) s') s)->I n s->codeAny (model prog w) A (.compLoop e 0 it acc env) R s)
  (heq:compTurn e 0 it acc env=(do
   standAt iter.pos
   match<-pyNext it with
   | none=>pure (.done .next)
   | some v=>
    letOwnedTupleGo target it v
    assign target env v
    let mut ok:=true
    for c in ifs do
     if ok then ok<-isTrue c env (eval c env)
    if ok then act
    again (.compLoop e 0 it acc env))) (I:Nat->Shared->Prop)
  (turn:∀ n s,I n s->wpAny (model prog w) A (pyNext it) (fun r s₁=>match r with
   | none=>R (.ok .next) s₁
   | some v=>wpAny (model prog w) A (letOwnedTupleGo target it v) (fun _ s₁=>wpAny (model prog w) A (assign target env v) (fun _ s₂=>
     wpAny (model prog w) A (forIn ifs true fun c r=>if r=true then do let ok<-isTrue c env (eval c env); pure (ForInStep.yield ok) else pure (ForInStep.yield r)) (fun ok s₃=>
      if ok=true then wpAny (model prog w) A act (fun _ s₅=>∃ m,m<n/\I m s₅) (notedBy (model prog w) A env fun e s'=>R (.error e) s') s₃
      else ∃ m,m<n/\I m s₃) (notedBy (model prog w) A env fun e s'=>R (.error e) s') s₂) (notedBy (model prog w) A env fun e s'=>R (.error e) s') s₁) (notedBy (model prog w) A env fun e s'=>R (.error e) s') s₁) (notedBy (model prog w) A env fun e s'=>R (.error e) s') s)
  (n:Nat) (h:I n s):codeAny (model prog w) A (.compLoop e 0 it acc env) R s:=by
 refine hlp R s I n (fun n s hI=>?_) h
 refine wpAny_noted ?_
 rw[heq]
 refine wpAny_bind (wpAny_standAt (wpAny_bind (wpAny_mono (turn n s hI) (fun r s₁ h₁=>?_) fun _ _ f=>f)))
 cases r with
 | none=>exact wpAny_pure h₁
 | some v=>
  refine wpAny_bind (wpAny_mono h₁ (fun _ s₂ h₂=>?_) fun _ _ f=>f)
  refine wpAny_bind (wpAny_mono h₂ (fun _ s₂ h₂=>wpAny_bind (wpAny_mono h₂ (fun ok s₃ h₃=>?_) fun _ _ f=>f)) fun _ _ f=>f)
  cases ok with
  | false=>exact wpAny_pure ⟨rfl,h₃⟩
  | true=>exact wpAny_bind (wpAny_mono h₃ (fun _ s₅ h₅=>wpAny_pure ⟨rfl,h₅⟩) fun _ _ f=>f)
structure Acc (α β:Type) where
 a0:α
 add:α->β->α
 len:α->Nat
 ho:α->HO
noncomputable def wG {α β:Type}(ac:Acc α β) (k:Nat) (ix:List Nat) (g:TG) (tt:TT) (te:St->Hp->(β->Hp->Prop)->Prop) (σ:St) (J:It) (H1:Hp) (Q:α->Hp->Prop):Prop :=
 ∃ W:Nat->Nat->α->Hp->Prop,(∃ m,W 0 m ac.a0 H1)/\∀ i m ys H,W i m ys H->ac.len ys<sizeLine /\
  ((J.stop i H/\Q ys H)∨(J.go i H/\∃ N:α->Hp->Prop,(∀ ys' H',N ys' H'->∃ m',m'<m/\W (i+1) m' ys' H')/\∀ x H',J.yld i H x H'->g x (cS k ix σ) H' fun σ2 H2=>σ2.drop k=(cS k ix σ).drop k/\tt σ2 H2 fun b H3=>
   if b=true then te σ2 H3 fun y H4=>N (ac.add ys y) H4 else N ys H3))
noncomputable abbrev K6:Acc (List V) V:=⟨[],fun ys y=>ys++ [y],List.length,.lst⟩
noncomputable abbrev K5:Acc (List (Key×V)) (Key×V):=⟨[],fun ys y=>Va ys y.1 y.2,List.length,.dK⟩
noncomputable def wj (k:Nat) (ix:List Nat) (wi:TI) (g:St->TG) (tt:St->TT) (te:St->TE):TE:=fun σ H Q=>
 wi σ H fun J H1=>wG K6 k ix (g σ) (tt σ) (te σ) σ J H1 fun ys H2=>∀ p,H2 p=none->Q (.ref p) (upd H2 p (.lst ys))
noncomputable def vn (tk tv:TE):St->Hp->(Key×V->Hp->Prop)->Prop:=fun σ H Q=>tk σ H fun x H1=>tv σ H1 fun y H2=>∃ k,x=kV k/\Q (k,y) H2
noncomputable def ZN (k:Nat) (ix:List Nat) (wi:TI) (g:St->TG) (tt:St->TT) (te:St->St->Hp->(Key×V->Hp->Prop)->Prop):TE:=fun σ H Q=>
 wi σ H fun J H1=>wG K5 k ix (g σ) (tt σ) (te σ) σ J H1 fun ys H2=>∀ p,H2 p=none->Q (.ref p) (upd H2 p (.dK ys))
structure zbX (P:Program) (w:World){α β γ:Type}(ac:Acc α β) (OK:α->Obj->Prop) (RB:β->γ->Prop) (o0:Obj) (na:Sem Value) (st:Addr->γ->Sem Unit):Prop where
 new:∀ (A:Around) (E:Value->Shared->Prop) (s:Shared) (Q:Value->Shared->Prop),Q (.ref s.heap.objs.size) { s with heap:=s.heap.push o0 }->wpAny (model P w) A na Q E s
 z0:OK ac.a0 o0
 live:o0.isFreed=false
 cell:∀ a o,OK a o->∀ v,o.data≠ .cell v
 st:∀ (A:Around) (E:Value->Shared->Prop) (s:Shared) (Q:Unit->Shared->Prop) (D:Addr) (a:α) (o:Obj) (y:β) (b:γ),OK a o->ac.len a<sizeLine->RB y b->s.heap.get? D=some o ->
  (∀ h' o' t',Heap.SameBut D s.heap h'->h'.get? D=some o'->OK (ac.add a y) o'->Q () { s with heap:=h',toks:=t' })->wpAny (model P w) A (st D b) Q E s
 ok:∀ (H:Hp) (h:Heap) (D:Addr) (a:α) (o:Obj),OK a o->ac.len a<=sizeLine->sysModules<D->h.get? D=some o->ObjOk P w H h D (ac.ho a)
noncomputable def PEv (X:Cx){β γ:Type}(RB:β->γ->Prop) (st:Addr->γ->Sem Unit) (act:Addr->Env->Sem Unit) (te:St->Hp->(β->Hp->Prop)->Prop):Prop:=∀ (D:Addr) (pins:List (Addr×Obj)) (s:Shared) (σ:St) (H:Hp) (Q:β->Hp->Prop) (R:Unit->Shared->Prop),Inv X pins σ H s->te σ H Q ->
 (∀ y b s' H',Inv X pins σ H' s'->RB y b->Q y H'->wpAny (model X.prog X.w) X.A (st D b) R X.xe s')->wpAny (model X.prog X.w) X.A (act D X.env) R X.xe s
section
variable {X:Cx} {pins:List (Addr×Obj)} {σ:St} {H:Hp} {s2:Shared}
theorem JX {α β γ:Type}{ac:Acc α β}{OK:α->Obj->Prop}{RB:β->γ->Prop}{o0:Obj}{na:Sem Value}{sto:Addr->γ->Sem Unit}{act:Addr->Env->Sem Unit}{e tg iter:Expr}{ifs:List Expr}{scope:Scope}{N':List Str}{k:Nat}{ix:List Nat}{g:TG}{tt:TT}{te:St->Hp->(β->Hp->Prop)->Prop}{cl:List (Str×Addr)}{it:Addr}{fp:List Addr}{tn:Nat->Heap->Prop}{J:It}
  {Q:α->Hp->Prop} {RR:Value->Addr->Result->Shared->Prop} {E:Value->Shared->Prop} (AK:zbX X.prog X.w ac OK RB o0 na sto)
  (hlp:∀ (it acc:Value) (env:Env) (R:Result->Shared->Prop) (s:Shared) (I:Nat->Shared->Prop) (n:Nat),(∀ n s,I n s->wpAny (model X.prog X.w) X.A ((compTurn e 0 it acc env).onRaise (fun x=>do noteFrame x env; theTreesLotGoes x)) (fun fin s'=>match fin with
   | .done f=>R (.ok f) s'
   | .again c'=>c'=Code.compLoop e 0 it acc env/\∃ m,m<n/\I m s') (fun e s'=>R (.error e) s') s)->I n s->codeAny (model X.prog X.w) X.A (.compLoop e 0 it acc env) R s)
  (heq:∀ it D env,compTurn e 0 it (.ref D) env=(do
   standAt iter.pos
   match<-pyNext it with
   | none=>pure (.done .next)
   | some v=>
    letOwnedTupleGo tg it v
    assign tg env v
    let mut ok:=true
    for c in ifs do
     if ok then ok<-isTrue c env (eval c env)
    if ok then act D env
    again (.compLoop e 0 it (.ref D) env)))
  (hstart:∀ (R:Result->Shared->Prop) (s:Shared) (it acc:Value) (env:Env),codeAny (model X.prog X.w) X.A (.compLoop e 0 it acc env) R s->wpAny (model X.prog X.w) X.A (pyIter it) (fun it' s'=>codeAny (model X.prog X.w) X.A (.compLoop e 0 it' acc env) R s') (notedBy (model X.prog X.w) X.A env fun x s'=>R (.error x) s') s ->
   codeAny (model X.prog X.w) X.A (.compStart e 0 it acc env) R s) (hcalm:X.calm=true)
  (S:CSc X.env.scope X.N scope N' k ix)
  (hg:∀ cl C s2 H2 fp,Cat X σ C s2 H2 fp->PG (X.comp N' scope cl C s2 H2 fp) tg g) (ht:∀ cl C s2 H2 fp,Cat X σ C s2 H2 fp->PF (X.comp N' scope cl C s2 H2 fp) ifs tt) (he:∀ cl C s2 H2 fp,Cat X σ C s2 H2 fp->PEv (X.comp N' scope cl C s2 H2 fp) RB sto act te)
  (I2:Inv X pins σ H s2) (T:Wj X.prog X.w X.K tg J fp it tn) (st2:tn 0 s2.heap) (f2:∀ b∈fp,jA X pins H b) (hR:wG ac k ix g tt te σ J H Q)
  (hcl1:∀ x c,cl.lookup x=some c->X.env.cells.lookup x=some c) (hcl2:∀ x,(x,NameKind.free)∈scope.names->∃ c,cl.lookup x=some c)
  (herr:∀ (D C:Addr) (x:Value) (s':Shared),yj X C x s'->RR (.ref D) C (.error x) s')
  (fin:∀ (D C:Addr) (ys:α) (H5:Hp) (s5:Shared) (m:Str->Option Value),Inv X pins σ (upd H5 D (ac.ho ys)) s5->Q ys H5->H5 D=none->s5.heap.Ns C m->C≠D->s2.heap.objs.size<=C->upd H5 D (ac.ho ys) C=none ->
   RR (.ref D) C (.ok .next) s5) :
  wpAny (model X.prog X.w) X.A na (fun acc s₃=>wpAny (model X.prog X.w) X.A (newFunctionEnv scope X.env.globals cl [] X.env.qual none .none (some X.env)) (fun cenv s₄=>
   codeAny (model X.prog X.w) X.A (.compStart e 0 (.ref it) acc { cenv with scope:=relabel scope X.env }) (RR acc cenv.locals) s₄) E s₃) E s2:=by
 refine AK.new _ _ _ _ (JE ?_)
 dsimp only
 generalize hH2:s2.heap.push o0=G2
 have hC:G2.objs.size=s2.heap.objs.size+1:=by rw[<- hH2,Heap.size_push]
 have hDC:s2.heap.objs.size≠G2.objs.size:=by rw[hC]; exact Nat.ne_of_lt (Nat.lt_succ_self _)
 have hCle:s2.heap.objs.size<=G2.objs.size:=by rw[hC]; exact Nat.le_succ _
 have cat:Cat X σ G2.objs.size s2 H fp:=⟨pins,I2,f2,hCle⟩
 have L:=ClOk.of I2 S hcl1 hcl2 (g:=G2) (o:={ cls:=.type "dict",data:=.dict #[] }) hCle
 have below:∀ b,b<s2.heap.objs.size->b≠G2.objs.size/\b≠s2.heap.objs.size:=fun b hb=>⟨by rw[hC]; exact Nat.ne_of_lt (Nat.lt_succ_of_lt hb),Nat.ne_of_lt hb⟩
 have old:∀ b o,s2.heap.get? b=some o->(pushCells (G2.push { cls:=.type "dict",data:=.dict #[] }) scope.names).get? b=some o:=fun b o e=>pushCells_keeps _ _ b o (Heap.get?_push_of_some _ (hH2 ▸ Heap.get?_push_of_some _ e))
 have hacc:(pushCells (G2.push { cls:=.type "dict",data:=.dict #[] }) scope.names).get? s2.heap.objs.size=some o0:=pushCells_keeps _ _ _ _ (Heap.get?_push_of_some _ (hH2 ▸ Heap.get?_push_size _ AK.live))
 have hns₁:(pushCells (G2.push { cls:=.type "dict",data:=.dict #[] }) scope.names).Ns G2.objs.size _:=(Heap.Ns.new G2 (.type "dict")).keeps (pushCells_keeps _ _)
 generalize pushCells (G2.push { cls:=.type "dict",data:=.dict #[] }) scope.names=h₁ at L old hacc hns₁ |-
 generalize cellsFrom (G2.objs.size+1) scope.names cl=cl2 at L |-
 have st1:tn 0 h₁:=T.keep _ _ _ st2 fun b _ o e=>old b o e
 have hfo:∀ b∈fp,∃ o,s2.heap.get? b=some o:=fun b hb=>let ⟨o,e,_⟩:=T.obj _ _ st2 b hb; ⟨o,e⟩
 have Ic:Inv (X.comp N' scope cl2 G2.objs.size s2 H fp) [] (cS k ix σ) H { s2 with heap:=h₁ } :=
  I2.child S f2 hfo L hCle old hns₁ rfl I2.bare
 -- the accumulator D,as a pin
 have dfs:s2.heap.objs.size∉(X.comp N' scope cl2 G2.objs.size s2 H fp).fs:=fun hz=>by
  rcases List.mem_cons.mp (I2.stkSub _ hz) with z | z
  ·exact absurd I2.lt (by rw[<- z]; exact Nat.lt_irrefl _)
  ·exact I2.nofs (Nat.le_refl _) z
 have dcell:∀ x c,cl2.lookup x=some c->c≠s2.heap.objs.size:=fun x c e=>by
  rcases L.src x c e with e | e
  ·obtain⟨v,ob,hob,_⟩:=I2.cell x c e
   exact Nat.ne_of_lt (Heap.lt_size hob)
  ·exact Ne.symm (Nat.ne_of_lt (Nat.lt_of_le_of_lt hCle e.1))
 have dpin:∀ (ys:α) (ob:Obj) (σ':St) (H':Hp) (s':Shared),Inv (X.comp N' scope cl2 G2.objs.size s2 H fp) [] σ' H' s'->OK ys ob->s'.heap.get? s2.heap.objs.size=some ob->H' s2.heap.objs.size=none ->
   Inv (X.comp N' scope cl2 G2.objs.size s2 H fp) [(s2.heap.objs.size,ob)] σ' H' s':=fun ys ob σ' H' s' I' ok e hn=>I'.pins_of fun p hp=>by
  have e':p=(s2.heap.objs.size,ob):=by simpa using hp
  subst e'
  exact⟨e,hn,hDC,dfs,fun v z=>AK.cell _ _ ok v z⟩
 have fpc:∀ (ob:Obj) (H':Hp),(∀ b∈fp,H' b=none)->∀ b∈fp,jA (X.comp N' scope cl2 G2.objs.size s2 H fp) [(s2.heap.objs.size,ob)] H' b:=fun ob H' hn b hb=>by
  obtain⟨f0,f1,f2',f3,f4,f5⟩:=f2 b hb
  obtain⟨o,e⟩:=hfo b hb
  have hb2:=below b (Heap.lt_size e)
  refine⟨hn b hb,hb2.1,fun hz=>?_,.inl hb,fun x c z=>?_,fun p hp=>?_⟩
  ·rcases List.mem_cons.mp (I2.stkSub b hz) with z | z
   ·exact f1 z
   ·exact f2' z
  ·rcases L.src x c z with z | z
   ·exact f4 x c z
   ·exact Ne.symm (Nat.ne_of_lt (Nat.lt_trans (Nat.lt_of_lt_of_le (Heap.lt_size e) hCle) z.1))
  ·have e':p=(s2.heap.objs.size,ob):=by simpa using hp
   subst e'
   exact Ne.symm hb2.2
 obtain⟨W,⟨m0,w0⟩,turn⟩:=hR
 have loop:codeAny (model X.prog X.w) X.A (.compLoop e 0 (.ref it) (.ref s2.heap.objs.size) (compEnvC scope cl2 G2.objs.size X.env)) (RR (.ref s2.heap.objs.size) G2.objs.size)
   { s2 with heap:=h₁ }:=by
  have hxe:∀ x s',(X.comp N' scope cl2 G2.objs.size s2 H fp).xe x s'->notedBy (model X.prog X.w) X.A (compEnvC scope cl2 G2.objs.size X.env) (fun e s'=>RR (.ref s2.heap.objs.size) G2.objs.size (.error e) s') x s':=fun x s' h=>
   wpAny_mono h (fun _ s'' q=>herr _ _ _ _ q) fun _ s'' q=>herr _ _ _ _ q
  have thnX:∀ {τ:Type} {m:Sem τ} {Q1:τ->Shared->Prop} {Q2:τ->Shared->Prop} {s':Shared},wpAny (model X.prog X.w) X.A m Q1 (X.comp N' scope cl2 G2.objs.size s2 H fp).xe s'->(∀ v s'',Q1 v s''->Q2 v s'')->wpAny (model X.prog X.w) X.A m Q2 (notedBy (model X.prog X.w) X.A (compEnvC scope cl2 G2.objs.size X.env) (fun e s'=>RR (.ref s2.heap.objs.size) G2.objs.size (.error e) s')) s':=fun h k=>wpAny_mono h k hxe
  refine Ww (hlp _ _ _) (heq _ _ _) (fun n s'=>∃ i ys ob H',Inv (X.comp N' scope cl2 G2.objs.size s2 H fp) [(s2.heap.objs.size,ob)] (cS k ix σ) H' s'/\OK ys ob/\tn i s'.heap/\(∀ b∈fp,H' b=none)/\W i n ys H') ?_ m0
   ⟨0,_,o0,H,dpin _ _ _ _ _ Ic AK.z0 hacc (I2.hok.fresh (Nat.le_refl _)),AK.z0,st1,fun b hb=>(f2 b hb).1,w0⟩
  rintro n s3 ⟨i,ys,ob,H3,I3,rv,st3,fr3,w3⟩
  obtain⟨hlen,hw⟩:=turn i n ys H3 w3
  have hDn:H3 s2.heap.objs.size=none:=(I3.pin (s2.heap.objs.size,ob) (by simp)).2.1
  have hDe:s3.heap.get? s2.heap.objs.size=some ob:=(I3.pin (s2.heap.objs.size,ob) (by simp)).1
  rcases hw with ⟨stop,q⟩ | ⟨go,N,hN,step⟩
  ·refine thn (T.done (X.comp N' scope cl2 G2.objs.size s2 H fp) rfl rfl rfl hcalm i _ s3 _ H3 _ I3 (fpc _ _ fr3) st3 stop) fun r s4 ⟨hr,I4⟩=>?_
   subst hr
   have hDe4:s4.heap.get? s2.heap.objs.size=some ob:=(I4.pin (s2.heap.objs.size,ob) (by simp)).1
   have Ib:Inv X pins σ H3 s4:=I2.back f2 I4
   have hz:ac.len ys<=sizeLine:=Nat.le_of_lt hlen
   obtain⟨m',hn',_⟩:=I4.loc
   have It:Inv X pins σ (upd H3 s2.heap.objs.size (ac.ho ys)) s4:=Ib.track I2.sz hDn (Ne.symm (Nat.ne_of_lt I2.lt)) (fun x c e=>by
    obtain⟨v,ob,hob,_⟩:=I2.cell x c e
    exact Nat.ne_of_lt (Heap.lt_size hob)) (fun p hp=>Nat.ne_of_lt (Heap.lt_size (I2.pin p hp).1)) (AK.ok _ _ _ _ _ rv hz I2.big hDe4)
   exact fin _ _ ys H3 s4 m' It q hDn hn' (Ne.symm hDC) hCle (by rw[ze (Ne.symm hDC)]; exact I4.free)
  ·refine thn (T.item (X.comp N' scope cl2 G2.objs.size s2 H fp) rfl rfl rfl hcalm i _ s3 _ H3 _ I3 (fpc _ _ fr3) st3 go) fun r s4 ⟨u,hr,h4⟩=>?_
   subst hr
   refine thn h4 fun _ s5 ⟨x,H5,I5,r5,y5,st5,fr5⟩=>?_
   have I5':=I5.pinned (fpc ob H5 fr5) (T.obj _ _ st5)
   refine thnX (hg _ _ _ _ _ cat _ s5 _ H5 x u _ I5' r5 (step x H5 y5)) fun _ s6 ⟨σ6,H6,I6,hσ,q6⟩=>?_
   refine thnX (ht _ _ _ _ _ cat _ s6 σ6 H6 _ I6 q6) fun ok s7 ⟨H7,I7,q7⟩=>?_
   have wk:∀ {pl:List (Addr×Obj)} {H':Hp} {s':Shared},Inv (X.comp N' scope cl2 G2.objs.size s2 H fp) pl σ6 H' s'->Inv (X.comp N' scope cl2 G2.objs.size s2 H fp) pl (cS k ix σ) H' s':=fun {pl H' s'} I'=>
    I'.weak (by rw[Ic.len,I'.len]) fun j v ev=>by
     by_cases hj:j<k
     ·unfold cS at ev
      rw[List.getElem?_append_left (by simpa using hj),List.getElem?_replicate,if_pos hj] at ev
      cases ev
     ·obtain⟨j',rfl⟩:∃ j',j=k+j':=⟨j-k,by omega⟩
      rw[<- List.getElem?_drop,hσ,List.getElem?_drop]
      exact ev
   have itk:∀ {σ':St} {H':Hp} {s':Shared},Inv (X.comp N' scope cl2 G2.objs.size s2 H fp) ([(s2.heap.objs.size,ob)]++ZK fp s5.heap) σ' H' s'->tn (i+1) s'.heap/\∀ b∈fp,H' b=none:=fun {σ' H' s'} I'=>
    ⟨T.keep _ _ _ st5 fun b hb o e=>(I'.pin (b,o) (List.mem_append_right _ (List.mem_append_right _ (qv hb e)))).1,fun b hb=>by
     obtain⟨o,e,_⟩:=T.obj _ _ st5 b hb
     exact (I'.pin (b,o) (List.mem_append_right _ (List.mem_append_right _ (qv hb e)))).2.1⟩
   cases ok with
   | false=>
    rw[if_neg (by decide)] at q7 |-
    obtain⟨m',hm,w7⟩:=hN _ _ q7
    obtain⟨t7,f7⟩:=itk I7
    exact⟨m',hm,i+1,ys,ob,H7,wk I7.unpinned,rv,t7,f7,w7⟩
   | true=>
    rw[if_pos rfl] at q7 |-
    refine thnX (he _ _ _ _ _ cat s2.heap.objs.size _ s7 σ6 H7 _ _ I7 q7 fun y b s8 H8 I8 r8 n8q=>?_) fun _ _ q=>q
    obtain⟨m',hm,w8⟩:=hN _ _ n8q
    obtain⟨t8,f8⟩:=itk I8
    have I8':Inv (X.comp N' scope cl2 G2.objs.size s2 H fp) [(s2.heap.objs.size,ob)] σ6 H8 s8:=I8.unpinned
    have e8:s8.heap.get? s2.heap.objs.size=some ob:=(I8'.pin (s2.heap.objs.size,ob) (by simp)).1
    have n8:H8 s2.heap.objs.size=none:=(I8'.pin (s2.heap.objs.size,ob) (by simp)).2.1
    refine AK.st _ _ s8 _ _ ys ob y b rv hlen r8 e8 fun h' o' t' sb e9 ok9=>?_
    have I8n:Inv (X.comp N' scope cl2 G2.objs.size s2 H fp) [] σ6 H8 s8:=I8'.pins_of fun p hp=>by cases hp
    have I9:Inv (X.comp N' scope cl2 G2.objs.size s2 H fp) [] σ6 H8 { s8 with heap:=h',toks:=t' } :=
     I8n.turned (t':=t') (fun b o hb e=>(sb.2 b hb).trans e) n8 hDC (.inr (Nat.le_refl _)) (fun x c e=>dcell x c e) (fun p hp=>by cases hp)
    refine⟨m',hm,i+1,_,o',H8,wk (dpin _ _ _ _ _ I9 ok9 e9 n8),ok9,?_,f8,w8⟩
    exact T.keep _ _ _ t8 fun b hb o e=>(sb.2 b (by
     obtain⟨o',e'⟩:=hfo b hb
     exact (below b (Heap.lt_size e')).2)).trans e
 exact hstart _ _ _ _ _ loop (T.self X.A 0 _ _ _ st1 loop)
noncomputable abbrev zed (ys:List Value) (n:Nat):Obj:={ cls:=.type "list",data:=.seq ys.toArray n }
theorem ym {P:Program}{w:World}:zbX P w K6 (fun ys o=>∃ its n,Vals ys its/\o=zed its n) RelV (zed [] 0) (newList []) (fun D b=>do let _<-call (.builtin "list.append") [.ref D,b]) where
 new A E s Q h:=wpAny_newObj_type h
 z0:=⟨[],0,.nil,rfl⟩
 live:=rfl
 cell a o h v z:=by
  obtain⟨its,n,_,rfl⟩:=h
  cases z
 st A E s Q D a o y b h hl r e k:=by
  obtain⟨its,n,rv,rfl⟩:=h
  refine wpAny_bind (call_meets F.slot_list_append ⟨_,e,rfl⟩ F.entry_list_append (F.args_list_append_2 _ _) (PySem.list_append D its.toArray n b (by
   have:=rv.length
   have hl':a.length<sizeLine:=hl
   rw[List.size_toArray]; omega)) ⟨e,wpAny_pure ?_⟩)
  have q9:=PySem.IsL.update e (·.push b)
  rw[show its.toArray.push b=(its++ [b]).toArray by simp] at q9
  exact k _ _ _ ⟨by simp[Heap.update],fun c hc=>Heap.get?_update_other s.heap _ (Ne.symm hc)⟩ q9 ⟨its++ [b],_,rv.append (.cons r .nil),rfl⟩
 ok H h D a o hk hz _ e:=by
  obtain⟨its,n,rv,rfl⟩:=hk
  exact⟨hz,its,n,rv,e⟩
theorem yk {P:Program}{w:World}:zbX P w K5 (fun ys o=>∃ vs,KV ys vs/\o.IsDictOf (qj P w) vs) (fun (y:Key×V) (b:Value×Value)=>RelV (kV y.1) b.1/\RelV y.2 b.2) { cls:=.type "dict",data:=.dict #[] } newDict (fun D b=>holding [b.1,b.2] (dictSet D b.1 b.2)) where
 new A E s Q h:=wpAny_newObj_type h
 z0:=by
  refine⟨[],.nil,?_⟩
  exact⟨#[],0,⟨rfl,rfl,rfl⟩,rfl,fun _ he=>by simp at he,Pairs.nil,List.nodup_nil⟩
 live:=rfl
 cell a o h v z:=by
  obtain⟨vs,_,es,ep,_,hd,_⟩:=h
  rw[hd] at z; cases z
 st A E s Q D a o y b h hl r e k:=by
  obtain⟨vs,rv,hd⟩:=h
  refine wpAny_holding (wpAny_dictSet_pairs (knd:=qj P w) (zbP r.1) (Heap.dictOf_iff.mpr ⟨o,e,hd⟩) (fun h' dd sb=>?_) (by rw[<- rv.length]; exact Nat.le_of_lt hl))
  obtain⟨o',e',r'⟩:=Heap.dictOf_iff.mp dd
  exact k h' o' _ sb e' ⟨_,rv.put y.1 r.2,r'⟩
 ok H h D a o hk hz hb e:=by
  obtain⟨vs,rv,hd⟩:=hk
  exact⟨hz,beq_eq_false_iff_ne.mpr (Nat.ne_of_gt hb),vs,rv,Heap.dictOf_iff.mpr ⟨o,e,hd⟩⟩
theorem qW {X:Cx}{pins:List (Addr×Obj)}{σ:St}{H:Hp}{s:Shared}{scope:Scope}{N':List Str}{k:Nat}{ix:List Nat}(I:Inv X pins σ H s) (S:CSc X.env.scope X.N scope N' k ix) :
  ∃ cl,closureFor scope X.env=pure cl/\(∀ x c,cl.lookup x=some c->X.env.cells.lookup x=some c)/\(∀ x,(x,NameKind.free)∈scope.names->∃ c,cl.lookup x=some c) :=
 vM fun y hy e=>by
  rcases S.fre y hy e with z | z
  ·exact I.ok.has _ (.inl z)
  ·exact I.ok.has _ (.inr z)
theorem Inv.letgo {H5:Hp}{s5:Shared}{σ5:St}{C:Addr}{h':Heap}(I2:Inv X pins σ H s2) (I5:Inv X pins σ5 H5 s5) (hCs:s2.heap.objs.size<=C) (hCn:H5 C=none) (hs:∀ b,b≠C->h'.get? b=s5.heap.get? b):Inv X pins σ5 H5 { s5 with heap:=h' } :=
 I5.turned (t':=s5.toks) (it:=C) (fun b o hb e=>(hs b hb).trans e) hCn (Ne.symm (Nat.ne_of_lt (Nat.lt_of_lt_of_le I2.lt hCs))) (.inr (Nat.le_trans I2.sz hCs))
  (fun x c e=>by
   obtain⟨v,ob,hob,_⟩:=I2.cell x c e
   exact Nat.ne_of_lt (Nat.lt_of_lt_of_le (Heap.lt_size hob) hCs))
  (fun p hp=>Nat.ne_of_lt (Nat.lt_of_lt_of_le (Heap.lt_size (I2.pin p hp).1) hCs))
end
section
variable {X:Cx} {elt tg iter:Expr} {ifs:List Expr} {scope:Scope} {pos:Pos} {N':List Str} {k:Nat} {ix:List Nat} {g:St->TG} {tt:St->TT} {te:St->TE} {wi:TI}
theorem Vk {it:Value}{D:Addr}{env:Env}:compTurn (.ListComp elt [⟨tg,iter,ifs,0⟩] scope pos) 0 it (.ref D) env=(do
   standAt iter.pos
   match<-pyNext it with
   | none=>pure (.done .next)
   | some v=>
    letOwnedTupleGo tg it v
    assign tg env v
    let mut ok:=true
    for c in ifs do
     if ok then ok<-isTrue c env (eval c env)
    if ok then (do let _<-call (.builtin "list.append") [.ref D,<- eval elt env])
    again (.compLoop (.ListComp elt [⟨tg,iter,ifs,0⟩] scope pos) 0 it (.ref D) env)):=compTurn_list elt tg iter ifs scope pos it (.ref D) env
theorem kL {X:Cx}{te:TE}(he:PE X elt te):PEv X RelV (fun D b=>do let _<-call (.builtin "list.append") [.ref D,b]) (fun D env=>do let _<-call (.builtin "list.append") [.ref D,<- eval elt env]) te:=fun D pins s σ H Q R I h k=>
 wpAny_bind (wpAny_mono (he pins s σ H Q I h) (fun b s' ⟨y,H',I',r,q⟩=>k y b s' H' I' r q) fun _ _ z=>z)
theorem JZ (hcalm:X.calm=true) (S:CSc X.env.scope X.N scope N' k ix)
  {pins:List (Addr×Obj)} {σ:St} {H:Hp} {s2:Shared} {cl:List (Str×Addr)} {it:Addr} {fp:List Addr} {tn:Nat->Heap->Prop} {J:It} {Q:List V->Hp->Prop} {RR:Value->Addr->Result->Shared->Prop} {E:Value->Shared->Prop}
  (hg:∀ cl C s2 H2 fp,Cat X σ C s2 H2 fp->PG (X.comp N' scope cl C s2 H2 fp) tg (g σ)) (ht:∀ cl C s2 H2 fp,Cat X σ C s2 H2 fp->PF (X.comp N' scope cl C s2 H2 fp) ifs (tt σ)) (he:∀ cl C s2 H2 fp,Cat X σ C s2 H2 fp->PE (X.comp N' scope cl C s2 H2 fp) elt (te σ))
  (I2:Inv X pins σ H s2) (T:Wj X.prog X.w X.K tg J fp it tn) (st2:tn 0 s2.heap) (f2:∀ b∈fp,jA X pins H b) (hR:wG K6 k ix (g σ) (tt σ) (te σ) σ J H Q)
  (hcl1:∀ x c,cl.lookup x=some c->X.env.cells.lookup x=some c) (hcl2:∀ x,(x,NameKind.free)∈scope.names->∃ c,cl.lookup x=some c)
  (herr:∀ (D C:Addr) (x:Value) (s':Shared),yj X C x s'->RR (.ref D) C (.error x) s')
  (fin:∀ (D C:Addr) (ys:List V) (H5:Hp) (s5:Shared) (m:Str->Option Value),Inv X pins σ (upd H5 D (.lst ys)) s5->Q ys H5->H5 D=none->s5.heap.Ns C m->C≠D->s2.heap.objs.size<=C->upd H5 D (.lst ys) C=none->RR (.ref D) C (.ok .next) s5) :
  wpAny (model X.prog X.w) X.A (newList []) (fun acc s₃=>wpAny (model X.prog X.w) X.A (newFunctionEnv scope X.env.globals cl [] X.env.qual none .none (some X.env)) (fun cenv s₄=>
   codeAny (model X.prog X.w) X.A (.compStart (.ListComp elt [⟨tg,iter,ifs,0⟩] scope pos) 0 (.ref it) acc { cenv with scope:=relabel scope X.env }) (RR acc cenv.locals) s₄) E s₃) E s2 :=
 JX ym (act:=fun D env=>do let _<-call (.builtin "list.append") [.ref D,<- eval elt env]) (fun it acc env R s I n h h0=>codeAny_loop rfl I h n h0) (fun _ _ _=>Vk) (fun R s it acc env h0 h=>codeAny_compStart_list h0 h) hcalm S hg ht (fun cl C s2 H2 fp c=>kL (he cl C s2 H2 fp c)) I2 T st2 f2 hR hcl1 hcl2 herr fin
theorem zaF (hcalm:X.calm=true) (S:CSc X.env.scope X.N scope N' k ix) (hi:PI X tg iter wi)
  (hg:∀ σ cl C s2 H2 fp,Cat X σ C s2 H2 fp->PG (X.comp N' scope cl C s2 H2 fp) tg (g σ)) (ht:∀ σ cl C s2 H2 fp,Cat X σ C s2 H2 fp->PF (X.comp N' scope cl C s2 H2 fp) ifs (tt σ)) (he:∀ σ cl C s2 H2 fp,Cat X σ C s2 H2 fp->PE (X.comp N' scope cl C s2 H2 fp) elt (te σ))
  (hs:∀ x,foldedSetIterable iter X.env x=pure x:=by intro _; rfl):PE X (.ListComp elt [⟨tg,iter,ifs,0⟩] scope pos) (wj k ix wi g tt te):=by
 intro pins s σ H Q I h
 obtain⟨cl,ecl,hcl1,hcl2⟩:=qW I S
 rw[eval_ListComp]
 refine wpAny_comprehension_free (use:=none) rfl hs ecl S.kind S.loc (thn (hi pins s σ H _ I h) fun v s1 h1=>thn h1 fun itv s2 h2=>?_)
 obtain⟨it,fp,tn,J,H2,e,I2,T,st2,f2,hR⟩:=h2
 subst e
 refine JZ (RR:=fun acc C=>compPost (model X.prog X.w) X.A X.xe none (EP X pins σ Q) acc C) hcalm S (hg σ) (ht σ) (he σ) I2 T st2 f2 hR hcl1 hcl2 (fun D C x s' h=>h) ?_
 intro D C ys H5 s5 m I5 q hD hn hCD hCs hCn
 exact⟨m,hn,fun h' hs'=>⟨.ref D,upd H5 D (.lst ys),I2.letgo I5 hCs hCn hs'.2,rfl,q D hD⟩⟩
theorem zaK {i:Nat}{x:Str}{pos' spos:Pos}(hN:X.N.Nodup) (hi':X.N[i]?=some x) (hx:Loc X.env.scope x) (hcalm:X.calm=true) (S:CSc X.env.scope X.N scope N' k ix) (hi:PI X tg iter wi)
  (hg:∀ σ cl C s2 H2 fp,Cat X σ C s2 H2 fp->PG (X.comp N' scope cl C s2 H2 fp) tg (g σ)) (ht:∀ σ cl C s2 H2 fp,Cat X σ C s2 H2 fp->PF (X.comp N' scope cl C s2 H2 fp) ifs (tt σ)) (he:∀ σ cl C s2 H2 fp,Cat X σ C s2 H2 fp->PE (X.comp N' scope cl C s2 H2 fp) elt (te σ))
  (hsw:swapsWith (.ListComp elt [⟨tg,iter,ifs,0⟩] scope pos) (some (.Name x pos')) spos.line X.env=pure true)
  (hs:∀ x,foldedSetIterable iter X.env x=pure x:=by intro _; rfl) (hf:X.fn x=true∨X.env.scope.names.lookup x=some .local:=by first | exact .inl rfl | exact .inr rfl | assumption) :
  PS X (.Assign [.Name x pos'] (.ListComp elt [⟨tg,iter,ifs,0⟩] scope pos) spos) (Wc (wj k ix wi g tt te) (Q6 i)):=by
 intro pins s σ H D' I h
 obtain⟨cl,ecl,hcl1,hcl2⟩:=qW I S
 rw[exec_Assign_Name_used _ _ _ _ hsw]
 refine wpAny_bind (wpAny_standAt (wpAny_bind ?_))
 show wpAny _ X.A (do let _<-comprehension (.ListComp elt [⟨tg,iter,ifs,0⟩] scope pos) scope X.env _ (newList []) false (eval iter X.env) (some (assign (.Name x pos') X.env))) _ _ s
 refine wpAny_bind (wpAny_mono (wpAny_comprehension_free (use:=some (assign (.Name x pos') X.env)) (Q:=fun _ s'=>SP X pins D' .next s') rfl hs ecl S.kind S.loc
  (thn (hi pins s σ H _ I h) fun v s1 h1=>thn h1 fun itv s2 h2=>?_)) (fun _ s' hq=>wpAny_pure (wpAny_pure hq)) fun _ _ e=>e)
 obtain⟨it,fp,tn,J,H2,e,I2,T,st2,f2,hR⟩:=h2
 subst e
 refine JZ (RR:=fun acc C=>compPost (model X.prog X.w) X.A X.xe (some (assign (.Name x pos') X.env)) (fun _ s'=>SP X pins D' .next s') acc C) hcalm S (hg σ) (ht σ) (he σ) I2 T st2 f2 hR hcl1 hcl2 (fun D C x s' h=>h) ?_
 intro D C ys H5 s5 m I5 q hD hn hCD hCs hCn
 show wpAny _ X.A (assign (.Name x pos') X.env (.ref D)) _ _ s5
 refine wpAny_assign_Name (ZM (v:=.ref D) I5 hN hi' hx rfl (fun s' I' ⟨a,sb,ha⟩=>?_) hf)
 have hCa:C≠a:=by
  rcases ha with rfl | ha
  ·exact Ne.symm (Nat.ne_of_lt (Nat.lt_of_lt_of_le I2.lt hCs))
  ·obtain⟨v,ob,hob,_⟩:=I2.cell x a ha
   exact Ne.symm (Nat.ne_of_lt (Nat.lt_of_lt_of_le (Heap.lt_size hob) hCs))
 exact⟨m,hn.sameBut sb hCa,fun h' hs'=>⟨_,_,I2.letgo I' hCs hCn hs'.2,q D hD⟩⟩
end
section
variable {X:Cx} {kx vx tg iter:Expr} {ifs:List Expr} {scope:Scope} {pos:Pos} {N':List Str} {k:Nat} {ix:List Nat} {g:St->TG} {tt:St->TT} {tk tv:St->TE} {wi:TI}
theorem kJ {X:Cx}{tk tv:TE}(hk:PE X kx tk) (hv:PE X vx tv):PEv X (fun (y:Key×V) (b:Value×Value)=>RelV (kV y.1) b.1/\RelV y.2 b.2) (fun D b=>holding [b.1,b.2] (dictSet D b.1 b.2)) (fun D env=>do
   let kv<-eval kx env
   let vv<-holding [kv] (eval vx env)
   standAt { kx.pos with endLine:=vx.pos.endLine,endCol:=vx.pos.endCol }
   holding [kv,vv] (dictSet D kv vv)) (vn tk tv):=fun D pins s σ H Q R I h kk=>
 wpAny_bind (wpAny_mono (hk pins s σ H _ I h) (fun kv s1 ⟨x,H1,I1,rx,q1⟩=>wpAny_bind (wpAny_holding (wpAny_mono (hv pins s1 σ H1 _ I1 q1) (fun vv s2 ⟨y,H2,I2,ry,k,ek,q2⟩=>
  wpAny_bind (wpAny_standAt (kk (k,y) (kv,vv) s2 H2 I2 ⟨by rw[<- ek]; exact rx,ry⟩ q2))) fun _ _ z=>z))) fun _ _ z=>z)
theorem JY (hcalm:X.calm=true) (S:CSc X.env.scope X.N scope N' k ix)
  {pins:List (Addr×Obj)} {σ:St} {H:Hp} {s2:Shared} {cl:List (Str×Addr)} {it:Addr} {fp:List Addr} {tn:Nat->Heap->Prop} {J:It} {Q:List (Key×V)->Hp->Prop} {RR:Value->Addr->Result->Shared->Prop} {E:Value->Shared->Prop}
  (hg:∀ cl C s2 H2 fp,Cat X σ C s2 H2 fp->PG (X.comp N' scope cl C s2 H2 fp) tg (g σ)) (ht:∀ cl C s2 H2 fp,Cat X σ C s2 H2 fp->PF (X.comp N' scope cl C s2 H2 fp) ifs (tt σ)) (hk:∀ cl C s2 H2 fp,Cat X σ C s2 H2 fp->PE (X.comp N' scope cl C s2 H2 fp) kx (tk σ)) (hv:∀ cl C s2 H2 fp,Cat X σ C s2 H2 fp->PE (X.comp N' scope cl C s2 H2 fp) vx (tv σ))
  (I2:Inv X pins σ H s2) (T:Wj X.prog X.w X.K tg J fp it tn) (st2:tn 0 s2.heap) (f2:∀ b∈fp,jA X pins H b) (hR:wG K5 k ix (g σ) (tt σ) (vn (tk σ) (tv σ)) σ J H Q)
  (hcl1:∀ x c,cl.lookup x=some c->X.env.cells.lookup x=some c) (hcl2:∀ x,(x,NameKind.free)∈scope.names->∃ c,cl.lookup x=some c)
  (herr:∀ (D C:Addr) (x:Value) (s':Shared),yj X C x s'->RR (.ref D) C (.error x) s')
  (fin:∀ (D C:Addr) (ys:List (Key×V)) (H5:Hp) (s5:Shared) (m:Str->Option Value),Inv X pins σ (upd H5 D (.dK ys)) s5->Q ys H5->H5 D=none->s5.heap.Ns C m->C≠D->s2.heap.objs.size<=C->upd H5 D (.dK ys) C=none->RR (.ref D) C (.ok .next) s5) :
  wpAny (model X.prog X.w) X.A newDict (fun acc s₃=>wpAny (model X.prog X.w) X.A (newFunctionEnv scope X.env.globals cl [] X.env.qual none .none (some X.env)) (fun cenv s₄=>
   codeAny (model X.prog X.w) X.A (.compStart (.DictComp kx vx [⟨tg,iter,ifs,0⟩] scope pos) 0 (.ref it) acc { cenv with scope:=relabel scope X.env }) (RR acc cenv.locals) s₄) E s₃) E s2 :=
 JX yk (act:=fun D env=>do
   let kv<-eval kx env
   let vv<-holding [kv] (eval vx env)
   standAt { kx.pos with endLine:=vx.pos.endLine,endCol:=vx.pos.endCol }
   holding [kv,vv] (dictSet D kv vv)) (fun it acc env R s I n h h0=>codeAny_loop rfl I h n h0) (fun it D env=>compTurn_dict kx vx tg iter ifs scope pos it D env) (fun R s it acc env h0 h=>codeAny_compStart_dict h0 h) hcalm S hg ht (fun cl C s2 H2 fp c=>kJ (hk cl C s2 H2 fp c) (hv cl C s2 H2 fp c)) I2 T st2 f2 hR hcl1 hcl2 herr fin
theorem kE (hcalm:X.calm=true) (S:CSc X.env.scope X.N scope N' k ix) (hi:PI X tg iter wi)
  (hg:∀ σ cl C s2 H2 fp,Cat X σ C s2 H2 fp->PG (X.comp N' scope cl C s2 H2 fp) tg (g σ)) (ht:∀ σ cl C s2 H2 fp,Cat X σ C s2 H2 fp->PF (X.comp N' scope cl C s2 H2 fp) ifs (tt σ)) (hk:∀ σ cl C s2 H2 fp,Cat X σ C s2 H2 fp->PE (X.comp N' scope cl C s2 H2 fp) kx (tk σ)) (hv:∀ σ cl C s2 H2 fp,Cat X σ C s2 H2 fp->PE (X.comp N' scope cl C s2 H2 fp) vx (tv σ))
  (hs:∀ x,foldedSetIterable iter X.env x=pure x:=by intro _; rfl):PE X (.DictComp kx vx [⟨tg,iter,ifs,0⟩] scope pos) (ZN k ix wi g tt (fun σ=>vn (tk σ) (tv σ))):=by
 intro pins s σ H Q I h
 obtain⟨cl,ecl,hcl1,hcl2⟩:=qW I S
 show wpAny _ X.A (comprehension (.DictComp kx vx [⟨tg,iter,ifs,0⟩] scope pos) scope X.env _ newDict false (eval iter X.env)) _ _ s
 refine wpAny_comprehension_free (use:=none) rfl hs ecl S.kind S.loc (thn (hi pins s σ H _ I h) fun v s1 h1=>thn h1 fun itv s2 h2=>?_)
 obtain⟨it,fp,tn,J,H2,e,I2,T,st2,f2,hR⟩:=h2
 subst e
 refine JY (RR:=fun acc C=>compPost (model X.prog X.w) X.A X.xe none (EP X pins σ Q) acc C) hcalm S (hg σ) (ht σ) (hk σ) (hv σ) I2 T st2 f2 hR hcl1 hcl2 (fun D C x s' h=>h) ?_
 intro D C ys H5 s5 m I5 q hD hn hCD hCs hCn
 exact⟨m,hn,fun h' hs'=>⟨.ref D,upd H5 D (.dK ys),I2.letgo I5 hCs hCn hs'.2,rfl,q D hD⟩⟩
theorem kR {i:Nat}{x:Str}{pos' spos:Pos}(hN:X.N.Nodup) (hi':X.N[i]?=some x) (hx:Loc X.env.scope x) (hcalm:X.calm=true) (S:CSc X.env.scope X.N scope N' k ix) (hi:PI X tg iter wi)
  (hg:∀ σ cl C s2 H2 fp,Cat X σ C s2 H2 fp->PG (X.comp N' scope cl C s2 H2 fp) tg (g σ)) (ht:∀ σ cl C s2 H2 fp,Cat X σ C s2 H2 fp->PF (X.comp N' scope cl C s2 H2 fp) ifs (tt σ)) (hk:∀ σ cl C s2 H2 fp,Cat X σ C s2 H2 fp->PE (X.comp N' scope cl C s2 H2 fp) kx (tk σ)) (hv:∀ σ cl C s2 H2 fp,Cat X σ C s2 H2 fp->PE (X.comp N' scope cl C s2 H2 fp) vx (tv σ))
  (hsw:swapsWith (.DictComp kx vx [⟨tg,iter,ifs,0⟩] scope pos) (some (.Name x pos')) spos.line X.env=pure true)
  (hs:∀ x,foldedSetIterable iter X.env x=pure x:=by intro _; rfl) (hf:X.fn x=true∨X.env.scope.names.lookup x=some .local:=by first | exact .inl rfl | exact .inr rfl | assumption) :
  PS X (.Assign [.Name x pos'] (.DictComp kx vx [⟨tg,iter,ifs,0⟩] scope pos) spos) (Wc (ZN k ix wi g tt (fun σ=>vn (tk σ) (tv σ))) (Q6 i)):=by
 intro pins s σ H D' I h
 obtain⟨cl,ecl,hcl1,hcl2⟩:=qW I S
 rw[exec_Assign_Name_used _ _ _ _ hsw]
 refine wpAny_bind (wpAny_standAt (wpAny_bind ?_))
 show wpAny _ X.A (do let _<-comprehension (.DictComp kx vx [⟨tg,iter,ifs,0⟩] scope pos) scope X.env _ newDict false (eval iter X.env) (some (assign (.Name x pos') X.env))) _ _ s
 refine wpAny_bind (wpAny_mono (wpAny_comprehension_free (use:=some (assign (.Name x pos') X.env)) (Q:=fun _ s'=>SP X pins D' .next s') rfl hs ecl S.kind S.loc
  (thn (hi pins s σ H _ I h) fun v s1 h1=>thn h1 fun itv s2 h2=>?_)) (fun _ s' hq=>wpAny_pure (wpAny_pure hq)) fun _ _ e=>e)
 obtain⟨it,fp,tn,J,H2,e,I2,T,st2,f2,hR⟩:=h2
 subst e
 refine JY (RR:=fun acc C=>compPost (model X.prog X.w) X.A X.xe (some (assign (.Name x pos') X.env)) (fun _ s'=>SP X pins D' .next s') acc C) hcalm S (hg σ) (ht σ) (hk σ) (hv σ) I2 T st2 f2 hR hcl1 hcl2 (fun D C x s' h=>h) ?_
 intro D C ys H5 s5 m I5 q hD hn hCD hCs hCn
 show wpAny _ X.A (assign (.Name x pos') X.env (.ref D)) _ _ s5
 refine wpAny_assign_Name (ZM (v:=.ref D) I5 hN hi' hx rfl (fun s' I' ⟨a,sb,ha⟩=>?_) hf)
 have hCa:C≠a:=by
  rcases ha with rfl | ha
  ·exact Ne.symm (Nat.ne_of_lt (Nat.lt_of_lt_of_le I2.lt hCs))
  ·obtain⟨v,ob,hob,_⟩:=I2.cell x a ha
   exact Ne.symm (Nat.ne_of_lt (Nat.lt_of_lt_of_le (Heap.lt_size hob) hCs))
 exact⟨m,hn.sameBut sb hCa,fun h' hs'=>⟨_,_,I2.letgo I' hCs hCn hs'.2,q D hD⟩⟩
end
end L2
namespace L2
open PySem PySem.Spec PyProof.Rows
class Cs where
 adr:Str->Addr
variable [Cs]
noncomputable def kK (p:Str×V):Key×V:=(.inr p.1,p.2)
noncomputable def dK (p:Str×PyData):PyData×PyData:=(.str p.1,p.2)
mutual
/-- the value v stands for the data d; no list of it lies in M -/
inductive Rep (M:Addr->Prop) (H:Hp):V->PyData->Prop
 | none:Rep M H .non .none
 | bool (b:Bool):Rep M H (.bl b) (.bool b)
 | int (i:Int):Rep M H (.int i) (.int i)
 | str (x:Str):Rep M H (.str x) (.str x)
 | list {a:Addr} {vs:List V} {ds:List PyData}:H a=some (.lst vs)->¬ M a->RepL M H vs ds->Rep M H (.ref a) (.list ds)
 | tuple {a:Addr} {vs:List V} {ds:List PyData}:H a=some (.tup vs)->RepL M H vs ds->Rep M H (.ref a) (.tuple ds)
 | dict {a:Addr} {kvs:List (Str×V)} {ds:List (Str×PyData)}:Rd H a (.dK (kvs.map kK))->¬ M a->kvs.map (·.1)=ds.map (·.1)->RepL M H (kvs.map (·.2)) (ds.map (·.2))->Rep M H (.ref a) (.dict (ds.map dK))
 | inst {a dx:Addr} {c:Str} {fs:List (Str×V)} {ds:List (Str×PyData)}:H a=some (.ins (Cs.adr c) dx fs)->¬ M a->fs.map (·.1)=ds.map (·.1)->RepL M H (fs.map (·.2)) (ds.map (·.2))->Rep M H (.ref a) (.dict ((.none,.str c)::ds.map dK))
inductive RepL (M:Addr->Prop) (H:Hp):List V->List PyData->Prop
 | nil:RepL M H [] []
 | cons {v:V} {vs:List V} {d:PyData} {ds:List PyData}:Rep M H v d->RepL M H vs ds->RepL M H (v::vs) (d::ds)
end
noncomputable def zdR (M:Addr->Prop) (H H':Hp):Prop:=∀ b o,¬ M b->H b=some o->H' b=some o
noncomputable def TupM (H H':Hp):Prop:=∀ b xs,H b=some (.tup xs)->H' b=some (.tup xs)
structure zbY (M:Addr->Prop) (H H':Hp):Prop where
 same:zdR M H H'
 tups:TupM H H'
 stay:∀ b,H b≠none->H' b≠none
theorem Same.grow {M:Addr->Prop}{H H':Hp}(s:Same H H'):zbY M H H' :=
 ⟨fun b o _ e=>s b o e,fun b xs e=>s b _ e,fun b h=>by
  cases q:H b with
  | none=>exact absurd q h
  | some o=>rw[s b o q]; exact fun z=>nomatch z⟩
mutual
theorem Rep.grow {M:Addr->Prop}{H H':Hp}(g:zbY M H H'):∀ {v:V}{d:PyData},Rep M H v d->Rep M H' v d
 | _,_,.none=>.none
 | _,_,.bool b=>.bool b
 | _,_,.int i=>.int i
 | _,_,.str x=>.str x
 | _,_,.list e n r=>.list (g.same _ _ n e) n (RepL.grow g r)
 | _,_,.tuple e r=>.tuple (g.tups _ _ e) (RepL.grow g r)
 | _,_,.dict e n k r=>.dict (e.imp (g.same _ _ n) fun ⟨o,z⟩=>⟨o,g.same _ _ n z⟩) n k (RepL.grow g r)
 | _,_,.inst e n k r=>.inst (g.same _ _ n e) n k (RepL.grow g r)
theorem RepL.grow {M:Addr->Prop}{H H':Hp}(g:zbY M H H'):∀ {vs:List V}{ds:List PyData},RepL M H vs ds->RepL M H' vs ds
 | _,_,.nil=>.nil
 | _,_,.cons r t=>.cons (Rep.grow g r) (RepL.grow g t)
end
mutual
/-- fewer addresses may change; or one more that is not there -/
theorem Rep.less {M M':Addr->Prop}{H:Hp}(g:∀ b,M' b->H b≠none->M b):∀ {v:V}{d:PyData},Rep M H v d->Rep M' H v d
 | _,_,.none=>.none
 | _,_,.bool b=>.bool b
 | _,_,.int i=>.int i
 | _,_,.str x=>.str x
 | _,_,.list e n r=>.list e (fun z=>n (g _ z (by rw[e]; exact fun z=>nomatch z))) (RepL.less g r)
 | _,_,.tuple e r=>.tuple e (RepL.less g r)
 | _,_,.dict e n k r=>.dict e (fun z=>n (g _ z (by rcases e with e | ⟨o,e⟩ <;> rw[e] <;> exact fun z=>nomatch z))) k (RepL.less g r)
 | _,_,.inst e n k r=>.inst e (fun z=>n (g _ z (by rw[e]; exact fun z=>nomatch z))) k (RepL.less g r)
theorem RepL.less {M M':Addr->Prop}{H:Hp}(g:∀ b,M' b->H b≠none->M b):∀ {vs:List V}{ds:List PyData},RepL M H vs ds->RepL M' H vs ds
 | _,_,.nil=>.nil
 | _,_,.cons r t=>.cons (Rep.less g r) (RepL.less g t)
end
theorem RepL.length {M:Addr->Prop}{H:Hp}:∀ {vs:List V}{ds:List PyData},RepL M H vs ds->vs.length=ds.length
 | _,_,.nil=>rfl
 | _,_,.cons _ t=>by rw[List.length_cons,List.length_cons,RepL.length t]
theorem RepL.append {M:Addr->Prop}{H:Hp}:∀ {vs ws:List V}{ds es:List PyData},RepL M H vs ds->RepL M H ws es->RepL M H (vs++ws) (ds++es)
 | _,_,_,_,.nil,s=>s
 | _,_,_,_,.cons r t,s=>.cons r (RepL.append t s)
theorem RepL.get {M:Addr->Prop}{H:Hp}:∀ {vs:List V}{ds:List PyData}{i:Nat}{v:V},RepL M H vs ds->vs[i]?=some v->∃ d,ds[i]?=some d/\Rep M H v d
 | _,_,_,_,.nil,e=>by simp at e
 | _,_,0,_,.cons r _,e=>by simp at e; subst e; exact⟨_,rfl,r⟩
 | _,_,i+1,v,.cons _ t,e=>by
  obtain⟨u,h1,h2⟩:=RepL.get (i:=i) (v:=v) t (by simpa using e)
  exact⟨u,by simpa using h1,h2⟩
theorem RepL.get' {M:Addr->Prop}{H:Hp}{vs:List V}{ds:List PyData}{i:Nat}{d:PyData}(r:RepL M H vs ds) (e:ds[i]?=some d):∃ v,vs[i]?=some v/\Rep M H v d:=by
 have hl:=r.length
 have hi:i<vs.length:=by rw[hl]; exact (List.getElem?_eq_some_iff.mp e).1
 obtain⟨d',e',r'⟩:=r.get (i:=i) (v:=vs[i]) (by simp[hi])
 rw[e] at e'; cases e'
 exact⟨vs[i],by simp[hi],r'⟩
theorem RepL.take {M:Addr->Prop}{H:Hp}:∀ {vs:List V}{ds:List PyData}(n:Nat),RepL M H vs ds->RepL M H (vs.take n) (ds.take n)
 | _,_,0,_=>.nil
 | _,_,_+1,.nil=>.nil
 | _,_,n+1,.cons r t=>.cons r (RepL.take n t)
theorem RepL.drop {M:Addr->Prop}{H:Hp}:∀ {vs:List V}{ds:List PyData}(n:Nat),RepL M H vs ds->RepL M H (vs.drop n) (ds.drop n)
 | _,_,0,r=>r
 | _,_,_+1,.nil=>.nil
 | _,_,n+1,.cons _ t=>RepL.drop n t
theorem RepL.ints {M:Addr->Prop}{H:Hp}:∀ (ns:List Int),RepL M H (ns.map V.int) (ns.map PyData.int)
 | []=>.nil
 | n::ns=>.cons (.int n) (RepL.ints ns)
mutual
theorem Rep.reads {P:Program}{w:World}{M:Addr->Prop}{H:Hp}{h:Heap}(ok:HOk P w H h):∀ {v:V}{d:PyData}{u:Value},Rep M H v d->d.canLay0=true->RelV v u->∃ as,Reads h u d as
 | _,_,_,.none,_,r=>by cases (show _=Value.none from r); exact⟨_,.none⟩
 | _,_,_,.bool b,_,r=>by cases (show _=Value.bool b from r); exact⟨_,.bool b⟩
 | _,_,_,.int i,_,r=>by obtain⟨t,e⟩:=(show ∃ t,_=Value.int i t from r); cases e; exact⟨_,.int i t⟩
 | _,_,_,.str x,_,r=>by obtain⟨t,e⟩:=(show ∃ t,_=Value.str x t from r); cases e; exact⟨_,.str x t⟩
 | _,_,_,.list (a:=a) (vs:=vs) e n q,l,r=>by
  cases (show _=Value.ref a from r)
  obtain⟨_,its,c,rv,ho⟩:=(show ObjOk P w H h a (.lst vs) from ok a _ e)
  obtain⟨as,z⟩:=RepL.reads ok q l rv
  exact⟨_,.list ho rfl rfl (by simpa using z)⟩
 | _,_,_,.tuple (a:=a) (vs:=vs) e q,l,r=>by
  cases (show _=Value.ref a from r)
  obtain⟨_,its,rv,o,ho,hc,c,hd⟩:=(show ObjOk P w H h a (.tup vs) from ok a _ e)
  obtain⟨as,z⟩:=RepL.reads ok q l rv
  exact⟨_,.tuple ho hc hd (by simpa using z)⟩
 | _,_,_,.dict e n k q,l,r=>by cases l
 | _,_,_,.inst e n k q,l,r=>by cases l
theorem RepL.reads {P:Program}{w:World}{M:Addr->Prop}{H:Hp}{h:Heap}(ok:HOk P w H h):∀ {vs:List V}{ds:List PyData}{us:List Value},RepL M H vs ds->PyData.canLayAll0 ds=true->Vals vs us->∃ as,ReadsAll h us ds as
 | _,_,_,.nil,_,r=>by cases r; exact⟨_,.nil⟩
 | _,_,_,.cons q t,l,r=>by
  have l':=Bool.and_eq_true_iff.mp l
  cases r with
  | cons r rs=>
   obtain⟨as,z⟩:=Rep.reads ok q l'.1 r
   obtain⟨bs,y⟩:=RepL.reads ok t l'.2 rs
   exact⟨_,.cons z y⟩
end
section
variable (X:Cx)
noncomputable def wpE (e:Expr):TE:=fun σ H Q=>∀ (pins:List (Addr×Obj)) (s:Shared),Inv X pins σ H s->wpAny (model X.prog X.w) X.A (eval e X.env) (EP X pins σ Q) X.xe s
noncomputable def wpT (e:Expr):TT:=fun σ H Q=>∀ (pins:List (Addr×Obj)) (s:Shared),Inv X pins σ H s->wpAny (model X.prog X.w) X.A (isTrue e X.env (eval e X.env)) (TP X pins σ Q) X.xe s
noncomputable def wpW (e:Expr):TT:=fun σ H Q=>∀ (whole:Sem Value) (pins:List (Addr×Obj)) (s:Shared),Inv X pins σ H s->wpAny (model X.prog X.w) X.A (isTrue e X.env whole) (TP X pins σ Q) X.xe s
noncomputable def wpA (es:List Expr):TA:=fun σ H Q=>∀ (pos:Pos) (pins:List (Addr×Obj)) (s:Shared),Inv X pins σ H s->wpAny (model X.prog X.w) X.A (spliced (backTo pos (starEach es X.env))) (AP X pins σ Q) X.xe s
noncomputable def wpS (st:Stmt):TS:=fun D σ H=>∀ (pins:List (Addr×Obj)) (s:Shared),Inv X pins σ H s->wpAny (model X.prog X.w) X.A (exec st X.env) (SP X pins D) X.xe s
noncomputable def wpB (st:List Stmt):TS:=fun D σ H=>∀ (pins:List (Addr×Obj)) (s:Shared),Inv X pins σ H s->wpAny (model X.prog X.w) X.A (execs st X.env) (SP X pins D) X.xe s
noncomputable def wpG (tg:Expr):TG:=fun v σ H Q=>∀ (pins:List (Addr×Obj)) (s:Shared) (u:Value),Inv X pins σ H s->RelV v u->wpAny (model X.prog X.w) X.A (assign tg X.env u) (fun _ s'=>∃ σ' H',Inv X pins σ' H' s'/\Q σ' H') X.xe s
noncomputable def wpF (ifs:List Expr):TT:=fun σ H Q=>∀ (pins:List (Addr×Obj)) (s:Shared),Inv X pins σ H s ->
 wpAny (model X.prog X.w) X.A (forIn ifs true fun c r=>if r=true then do let ok<-isTrue c X.env (eval c X.env); pure (ForInStep.yield ok) else pure (ForInStep.yield r)) (TP X pins σ Q) X.xe s
noncomputable def wpI (tg iter:Expr):TI:=fun σ H R=>∀ (pins:List (Addr×Obj)) (s:Shared),Inv X pins σ H s ->
  wpAny (model X.prog X.w) X.A (eval iter X.env) (fun v s1=>wpAny (model X.prog X.w) X.A (pyIter v) (PIE X pins σ tg R) X.xe s1) X.xe s
end
section
variable {X:Cx} {e:Expr} {es:List Expr} {st:Stmt} {sts:List Stmt} {tg iter:Expr} {σ:St} {H:Hp}
theorem zf:PE X e (wpE X e):=fun pins s σ H Q I h=>h pins s I
theorem qH:PT X e (wpT X e):=fun pins s σ H Q I h=>h pins s I
theorem V3:PW X e (wpW X e):=fun wh pins s σ H Q I h=>h wh pins s I
theorem qG:PA X es (wpA X es):=fun pos pins s σ H Q I h=>h pos pins s I
theorem V2:PS X st (wpS X st):=fun pins s σ H D I h=>h pins s I
theorem qm:PSs X sts (wpB X sts):=fun pins s σ H D I h=>h pins s I
theorem wX:PG X tg (wpG X tg):=fun pins s σ H v u Q I r h=>h pins s u I r
theorem Zt:PI X tg iter (wpI X tg iter):=fun pins s σ H R I h=>h pins s I
theorem PE.wp {t:TE}{Q:VK}(h:PE X e t) (q:t σ H Q):wpE X e σ H Q:=fun pins s I=>h pins s σ H Q I q
theorem PT.wp {t:TT}{Q:Bool->Hp->Prop}(h:PT X e t) (q:t σ H Q):wpT X e σ H Q:=fun pins s I=>h pins s σ H Q I q
theorem PW.wp {t:TT}{Q:Bool->Hp->Prop}(h:PW X e t) (q:t σ H Q):wpW X e σ H Q:=fun wh pins s I=>h wh pins s σ H Q I q
theorem PA.wp {t:TA}{Q:List V->Hp->Prop}(h:PA X es t) (q:t σ H Q):wpA X es σ H Q:=fun pos pins s I=>h pos pins s σ H Q I q
theorem PS.wp {t:TS}{D:qy}(h:PS X st t) (q:t D σ H):wpS X st D σ H:=fun pins s I=>h pins s σ H D I q
theorem PSs.wp {t:TS}{D:qy}(h:PSs X sts t) (q:t D σ H):wpB X sts D σ H:=fun pins s I=>h pins s σ H D I q
theorem PG.wp {t:TG}{v:V}{Q:St->Hp->Prop}(h:PG X tg t) (q:t v σ H Q):wpG X tg v σ H Q:=fun pins s u I r=>h pins s σ H v u Q I r q
theorem PF.wp {ifs:List Expr}{t:TT}{Q:Bool->Hp->Prop}(h:PF X ifs t) (q:t σ H Q):wpF X ifs σ H Q:=fun pins s I=>h pins s σ H Q I q
theorem PI.wp {t:TI}{R:It->Hp->Prop}(h:PI X tg iter t) (q:t σ H R):wpI X tg iter σ H R:=fun pins s I=>h pins s σ H R I q
theorem wpE.mono {Q Q':VK}(h:wpE X e σ H Q) (k:∀ v H',Q v H'->Q' v H'):wpE X e σ H Q':=fun pins s I=>thn (h pins s I) fun u s' ⟨v,H',a,b,c⟩=>⟨v,H',a,b,k v H' c⟩
theorem wpA.mono {Q Q':List V->Hp->Prop}(h:wpA X es σ H Q) (k:∀ v H',Q v H'->Q' v H'):wpA X es σ H Q':=fun pos pins s I=>thn (h pos pins s I) fun u s' ⟨v,H',a,b,c⟩=>⟨v,H',a,b,k v H' c⟩
end
noncomputable def Al (M:Addr->Prop) (H:Hp):Prop:=∀ a,M a->H a≠none
inductive Ent where
 | d (x:PyData)
 | v (x:V)
noncomputable abbrev Ge:=List (Option Ent)
structure RS (M:Addr->Prop) (Γ:Ge) (σ:St) (H:Hp):Prop where
 al:Al M H
 at':∀ (i:Nat) (d:PyData),Γ[i]?=some (some (.d d))->∃ v,σ[i]?=some (some v)/\Rep M H v d
 av:∀ (i:Nat) (v:V),Γ[i]?=some (some (.v v))->σ[i]?=some (some v)
noncomputable def zdP (M:Addr->Prop) (H:Hp) (v:V):Ent->Prop
 | .d d=>Rep M H v d
 | .v u=>v=u
theorem RS.setE {M:Addr->Prop}{Γ:Ge}{σ:St}{H:Hp}{v:V}{z:Ent}{i:Nat}(h:RS M Γ σ H) (r:zdP M H v z) (hi:i<σ.length):RS M (Γ.set i (some z)) (σ.set i (some v)) H:=⟨h.al,fun j d' e=>by
 by_cases hj:j=i
 ·subst hj
  by_cases hl:j<Γ.length
  ·rw[List.getElem?_set_self hl] at e
   cases e
   exact⟨v,by rw[List.getElem?_set_self hi],r⟩
  ·rw[List.getElem?_eq_none (by simpa using hl)] at e; cases e
 ·rw[List.getElem?_set_ne (Ne.symm hj)] at e |-
  exact h.at' j d' e,fun j d' e=>by
 by_cases hj:j=i
 ·subst hj
  by_cases hl:j<Γ.length
  ·rw[List.getElem?_set_self hl] at e
   cases e
   rw[List.getElem?_set_self hi]; exact congrArg (fun x=>some (some x)) r
  ·rw[List.getElem?_eq_none (by simpa using hl)] at e; cases e
 ·rw[List.getElem?_set_ne (Ne.symm hj)] at e |-
  exact h.av j d' e⟩
theorem RS.setV {M:Addr->Prop}{Γ:Ge}{σ:St}{H:Hp}{v:V}{i:Nat}(h:RS M Γ σ H) (hi:i<σ.length):RS M (Γ.set i (some (.v v))) (σ.set i (some v)) H:=h.setE rfl hi
section
variable {X:Cx} {Γ:Ge} {pos p:Pos} {a b c:Expr} {es:List Expr} {d d1 d2:PyData} {ds:List PyData}
theorem zv {H:Hp}{p:Addr}{o:HO}(n:H p=none):Same H (upd H p o):=fun b u e=>by rw[ze (zC e n)]; exact e
theorem yT (hu:∀ n,n<=60->X.A.units+n<cLine):OpR X (compareOp .Eq) (fun x y H Q=>∃ M M' d1 d2,Rep M H x d1/\Rep M' H y d2/\d1.canLay0=true/\d2.canLay0=true/\min d1.depth d2.depth<=60/\Q (.bl (PyData.eqv d1 d2)) H):=by
 intro pins s σ H x y v u Q I rx ry h
 obtain⟨M,M',d1,d2,r1,r2,c1,c2,hd,q⟩:=h
 obtain⟨as,z1⟩:=r1.reads I.hok c1 rx
 obtain⟨bs,z2⟩:=r2.reads I.hok c2 ry
 exact SeqAt.compareEq_reads z1 z2 c1 c2 (hu _ hd) ⟨.bl _,H,I,rfl,q⟩
theorem yU (hu:∀ n,n<=60->X.A.units+n<cLine):OpR X (compareOp .NotEq) (fun x y H Q=>∃ M M' d1 d2,Rep M H x d1/\Rep M' H y d2/\d1.canLay0=true/\d2.canLay0=true/\min d1.depth d2.depth<=60/\Q (.bl (!PyData.eqv d1 d2)) H):=by
 intro pins s σ H x y v u Q I rx ry h
 obtain⟨M,M',d1,d2,r1,r2,c1,c2,hd,q⟩:=h
 obtain⟨as,z1⟩:=r1.reads I.hok c1 rx
 obtain⟨bs,z2⟩:=r2.reads I.hok c2 ry
 exact SeqAt.compareNe_reads z1 z2 c1 c2 (hu _ hd) ⟨.bl _,H,I,rfl,q⟩
theorem Room.u60 {k:Nat}{A:Around}(r:Room k A):∀ n,n<=60->A.units+n<cLine:=fun n h=>by have:=r.units; omega
end
end L2
namespace PySem
open PySem.AutoSeq1 (wpAny_loadPart')
theorem vt (l:Addr) (items:Array Value) (n:Nat) (dd:Option Addr) (sl:Array (Option Value)) (x:Int) (u:Tok) (hb1:¬ (decide (x< -(2 ^ 63))||decide (x≥2 ^ 63))=true) (hc0:¬ (items.isEmpty||x==1)=true) (hc1:¬ (decide (x<=0)||items.isEmpty)=true) (hc2:¬ (items.size:Int)*x>(2 ^ 63-1) / 8) (hc3:¬ Builtin.Tuple.tupleTooMany ((items.size:Int)*x)=true) (hsz:((List.replicate x.toNat items).foldl (·++·) #[]).size<=sizeLine) :
  Meets (Builtin.«tuple.__mul__» ⟨[.ref l,.int x u],[]⟩) (fun _ R s=>s.heap.get? l=some { cls:=.type "tuple",dict:=dd,data:=.seq items n,slots:=sl }/\R (.ok (.ret (Value.ref s.heap.objs.size))) { s with heap:=s.heap.push { cls:=Value.type "tuple",data:=Data.seq ((List.replicate x.toNat items).foldl (·++·) #[]) },toks:=s.toks }) :=
 .of_wp fun prog w A R s h=>by
  obtain⟨hp,g,d,tk,os⟩:=s; obtain⟨hl,h⟩:=h
  have f1:=AutoSeq1.idx_int
  wp_walk using wpAny_loadPart' hl
  refine wpAny_ite_false (decide_eq_false hb1) ?_
  wp_walk using wpAny_loadPart' hl
  first | (refine wpAny_ite_false (decide_eq_false hc2) ?_; wp_walk using wpAny_loadPart' hl) | skip
  first | (refine wpAny_ite_false (decide_eq_false (Nat.not_lt.mpr hsz)) ?_; wp_walk using wpAny_loadPart' hl) | skip
  exact⟨_,rfl,h⟩
theorem vp (l:Addr) (items:Array Value) (n:Nat) (dd:Option Addr) (sl:Array (Option Value)) (x:Int) (u:Tok) (hb1:¬ (decide (x< -(2 ^ 63))||decide (x≥2 ^ 63))=true) (hc0:(items.isEmpty||x==1)=true) :
  Meets (Builtin.«tuple.__mul__» ⟨[.ref l,.int x u],[]⟩) (fun _ R s=>s.heap.get? l=some { cls:=.type "tuple",dict:=dd,data:=.seq items n,slots:=sl }/\R (.ok (.ret (Value.ref l))) { s with heap:=s.heap,toks:=s.toks }) :=
 .of_wp fun prog w A R s h=>by
  obtain⟨hp,g,d,tk,os⟩:=s; obtain⟨hl,h⟩:=h
  have f1:=AutoSeq1.idx_int
  wp_walk using wpAny_loadPart' hl
  refine wpAny_ite_false (decide_eq_false hb1) ?_
  wp_walk using wpAny_loadPart' hl
  exact⟨_,rfl,h⟩
theorem vq (l:Addr) (items:Array Value) (n:Nat) (dd:Option Addr) (sl:Array (Option Value)) (x:Int) (u:Tok) (hb1:¬ (decide (x< -(2 ^ 63))||decide (x≥2 ^ 63))=true) (hc0:¬ (items.isEmpty||x==1)=true) (hc1:(decide (x<=0)||items.isEmpty)=true) :
  Meets (Builtin.«tuple.__mul__» ⟨[.ref l,.int x u],[]⟩) (fun _ R s=>s.heap.get? l=some { cls:=.type "tuple",dict:=dd,data:=.seq items n,slots:=sl }/\R (.ok (.ret (Value.ref s.heap.objs.size))) { s with heap:=s.heap.push { cls:=Value.type "tuple",data:=Data.seq #[] },toks:=s.toks }) :=
 .of_wp fun prog w A R s h=>by
  obtain⟨hp,g,d,tk,os⟩:=s; obtain⟨hl,h⟩:=h
  have f1:=AutoSeq1.idx_int
  wp_walk using wpAny_loadPart' hl
  refine wpAny_ite_false (decide_eq_false hb1) ?_
  wp_walk using wpAny_loadPart' hl
  exact⟨_,rfl,h⟩
theorem Zr:fillsNumberSlot (.type "tuple") "mul" =pure false :=
 fillsNumberSlot_seq (id:= "tuple.__mul__") (r:=some (.builtin "tuple.__rmul__")) F.slot_tuple_mul.lookup (by decide +kernel) F.slot_tuple_rmul.lookup (by decide +kernel)
theorem JC:seqRepeat? (.type "tuple")=pure (some (.builtin "tuple.__mul__")):=by
 unfold seqRepeat?
 rw[seqSlot_of (T:= "tuple") (name:= "__mul__") (id:= "tuple.__mul__") F.slot_tuple_mul.lookup (by decide +kernel),seqSlot_of (T:= "tuple") (name:= "__rmul__") (id:= "tuple.__rmul__") F.slot_tuple_rmul.lookup (by decide +kernel)]
 rfl
theorem Z2 (a:Int) (t:Tok) (l:Addr) (items:Array Value) (n:Nat) (dd:Option Addr) (sl:Array (Option Value)) :
  Meets (Builtin.«int.__rmul__» ⟨[.int a t,.ref l],[]⟩) (fun _ R s=>s.heap.get? l=some { cls:=.type "tuple",dict:=dd,data:=.seq items n,slots:=sl }/\R (.ok (.ret Value.notImplemented)) s) :=
 .of_wp fun prog w A R s h=>by obtain⟨hp,g,d,tk,os⟩:=s; obtain⟨hl,h⟩:=h; wp_walk using wpAny_loadPart' hl; exact⟨_,rfl,h⟩
end PySem
namespace L2
open PySem PySem.Spec PyProof.Rows
variable [Cs]
section
variable {X:Cx}
noncomputable def zev (K:PySem.W.Frag):R2:=fun x y H Q=>∃ l k xs,x=.ref l/\y=.int k/\SqT K H l xs/\ -(2 ^ 63)<=k/\k<2 ^ 63/\xs.length*k.toNat<=sizeLine /\
 ((xs= []∨k=1)->Q (.ref l) H)/\∀ p,H p=none->Q (.ref p) (upd H p (.tup (List.replicate k.toNat xs).flatten))
theorem zaB:OpR X (binaryOp .Mult) (zev X.K):=by
 intro pins s σ H x y v u Q I rx ry h
 obtain⟨l,k,xs,rfl,rfl,hH,h1,h2,hz,qs,q⟩:=h
 cases rx
 obtain⟨t,rfl⟩:=ry
 obtain⟨its,r,hit,hzz⟩:=I.tuple hH
 have hl:=r.length
 obtain⟨⟨cls,dd,data,sl⟩,ho,hc,n,hd⟩:=id hit
 simp only at hc hd
 subst hc hd
 have hb1:¬ (decide (k< -(2 ^ 63))||decide (k≥2 ^ 63))=true:=by
  simp only[Bool.or_eq_true,decide_eq_true_eq]; omega
 have hnew:List.foldl (fun x1 x2=>x1++x2) #[] (List.replicate k.toNat its.toArray)=(List.replicate k.toNat its).flatten.toArray:=by
  have:=J2 its k.toNat []
  rw[List.nil_append] at this
  exact this
 refine wpAny_binaryOp_repeat_ref (T:= "tuple") (U:= "int") (by decide) ⟨_,ho,rfl⟩ (fun s'=>typeIs_int s' k t) Zr F.fills_int_mul F.slot_int_rmul JC F.slot_int_index.lookup
  (call_meets F.slot_int_rmul (typeIs_int s k t) F.entry_int_rmul (F.args_int_rmul_2 _ _) (Z2 k t l its.toArray n dd sl) ⟨ho,rfl,⟨_,ho,rfl⟩,?_⟩)
 by_cases hc0:(its.toArray.isEmpty||k==1)=true
 ·refine call_meets F.slot_tuple_mul ⟨_,ho,rfl⟩ F.entry_tuple_mul (F.args_tuple_mul_2 _ _) (vp l its.toArray n dd sl k t hb1 hc0) ⟨ho,?_⟩
  refine⟨.ref l,H,I,rfl,qs ?_⟩
  simp only[Bool.or_eq_true,beq_iff_eq] at hc0
  rcases hc0 with z | z
  ·left
   have:its= []:=by simpa using z
   subst this
   exact List.eq_nil_of_length_eq_zero hl
  ·exact .inr z
 ·by_cases hc1:(decide (k<=0)||its.toArray.isEmpty)=true
  ·refine call_meets F.slot_tuple_mul ⟨_,ho,rfl⟩ F.entry_tuple_mul (F.args_tuple_mul_2 _ _) (vq l its.toArray n dd sl k t hb1 hc0 hc1) ⟨ho,?_⟩
   have e0:(List.replicate k.toNat xs).flatten= []:=by
    simp only[Bool.or_eq_true,decide_eq_true_eq] at hc1
    rcases hc1 with z | z
    ·rw[show k.toNat=0 by omega]; rfl
    ·exact absurd (by simp[z]) hc0
   refine⟨.ref s.heap.objs.size,_,I.laid (t':=s.toks) (o:=.tup []) (fun b u e=>Heap.get?_push_of_some _ e) (Nat.le_refl _) ?_,rfl,by have:=q _ (I.hok.fresh (Nat.le_refl _)); rw[e0] at this; exact this⟩
   exact⟨Nat.zero_le _,[],.nil,⟨_,Heap.get?_push_size _ rfl,rfl,_,rfl⟩⟩
  ·have hlen:its.length*k.toNat<=sizeLine:=by rw[<- hl]; exact hz
   have hk0:0<k:=by
    simp only[Bool.or_eq_true,decide_eq_true_eq] at hc1; omega
   have hm:((its.toArray.size:Int)*k)=((its.length*k.toNat:Nat):Int):=by
    rw[List.size_toArray]
    have:k=(k.toNat:Int):=by omega
    rw[Int.natCast_mul,<- this]
   have hsl:(sizeLine:Nat)<=(2 ^ 63-1) / 8:=by decide
   have hc2:¬ (its.toArray.size:Int)*k>(2 ^ 63-1) / 8:=by
    rw[hm]
    have h63:((2 ^ 63-1) / 8:Int)=(((2 ^ 63-1) / 8:Nat):Int):=by decide
    rw[h63]
    intro z
    have:=Int.ofNat_lt.mp z
    omega
   have hc3:¬ Builtin.Tuple.tupleTooMany ((its.toArray.size:Int)*k)=true:=by
    unfold Builtin.Tuple.tupleTooMany
    rw[hm,decide_eq_true_eq]
    intro z
    have:=Int.ofNat_lt.mp z
    omega
   refine call_meets F.slot_tuple_mul ⟨_,ho,rfl⟩ F.entry_tuple_mul (F.args_tuple_mul_2 _ _) (vt l its.toArray n dd sl k t hb1 hc0 hc1 hc2 hc3 (by rw[hnew,List.size_toArray,VU,Nat.mul_comm]; exact hlen)) ⟨ho,?_⟩
   rw[hnew]
   refine⟨.ref s.heap.objs.size,_,I.laid (t':=s.toks) (o:=.tup (List.replicate k.toNat xs).flatten) (fun b u e=>Heap.get?_push_of_some _ e) (Nat.le_refl _) ?_,rfl,q _ (I.hok.fresh (Nat.le_refl _))⟩
   exact⟨by rw[VU,Nat.mul_comm]; exact hz,_,r.rep k.toNat,⟨_,Heap.get?_push_size _ rfl,rfl,_,rfl⟩⟩
theorem RepL.rep {M:Addr->Prop}{H:Hp}{vs:List V}{ds:List PyData}(h:RepL M H vs ds):∀ k:Nat,RepL M H (List.replicate k vs).flatten (List.replicate k ds).flatten
 | 0=>.nil
 | k+1=>by rw[List.replicate_succ,List.replicate_succ,List.flatten_cons,List.flatten_cons]; exact h.append (RepL.rep h k)
theorem Rep.tup_inv {M:Addr->Prop}{H:Hp}{v:V}{ds:List PyData}(r:Rep M H v (.tuple ds)):∃ a vs,v=.ref a/\H a=some (.tup vs)/\RepL M H vs ds:=by
 cases r with
 | tuple e q=>exact⟨_,_,rfl,e,q⟩
theorem Rep.lst_inv {M:Addr->Prop}{H:Hp}{v:V}{ds:List PyData}(r:Rep M H v (.list ds)):∃ a vs,v=.ref a/\H a=some (.lst vs)/\¬ M a/\RepL M H vs ds:=by
 cases r with
 | list e n q=>exact⟨_,_,rfl,e,n,q⟩
variable {Γ:Ge} {pos p p2:Pos} {a b c:Expr} {es:List Expr} {d d1 d2:PyData} {ds ds1 ds2:List PyData}
noncomputable def zc4 (K:PySem.W.Frag):R2:=fun x y H Q=>∃ a b xs ys,x=.ref a/\y=.ref b/\SqT K H a xs/\SqT K H b ys/\xs.length+ys.length<=sizeLine/\(xs= []->Q (.ref b) H)/\(ys= []->Q (.ref a) H)/\∀ p,H p=none->Q (.ref p) (upd H p (.tup (xs++ys)))
theorem kw:OpR X (binaryOp .Add) (zc4 X.K):=by
 intro pins s σ H x y v u Q I rx ry h
 obtain⟨a,b,xs,ys,rfl,rfl,ha,hb,hz,q0,q1,q⟩:=h
 cases rx
 cases ry
 obtain⟨its,r,hit,_⟩:=I.tuple ha
 obtain⟨its2,r2,hit2,_⟩:=I.tuple hb
 by_cases hv:its= []
 ·obtain⟨⟨cls,dd,data,sl⟩,ho,hc,n,hd⟩:=id hit
  obtain⟨⟨cls2,dd2,data2,sl2⟩,ho2,hc2,n2,hd2⟩:=id hit2
  simp only at hc hd hc2 hd2
  subst hc hd hc2 hd2
  refine concat_meets ⟨_,ho,rfl⟩ ⟨_,ho2,rfl⟩ noFill_tuple_add seq_tuple_add PySem.F.slot_tuple_add PySem.F.entry_tuple_add (PySem.F.args_tuple_add_2 _ _)
   (tuple_addW0 a b its.toArray its2.toArray n n2 dd dd2 sl sl2 (by simp[hv])) ⟨ho,ho2,⟨.ref b,H,I,rfl,q0 ?_⟩⟩
  exact r.nil_iff.mp hv
 ·refine HT.cat_tup hit hit2 hv (fun hw=>⟨.ref a,H,I,rfl,q1 (r2.nil_iff.mp hw)⟩) (fun _=>?_) (by rw[<- r.length,<- r2.length]; exact hz)
  refine⟨.ref s.heap.objs.size,_,I.laid (t':=s.toks) (o:=.tup (xs++ys)) (fun b u e=>Heap.get?_push_of_some _ e) (Nat.le_refl _) ?_,rfl,q _ (I.hok.fresh (Nat.le_refl _))⟩
  exact⟨by rw[List.length_append]; exact hz,_,r.append r2,⟨_,Heap.get?_push_size _ rfl,rfl,_,rfl⟩⟩
theorem wD {M:Addr->Prop}{H:Hp}{vs:List V}{ds:List PyData}{i:Int}{d:PyData}(r:RepL M H vs ds) (h:atI ds i=some d):∃ v,atI vs i=some v/\Rep M H v d:=by
 unfold atI at h |-
 rw[r.length]
 cases e:ixN ds.length i with
 | none=>rw[e] at h; cases h
 | some j=>
  rw[e] at h
  exact r.get' h
end
end L2
namespace L2
open PySem PySem.Spec PyProof.Rows
variable [Cs]
noncomputable def tyD:PyData->String
 | .none=> "NoneType"
 | .bool _=> "bool"
 | .int _=> "int"
 | .str _=> "str"
 | .list _=> "list"
 | .tuple _=> "tuple"
 | .dict _=> "dict"
theorem Rep.ty {K:PySem.W.Frag}{M:Addr->Prop}{H:Hp}{v:V}{d:PyData}(r:Rep M H v d) (hd:tyD d≠ "dict"):jV K H v (.type (tyD d)):=by
 cases r with
 | none=>exact .non
 | bool b=>exact .bl b
 | int i=>exact .int i
 | str x=>exact .str x
 | list e n q=>exact .lst e
 | tuple e q=>exact .tup e
 | dict _ _ _ _=>exact absurd rfl hd
 | inst _ _ _ _=>exact absurd rfl hd
section
variable {X:Cx}
theorem YG:qz X (.builtin "isinstance") (fun xs H Q=>∃ x T t k,xs= [x,.ty T]/\jV X.K H x t/\PySem.W.kitOne X.K t (.type T)=some k/\Q (.bl k) H):=by
 intro pins s σ H xs us Q I r h
 obtain⟨x,T,t,k,rfl,ty,e,q⟩:=h
 obtain⟨u,w',rfl,rx,rc⟩:=KM r
 cases (show w'=Value.type T from rc)
 exact yL I rx ty e fun tk=>⟨.bl k,H,I.tok tk,rfl,q⟩
variable {Γ:Ge} {pos p p2:Pos} {a b c:Expr} {es:List Expr} {d d1 d2:PyData} {ds ds1 ds2:List PyData}
theorem y0 (bs:List Bool):(List.range bs.length).all (fun i=>(bs[i]?).getD false)=bs.all id:=by
 have e:(List.range bs.length).map (fun i=>(bs[i]?).getD false)=bs:=by
  apply List.ext_getElem
  ·simp
  ·intro i h1 h2
   simp[h2]
 have h:=congrArg (fun l=>List.all l id) e
 rw[List.all_map] at h
 exact h
theorem y3 (bs:List Bool):(List.range bs.length).any (fun i=>(bs[i]?).getD false)=bs.any id:=by
 have e:(List.range bs.length).map (fun i=>(bs[i]?).getD false)=bs:=by
  apply List.ext_getElem
  ·simp
  ·intro i h1 h2
   simp[h2]
 have h:=congrArg (fun l=>List.any l id) e
 rw[List.any_map] at h
 exact h
theorem yh {bs:List Bool}{its:List Value}(rv:Vals (bs.map V.bl) its){i:Nat}{v:Value}(e:its[i]?=some v):∃ b,bs[i]?=some b/\v=.bool b:=by
 have hi:i<its.length:=(List.getElem?_eq_some_iff.mp e).1
 have hl:=rv.length
 rw[List.length_map] at hl
 have hb:i<bs.length:=by omega
 obtain⟨u,hu,ru⟩:=rv.get (i:=i) (x:=V.bl bs[i]) (by simp[hb])
 rw[e] at hu; cases hu
 exact⟨bs[i],by simp[hb],ru⟩
theorem yz (hc:X.calm=true):qz X (.builtin "all") (fun xs H Q=>∃ (p:Addr) (bs:List Bool),xs= [.ref p]/\SqL X.K H p (bs.map V.bl)/\Q (.bl (bs.all id)) H):=by
 intro pins s σ H xs us Q I r h
 obtain⟨p,bs,rfl,hq,q⟩:=h
 obtain⟨u,rfl,rx⟩:=jE r
 cases rx
 obtain⟨its,rv,pl,hz⟩:=I.list hq
 have hne:p≠s.heap.objs.size:=by
  obtain⟨o,n,e,_⟩:=pl
  exact Nat.ne_of_lt (Heap.lt_size e)
 have hl:=rv.length
 rw[List.length_map] at hl
 refine call_all_walk (wpAny_pyIter_list pl.isList ⟨s.heap.objs.size,_,_,_,_,_,fun i=>(bs[i]?).getD false,rfl,Walks.list (A:=X.A.in1) (show X.A.in1.handled=none from I.ok.hd hc) s.heap.objs.size p hne its.toArray,
  ⟨⟨_,Heap.get?_push_size _ rfl,rfl,rfl⟩,pl.isList.at fun o e=>Heap.get?_push_of_some _ e⟩,fun i v s' Q' E' hP hQ=>?_,fun h' tk hk=>?_⟩)
 ·obtain⟨b,hb,rfl⟩:=yh rv (by simpa using hP)
  dsimp only at hQ; rw[hb] at hQ
  exact wpAny_truthy_bool hQ
 ·rw[List.size_toArray,<- hl,y0]
  refine⟨.bl _,H,I.kept (t':=tk) fun b o e=>hk b o ?_ (Heap.get?_push_of_some _ e),rfl,q⟩
  intro z
  rw[List.mem_singleton] at z
  exact absurd (Heap.lt_size e) (by rw[z]; exact Nat.lt_irrefl _)
theorem yA (hc:X.calm=true):qz X (.builtin "any") (fun xs H Q=>∃ (p:Addr) (bs:List Bool),xs= [.ref p]/\SqL X.K H p (bs.map V.bl)/\Q (.bl (bs.any id)) H):=by
 intro pins s σ H xs us Q I r h
 obtain⟨p,bs,rfl,hq,q⟩:=h
 obtain⟨u,rfl,rx⟩:=jE r
 cases rx
 obtain⟨its,rv,pl,hz⟩:=I.list hq
 have hne:p≠s.heap.objs.size:=by
  obtain⟨o,n,e,_⟩:=pl
  exact Nat.ne_of_lt (Heap.lt_size e)
 have hl:=rv.length
 rw[List.length_map] at hl
 refine call_any_walk (wpAny_pyIter_list pl.isList ⟨s.heap.objs.size,_,_,_,_,_,fun i=>(bs[i]?).getD false,rfl,Walks.list (A:=X.A.in1) (show X.A.in1.handled=none from I.ok.hd hc) s.heap.objs.size p hne its.toArray,
  ⟨⟨_,Heap.get?_push_size _ rfl,rfl,rfl⟩,pl.isList.at fun o e=>Heap.get?_push_of_some _ e⟩,fun i v s' Q' E' hP hQ=>?_,fun h' tk hk=>?_⟩)
 ·obtain⟨b,hb,rfl⟩:=yh rv (by simpa using hP)
  dsimp only at hQ; rw[hb] at hQ
  exact wpAny_truthy_bool hQ
 ·rw[List.size_toArray,<- hl,y3]
  refine⟨.bl _,H,I.kept (t':=tk) fun b o e=>hk b o ?_ (Heap.get?_push_of_some _ e),rfl,q⟩
  intro z
  rw[List.mem_singleton] at z
  exact absurd (Heap.lt_size e) (by rw[z]; exact Nat.lt_irrefl _)
theorem RepL.bls {M:Addr->Prop}{H:Hp}:∀ {vs:List V}{bs:List Bool},RepL M H vs (bs.map PyData.bool)->vs=bs.map V.bl
 | _,[],.nil=>rfl
 | _,b::bs,.cons q t=>by cases q; rw[List.map_cons,<- RepL.bls t]
theorem yp:bootBuiltins "all" =some (.builtin "all"):=by decide +kernel
theorem yq:bootBuiltins "any" =some (.builtin "any"):=by decide +kernel
theorem jK:bootBuiltins "list" =some (.type "list"):=by decide +kernel
theorem ZS:bootBuiltins "tuple" =some (.type "tuple"):=by decide +kernel
theorem JQ:bootBuiltins "int" =some (.type "int"):=by decide +kernel
theorem vK:bootBuiltins "bool" =some (.type "bool"):=by decide +kernel
theorem boot_setW:bootBuiltins "set" =some (.type "set"):=by decide +kernel
end
section
variable {X:Cx} {Γ:Ge} {tg iter a b:Expr} {ds:List PyData} {p pos:Pos}
noncomputable def zQ (n:Nat):List PyData:=(List.range n).map fun (i:Nat)=>PyData.int (i:Int)
theorem zB (n:Nat):(zQ n).length=n:=by simp[zQ]
theorem jT {n i:Nat}{d:PyData}(h:(zQ n)[i]?=some d):i<n/\d=.int (i:Int):=by
 unfold zQ at h
 rw[List.getElem?_map] at h
 have hi:i<n:=by
  cases e:(List.range n)[i]? with
  | none=>rw[e] at h; cases h
  | some j=>simpa using (List.getElem?_eq_some_iff.mp e).1
 rw[List.getElem?_range hi] at h
 exact⟨hi,(Option.some.inj h).symm⟩
end
noncomputable def zdL (X:Cx) (ts:List Expr):TGs:=fun vs σ H Q=>∀ (pins:List (Addr×Obj)) (s:Shared) (us:List Value),Inv X pins σ H s->Vals vs us ->
  wpAny (model X.prog X.w) X.A (assignInOrder ((assignEach ts X.env).map (·.2)) us) (fun _ s'=>∃ σ' H',Inv X pins σ' H' s'/\Q σ' H') X.xe s
theorem Jg {X:Cx}{ts:List Expr}:PGs X ts (zdL X ts):=fun pins s σ H vs us Q I r h=>h pins s us I r
theorem PGs.wp {X:Cx}{ts:List Expr}{t:TGs}{vs:List V}{σ:St}{H:Hp}{Q:St->Hp->Prop}(h:PGs X ts t) (q:t vs σ H Q):zdL X ts vs σ H Q:=fun pins s us I r=>h pins s σ H vs us Q I r q
section
variable {X:Cx} {k:Nat} {Γ Γ1 Γ2:Ge} {tg:Expr} {ts:List Expr} {d:PyData} {ds:List PyData} {pos:Pos}
end
theorem zcd {k:Nat}{ix:List Nat}{σ:St}{j i0:Nat}{v:V}(q:ix[j]?=some i0) (h:σ[i0]?=some (some v)):(cS k ix σ)[k+j]?=some (some v):=by
 unfold cS
 rw[List.getElem?_append_right (by simp),List.length_replicate,Nat.add_sub_cancel_left,List.getElem?_map,q]
 simp[h]
section
variable {X:Cx} {elt tg iter:Expr} {ifs:List Expr} {scope:Scope} {pos:Pos} {N':List Str} {k:Nat} {ix:List Nat} {Γ:Ge} {ds:List PyData} {M:Addr->Prop} {σ:St} {H:Hp} {Q:VK}
noncomputable def gU (X:Cx) (N':List Str) (scope:Scope) (tg:Expr) (σ0:St):TG:=fun v σ H Q=>∀ cl C s2 H2 fp,Cat X σ0 C s2 H2 fp->wpG (X.comp N' scope cl C s2 H2 fp) tg v σ H Q
noncomputable def fU (X:Cx) (N':List Str) (scope:Scope) (ifs:List Expr) (σ0:St):TT:=fun σ H Q=>∀ cl C s2 H2 fp,Cat X σ0 C s2 H2 fp->wpF (X.comp N' scope cl C s2 H2 fp) ifs σ H Q
noncomputable def eU (X:Cx) (N':List Str) (scope:Scope) (elt:Expr) (σ0:St):TE:=fun σ H Q=>∀ cl C s2 H2 fp,Cat X σ0 C s2 H2 fp->wpE (X.comp N' scope cl C s2 H2 fp) elt σ H Q
theorem kF (hcalm:X.calm=true) (S:CSc X.env.scope X.N scope N' k ix) (hf:∀ x,foldedSetIterable iter X.env x=pure x:=by intro _; rfl) :
    PE X (.ListComp elt [⟨tg,iter,ifs,0⟩] scope pos) (wj k ix (wpI X tg iter) (gU X N' scope tg) (fU X N' scope ifs) (eU X N' scope elt)) :=
  zaF hcalm S Zt (fun _ cl C s2 H2 fp c pins s σ H v u Q I r h=>h cl C s2 H2 fp c pins s u I r) (fun _ cl C s2 H2 fp c pins s σ H Q I h=>h cl C s2 H2 fp c pins s I)
    (fun _ cl C s2 H2 fp c pins s σ H Q I h=>h cl C s2 H2 fp c pins s I) hf
theorem zaL {i:Nat}{x:Str}{pos' spos:Pos}(hN:X.N.Nodup) (hi':X.N[i]?=some x) (hx:Loc X.env.scope x) (hcalm:X.calm=true) (S:CSc X.env.scope X.N scope N' k ix)
  (hsw:swapsWith (.ListComp elt [⟨tg,iter,ifs,0⟩] scope pos) (some (.Name x pos')) spos.line X.env=pure true) (hs:∀ x,foldedSetIterable iter X.env x=pure x:=by intro _; rfl)
  (hf:X.fn x=true∨X.env.scope.names.lookup x=some .local:=by first | exact .inl rfl | exact .inr rfl | assumption) :
  PS X (.Assign [.Name x pos'] (.ListComp elt [⟨tg,iter,ifs,0⟩] scope pos) spos) (Wc (wj k ix (wpI X tg iter) (gU X N' scope tg) (fU X N' scope ifs) (eU X N' scope elt)) (Q6 i)) :=
 zaK hN hi' hx hcalm S Zt (fun _ cl C s2 H2 fp c pins s σ H v u Q I r h=>h cl C s2 H2 fp c pins s u I r) (fun _ cl C s2 H2 fp c pins s σ H Q I h=>h cl C s2 H2 fp c pins s I)
  (fun _ cl C s2 H2 fp c pins s σ H Q I h=>h cl C s2 H2 fp c pins s I) hsw hs hf
end
inductive Out where
 | next (Γ:Ge)
 | ret (d:PyData)
 | new (ds:List PyData)
section
variable {X:Cx} {Γ Γ1:Ge} {st:Stmt} {sts body els:List Stmt} {o:Out} {d:PyData} {e c tg:Expr} {pos:Pos}
end
structure Kn (P:Program) (w:World) (K:PySem.W.Frag) (mg:Str->Option Value) (base:Heap) (CX:CXT) (x:Str) (k:Nat) (sp:Sp):Prop where
 ex:∃ (f:Addr) (fd:FuncData) (ps:List Str),FnOk P w K mg base CX k f fd ps sp/\mg x=some (.ref f)/\PySem.W.keepIn K (.ref f)=true/\Binds K fd ps []
section
variable {X:Cx} {Γ:Ge} {x:Str} {k:Nat} {CX:CXT} {E:XK} {n:Nat} {pre:List PyData->Prop} {e:Expr} {es:List Expr} {ds:List PyData} {p pos:Pos}
theorem zby {sp:Sp}{σ:St}{H:Hp}{Q:VK}(kn:Kn X.prog X.w X.K X.mg X.base CX x k sp) (hr:Room k X.A) (hg:Gl X x) (hx:wx CX X E) (h:wpA X (e::es) σ H fun vs H1=>sp vs H1 Q E) (hdb:(x==("__debug__" :Str))=false:=by decide)
    (he:starEach (e::es) X.env=(false,eval e X.env)::starEach es X.env:=by rfl) (hpl:(backTo pos (starEach es X.env)).any (·.1)=false:=by rfl):wpE X (.Call (.Name x p) (e::es) [] pos) σ H Q:=by
  obtain⟨f,fd,ps,F,hm,hk,hb⟩:=kn.ex
  refine (zaD F hr hg hm hk hb .nil hx qG hdb he hpl).wp (h.mono fun vs H1 q=>?_)
  show sp (vs++ []) H1 Q E
  rw[List.append_nil]; exact q
end
theorem Wb {N:List Str}{vs:List V}(h:vs.length<=N.length):(start N vs).length=N.length:=by
 unfold start; simp; omega
structure Df (K:PySem.W.Frag) (mg:Str->Option Value) (x:Str) (st:Stmt) (ps:List Str):Prop where
 ex:∃ f fd,Fun K x x st f fd/\mg x=some (.ref f)/\Binds K fd ps []
section
variable {P:Program} {w:World} {K:PySem.W.Frag} {mg:Str->Option Value} {base:Heap} {x:Str} {st:Stmt} {N ps:List Str} {k:Nat}
theorem Df.kn {sp:Sp}(D:Df K mg x st ps) (S:qA N ps (defScope st)) (len:∀ vs H Q E,sp vs H Q E->vs.length=ps.length)
  (hbody:∀ (f:Addr) (cdv:Value) (A:Around) (outer:List Env) (s:Shared) (H:Hp) (vs:List V) (Q:VK) (E:XK),Room k (A.deeper (envOfC x (defScope st) s.heap.objs.size f cdv))->sp vs H Q E ->
   wpB (jM CX0 P w K mg base N x (defScope st) f cdv A outer s H E).nox (defBody st) { nx:=fun _ H'=>Q .non H',rt:=Q } (start N vs) H):Kn P w K mg base CX0 x (k+1) sp:=by
 obtain⟨f,fd,F,hm,hb⟩:=D.ex
 exact⟨f,fd,ps,F.ok S len (fun cdv A outer s H vs Q E hr h=>⟨_,qm,hbody f cdv A outer s H vs Q E hr h⟩),hm,F.kp,hb⟩
end
section
variable {X:Cx} {M:Addr->Prop} {Γ Γ1:Ge} {σ:St} {H:Hp} {D:qy} {st:Stmt} {sts body els:List Stmt} {o:Out} {d:PyData} {e c tg:Expr} {pos pos':Pos} {x:Str}
theorem zeR (i:Nat){Q:VK}(hN:X.N.Nodup) (h:wpE X e σ H Q) (k:∀ v H',Q v H'->wpB X sts D (σ.set i (some v)) H') (hi:X.N[i]?=some x:=by rfl) (hx:Loc X.env.scope x:=by first | exact Or.inl rfl | exact Or.inr rfl) (hs:swapsWith e (some (.Name x pos')) pos.line X.env=pure false:=by rfl)
    (hf:X.fn x=true∨X.env.scope.names.lookup x=some .local:=by first | exact .inl rfl | exact .inr rfl | assumption):wpB X (.Assign [.Name x pos'] e pos::sts) D σ H :=
  (Zu (w4 hN hi hx zf hs hf) qm).wp (h.mono k)
end
section
variable {X:Cx} {M:Addr->Prop} {Γ Γ1:Ge} {σ:St} {H:Hp} {D:qy} {sts:List Stmt} {e:Expr} {ds:List PyData} {d:PyData} {pos pos':Pos} {x:Str}
end
mutual
/-- no list within -/
noncomputable def noL:PyData->Bool
 | .list _=>false
 | .tuple ds=>zav ds
 | .dict _=>false
 | _=>true
noncomputable def zav:List PyData->Bool
 | []=>true
 | d::ds=>noL d&&zav ds
end
mutual
theorem Rep.free {M M':Addr->Prop}{H:Hp}:∀ {v:V}{d:PyData},noL d=true->Rep M H v d->Rep M' H v d
 | _,_,_,.none=>.none
 | _,_,_,.bool b=>.bool b
 | _,_,_,.int i=>.int i
 | _,_,_,.str x=>.str x
 | _,_,h,.list e n r=>by simp[noL] at h
 | _,_,h,.tuple e r=>.tuple e (RepL.free (by simpa [noL] using h) r)
 | _,_,h,.dict e n k r=>by cases h
 | _,_,h,.inst e n k r=>by cases h
theorem RepL.free {M M':Addr->Prop}{H:Hp}:∀ {vs:List V}{ds:List PyData},zav ds=true->RepL M H vs ds->RepL M' H vs ds
 | _,_,_,.nil=>.nil
 | _,_,h,.cons r t=>by
  rw[zav,Bool.and_eq_true] at h
  exact .cons (Rep.free h.1 r) (RepL.free h.2 t)
end
section
variable {X:Cx} {M:Addr->Prop} {Γ Γ1:Ge} {σ:St} {H:Hp} {D:qy} {sts:List Stmt} {e:Expr} {ds:List PyData} {d:PyData} {pos pos' p2 p3:Pos} {x:Str} {l:Addr} {vs:List V}
end
theorem Df.of {K:PySem.W.Frag}{mg:Str->Option Value}{h:Heap}{x:Str}{st:Stmt}{ps:List Str}{f:Addr}{oc:Value}{od an:Option Addr}{sl:Array (Option Value)}{kV dc pm cd ct:Value}(X:K.In h) (G:h.Ns mainGlobals mg)
  (a:PySem.W.nsIn K mainGlobals x=some (some (.ref f))) (l:K.lookup f=some ⟨oc,od,.func (PySem.W.fnOf x x (zT st) (defBody st) (defScope st) .none kV dc pm an cd ct),sl⟩) (c:PySem.W.codeIn K cd x=true) (k:PySem.W.keepIn K (.ref f)=true)
  (hb:∀ (kV doc pm:Value) (an:Option Addr) (cdv ct:Value) (us:List Value),us.length=ps.length->bindArgs (PySem.W.fnOf x x (zT st) (defBody st) (defScope st) .none kV doc pm an cdv ct) ⟨us,[]⟩=pure (ps.zip us)):Df K mg x st ps :=
 ⟨f,_,jP (st:=st) l c k,PySem.W.mg_of X G a,(jP (st:=st) l c k).binds hb⟩
structure Dl (K:PySem.W.Frag) (x:Str) (st:Stmt) (fa:Addr) (p:Str):Prop where
 ex:∃ fd:FuncData,Fun K x x st fa fd/\∀ (s:Shared) (u:Value),BindsTo s fd ⟨[u],[]⟩ [(p,u)]
theorem Dl.of {K:PySem.W.Frag}{mg:Str->Option Value}{h:Heap}{x p:Str}{st:Stmt}{f fa:Addr}{oc:Value}{od an:Option Addr}{sl:Array (Option Value)}{kV dc pm cd ct:Value}(X:K.In h) (G:h.Ns mainGlobals mg) (hfa:mg x=some (.ref fa))
  (a:PySem.W.nsIn K mainGlobals x=some (some (.ref f))) (l:K.lookup f=some ⟨oc,od,.func (PySem.W.fnOf x x (zT st) (defBody st) (defScope st) .none kV dc pm an cd ct),sl⟩) (c:PySem.W.codeIn K cd x=true) (k:PySem.W.keepIn K (.ref f)=true)
  (hb:∀ (s:Shared) (u:Value),BindsTo s (PySem.W.fnOf x x (zT st) (defBody st) (defScope st) .none kV dc pm an cd ct) ⟨[u],[]⟩ [(p,u)]):Dl K x st fa p:=by
 have e:=hfa.symm.trans (PySem.W.mg_of X G a)
 cases e
 exact⟨_,jP (st:=st) l c k,hb⟩
noncomputable def V8 (K:PySem.W.Frag):Sp:=fun vs H Q _=>∃ (a:Addr) (ns:List Int),vs= [.ref a]/\SqL K H a (ns.map V.int)/\ns.length<=63/\∀ H',Q (.bl true) H'
theorem Fun.law {P:Program}{w:World}{K:PySem.W.Frag}{mg:Str->Option Value}{base:Heap}{x p:Str}{st:Stmt}{N:List Str}{k:Nat}{f:Addr}{fd:FuncData}(F:Fun K x x st f fd) (S:qA N [p] (defScope st))
  (hbody:∀ (cdv:Value) (A:Around) (outer:List Env) (s:Shared) (H:Hp) (Q:VK) (E:XK) (a:Addr) (ns:List Int),Room k (A.deeper (envOfC x (defScope st) s.heap.objs.size f cdv))->SqL K H a (ns.map V.int)->ns.length<=63->(∀ H',Q (.bl true) H') ->
   wpB (jM CX0 P w K mg base N x (defScope st) f cdv A outer s H E).nox (defBody st) { nx:=fun _ H'=>Q .non H',rt:=Q } (start N [.ref a]) H):FnOk P w K mg base CX0 (k+1) f fd [p] (V8 K) :=
 F.ok S (fun vs H Q E ⟨a,ns,e,_⟩=>by rw[e]; rfl) fun cdv A outer s H vs Q E hr ⟨a,ns,e,hS,hlen,kk⟩=>⟨_,qm,by subst e; exact hbody cdv A outer s H Q E a ns hr hS hlen kk⟩
theorem walkL {l:PySem.W.OpenLaw}{q:Program}{loose:List Str}{XP:(Str->Option Value)->Heap->Prop}{YP:World->Heap->Prop}{d:DefRec}{K:Params->PySem.W.Frag}{k:Nat}{st:Stmt}(hn:l.most=some 63) (hdf:d.params.defaults= []) (hk:Room k callerA)
  (hY:∀ (w:World) (h:Heap),YP w h->(K w.params).In h)
  (F:∀ (w:World) (mg:Str->Option Value) (fa:Addr) (h:Heap),(K w.params).In h->h.Ns mainGlobals mg->mg d.name=some (.ref fa) ->
   Dl (K w.params) "law" st fa "_law_script" /\∀ (fd:FuncData),Fun (K w.params) "law" "law" st fa fd->∀ base:Heap,FnOk l.prog w (K w.params) mg base CX0 k fa fd ["_law_script"] (V8 (K w.params))) :
  PySem.W.WalkO q loose XP YP l.row.toRowW d [] (fun f vs=>PySem.call f vs) :=
 L2.walk_of (n:=63) (k:=k) (x:= "_law_script") (CX:=fun _=>CX0) (sp:=fun w=>V8 (K w.params)) hn (by decide) hdf hk hY (fun w mg fa h KX G hm=>by
  obtain⟨⟨fd,Ff,hb⟩,hF⟩:=F w mg fa h KX G hm
  exact⟨fd,hb,fun base _ _=>hF fd Ff base⟩) (fun _ _ a ns hl _ hS=>⟨a,ns,rfl,hS,hl,fun _=>rfl⟩) fun _ _ _ _ _ z=>z
end L2
namespace L2
open PySem PySem.Spec PyProof.Rows
variable [Cs]
noncomputable def CX1 (P:Program) (w:World):CXT:=fun outer H s E e s'=>∃ (ea:Addr) (c a0:Value) (B h0:Heap) (H':Hp),e=.ref ea/\s'.os=s.os/\AllBare s'.gens/\Heap.FlyingW B outer ea c a0 s'.heap/\h0.UpToSlots s'.heap /\
 (∀ h6,B.StaysIn h6->h0.UpToSlots h6->Un (frs outer) [] H H' s.heap h6/\HOk P w H' h6)/\E c none H'
section
variable {X:Cx} {pins:List (Addr×Obj)} {σ:St} {H:Hp} {s:Shared}
theorem Inv.flies (I:Inv X pins σ H s) (hx:X.ex= []) (hst:X.stack=X.env::X.outer) (hf:X.env.frame=some X.env.locals){h6:Heap}
  (k1:(PySem.W.hideAll s.heap (frs X.stack)).StaysIn h6) (k2:s.heap.UpToSlots h6):Un (frs X.outer) [] X.H₀ H X.s₀.heap h6/\HOk X.prog X.w H h6:=by
 have nex:∀ b,b∉X.ex:=fun b z=>by rw[hx] at z; cases z
 have kk:∀ b o,s.heap.get? b=some o->b∉frs X.stack->h6.get? b=some o:=fun b o e n=>k1 b o (PySem.W.hideAll_get _ e n)
 have fr:∀ b,b∈frs X.stack->∀ o,s.heap.get? b=some o->∃ sl,h6.get? b=some { o with slots:=sl }:=fun b hb o e=>by
  obtain⟨_,o',e',hn⟩:=I.stack.mem hb
  rw[e] at e'
  cases e'
  exact k2 b o e hn
 have hsub:∀ b,b∈frs X.outer->b∈frs X.stack:=fun b hb=>by
  rw[hst]
  unfold frs at hb |-
  rw[List.filterMap_cons,hf]
  exact List.mem_cons_of_mem _ hb
 have hsup:∀ b,b∈frs X.stack->b=X.env.locals∨b∈frs X.outer:=fun b hb=>by
  rw[hst] at hb
  unfold frs at hb |-
  rw[List.filterMap_cons,hf] at hb
  exact List.mem_cons.mp hb
 have hL:∀ b o,X.s₀.heap.get? b=some o->b≠X.env.locals:=fun b o e z=>by
  have h1:=Heap.lt_size e
  have h2:=I.ok.above
  rw[z] at h1
  exact absurd (Nat.lt_of_lt_of_le h1 h2) (Nat.lt_irrefl _)
 refine⟨⟨fun b o e n hb _=>?_,fun b o e n hb _=>?_,fun b o e n _=>I.base.free b o e n (nex b),fun b o e _=>?_,I.base.tups,I.base.frzs,I.base.tbls⟩,fun a o e=>?_⟩
 ·refine kk b o (I.base.keep b o e n hb (nex b)) fun z=>?_
  rcases hsup b z with z | z
  ·exact hL b o e z
  ·exact hb z
 ·obtain⟨sl,e1⟩:=I.base.slot b o e n hb (nex b)
  obtain⟨sl2,e2⟩:=fr b (hsub b hb) _ e1
  exact⟨sl2,e2⟩
 ·obtain⟨o1,e1⟩:=I.base.there b o e (nex b)
  by_cases hb:b∈frs X.stack
  ·obtain⟨sl,e2⟩:=fr b hb _ e1
   exact⟨_,e2⟩
  ·exact⟨o1,kk b o1 e1 hb⟩
 ·refine (I.hok a o e).stay (fun b u hb q=>kk b u q fun z=>?_) (fun _ q=>q) fun _ _ q=>q
  have hn:=I.stkFree b z
  rcases hb with hb | hb
  ·subst hb; rw[e] at hn; cases hn
  ·rw[hb] at hn; cases hn
theorem W0 (I:Inv X pins σ H s) (hx:X.ex= []) (hst:X.stack=X.env::X.outer) (hf:X.env.frame=some X.env.locals){h':Heap}{ea:Addr}{c:Value}{args:List Value}
  (hm:Heap.MadeExcOf s.heap h' ea c args) {E:XK} (q:E c none H) {E':Value->Shared->Prop} :
  wpAny (model X.prog X.w) X.A (leaving X.env (.ref ea)) (fun _ s''=>CX1 X.prog X.w X.outer X.H₀ X.s₀ E (.ref ea) s'') E' { s with heap:=h' }:=by
 have hfr:X.A.frames=some (X.env::X.outer):=by rw[<- hst]; exact I.ok.frames
 have hst':=I.stack
 rw[hst] at hst'
 refine wpAny_leaves_madeW (base:=PySem.W.hideAll s.heap (frs X.stack)) (h:=s.heap) hfr hf (fun b o e=>PySem.W.of_hideAll _ e) (PySem.W.funFrames_hide hst' fun env he a ha=>?_) hm fun h'' t f1 f2 f3 f4=>?_
 ·rw[hst]; exact List.mem_filterMap.mpr ⟨env,he,ha⟩
 ·exact⟨ea,c,.ref t,_,s.heap,H,rfl,I.os,I.bare,f1,(Heap.UpToSlots.of_keeps hm.keeps).trans f4,fun h6 k1 k2=>I.flies hx hst hf k1 k2,q⟩
end
theorem zc0 (h g:Heap) (a:Addr) (o:Obj) (hg:g.get? a=some o):∃ h':Heap,h'.get? a=some o/\∀ b,b≠a->h'.get? b=h.get? b:=by
 have ho:∀ (x y:_) (z:_),o≠⟨x,y,.freed,z⟩:=fun x y z e=>by
  subst e
  unfold Heap.get? at hg
  split at hg
  ·cases hg
  ·rename_i h1
   exact h1 _ _ _ hg
 refine⟨⟨Array.ofFn (n:=max h.objs.size (a+1)) fun i=>if i.val=a then o else (h.objs[i.val]?).getD ⟨.none,none,.freed,#[]⟩,{}⟩,?_,fun b hb=>?_⟩
 ·unfold Heap.get?
  rw[Array.getElem?_ofFn,dif_pos (by omega),if_pos rfl]
  obtain⟨x,y,d,z⟩:=o
  cases d <;> first | rfl | exact absurd rfl (ho _ _ _)
 ·unfold Heap.get?
  rw[Array.getElem?_ofFn]
  by_cases hl:b<max h.objs.size (a+1)
  ·rw[dif_pos hl,if_neg hb]
   cases h.objs[b]? <;> rfl
  ·rw[dif_neg hl,Array.getElem?_eq_none (Nat.le_trans (Nat.le_max_left _ _) (Nat.not_lt.mp hl))]
noncomputable def Z9 (B:Heap) (l:List Env) (ea:Addr) (c a0 fl:Value) (h:Heap):Prop:=B.StaysIn h/\B.get? ea=none/\h.FunFrames B l/\h.TracedAtW B ea c a0 fl
section
variable {M:Model} {A:Around} {E:Value->Shared->Prop} {s:Shared} {B:Heap} {l outer:List Env} {env:Env} {ea L:Addr} {c a0 fl:Value} {Q:Unit->Shared->Prop}
theorem V6 {fr:Option Addr}(h:Z9 B l ea c a0 fl s.heap) (k:∀ h',Z9 B l ea c a0 (fr.elim .none fun f=>rawInt f) h'->s.heap.UpToSlots h'->Q () { s with heap:=h' }):wpAny M A (setFlight (.ref ea) fr) Q E s:=by
 obtain⟨hkb,hen,hl,oe,vs,T,oT,ts,he,hcls,hd,h1,hnT,hTe,hT,hdT,h3⟩:=h
 have hsz3:3<ts.size:=(Array.getElem?_eq_some_iff.mp h3).1
 have other:∀ b,b≠T->(s.heap.update T (Obj.mapFields (·.setIfInBounds 3 (fr.elim Value.none fun f=>rawInt f)))).get? b=s.heap.get? b:=fun b hb=>Heap.get?_update_other _ _ (Ne.symm hb)
 have noR:∀ b o,s.heap.get? b=some o->(∀ vs,o.data≠ .fields vs)->b≠T:=fun b o hb hnf q=>by
  rw[q,hT] at hb; injection hb with hb; subst hb; exact hnf ts hdT
 unfold setFlight
 refine wpAny_bind (wpAny_field he hd h1 ?_)
 rw[if_pos (show (Value.ref T !=Value.none)=true from by simp)]
 refine wpAny_setField hT hdT hsz3 (k _ ⟨fun b o hbo=>(other b fun q=>by rw[q,hnT] at hbo; cases hbo).trans (hkb b o hbo),hen,
  hl.of_keeps fun b o hb hnf=>⟨o,(other b (noR b o hb hnf)).trans hb,rfl⟩,?_⟩ fun b o hb hnf=>⟨o.slots,(other b (noR b o hb hnf)).trans hb⟩)
 exact⟨oe,vs,T,_,_,(other ea (Ne.symm hTe)).trans he,hcls,hd,h1,hnT,hTe,Heap.get?_update_self _ hT (Obj.isFreed_of_fields (Obj.data_mapFields hdT _)),Obj.data_mapFields hdT _,by simp[hsz3]⟩
theorem W5 (hfr:A.frames=some (env::outer)) (hf:env.frame=some L) (h:Z9 B (env::outer) ea c a0 fl s.heap) (k:∀ h',Z9 B (env::outer) ea c a0 (rawInt L) h'->s.heap.UpToSlots h'->Q () { s with heap:=h' }):wpAny M A (noteFrame (.ref ea) env) Q E s:=by
 by_cases hq:fl=rawInt L
 ·subst hq
  exact wpAny_noteFrame_againW hf h.2.2.2 (k s.heap h (.refl _))
 ·obtain⟨hkb,hen,hl,oe,vs,T,oT,ts,he,⟨hcls,h0⟩,hd,h1,hnT,hTe,hT,hdT,h3⟩:=h
  subst hcls
  have other:∀ b,b≠T->(s.heap.update T (Obj.mapFields (·.setIfInBounds 3 Value.none))).get? b=s.heap.get? b:=fun b hb=>Heap.get?_update_other _ _ (Ne.symm hb)
  have noR:∀ b o,s.heap.get? b=some o->(∀ vs,o.data≠ .fields vs)->b≠T:=fun b o hb hnf q=>by
   rw[q,hT] at hb; injection hb with hb; subst hb; exact hnf ts hdT
  unfold noteFrame
  simp only[hf]
  refine wpAny_bind (wpAny_field he hd h1 ?_)
  rw[if_pos (show (Value.ref T !=Value.none)=true from by simp)]
  refine wpAny_bind (wpAny_field hT hdT h3 ?_)
  rw[if_neg (show ¬ ((fl==rawInt L)=true) from by simpa using hq)]
  refine wpAny_bind (wpAny_setField hT hdT (Array.getElem?_eq_some_iff.mp h3).1 ?_)
  refine wpAny_entryW hfr (hl.of_keeps fun b o hb hnf=>⟨o,(other b (noR b o hb hnf)).trans hb,rfl⟩) hf ((other ea (Ne.symm hTe)).trans he)
   (fun b o hbo=>(other b fun q=>by rw[q,hnT] at hbo; cases hbo).trans (hkb b o hbo)) hen hd (Array.getElem?_eq_some_iff.mp h1).1 h0
   fun h' ⟨x1,x2,x3,x4⟩=>k h' ⟨x1,hen,x2,x3⟩ fun b o hb hnf=>x4 b o ((other b (noR b o hb hnf)).trans hb) hnf
theorem ku {x:Value}{env':Env}(h:env.frame=env'.frame):noteFrame x env=noteFrame x env':=by
 unfold noteFrame PySem.frameOf
 rw[h]
theorem J3 {h h' B':Heap}(hB:∀ b,B.get? b=none->B'.get? b=none):∀ {l:List Env},h.FunFrames B l->(∀ b∈frs l,h'.get? b=h.get? b)->h'.FunFrames B' l
  | [],_,_=>trivial
  | env::r,⟨hk,⟨L,o,hf,hn,ho,hd⟩,hr⟩,k=>⟨hk,⟨L,o,hf,hB L hn,(k L (by unfold frs; rw[List.filterMap_cons,hf]; exact .head _)).trans ho,hd⟩,J3 hB hr fun b hb=>k b (by
      unfold frs at hb |-; rw[List.filterMap_cons,hf]; exact .tail _ hb)⟩
end
noncomputable def Up (X:Cx) (pins:List (Addr×Obj)) (σ:St) (H:Hp) (C:Addr) (e:Value) (s:Shared):Prop :=
 ∃ (ea:Addr) (a0 fl:Value) (B:Heap),e=.ref ea/\Z9 B X.stack ea (.ref C) a0 fl s.heap/\∀ h6,B.StaysIn h6->s.heap.UpToSlots h6->Inv X pins σ H { s with heap:=h6 }
noncomputable def Sk (X:Cx):Prop:=∃ env0 outer0 L,X.stack=env0::outer0/\env0.frame=some L/\X.env.frame=some L
section
variable {X:Cx} {pins:List (Addr×Obj)} {σ:St} {H:Hp} {s s':Shared} {C:Addr} {e:Value}
theorem Inv.up (I:Inv X pins σ H s){E:XK}(hc:CX1 X.prog X.w X.stack H s E e s'){G:Prop}(k:∀ c H',E c none H'->(∀ C,c=.ref C->Up X pins σ H' C e s')->G):G:=by
 obtain⟨ea,c,a0,B,h0,H',rfl,os,bare,hfl,up,hk,q⟩:=hc
 refine k c H' q fun C e=>?_
 subst e
 exact⟨ea,a0,.none,B,rfl,hfl,fun h6 k1 k2=>by
  obtain⟨un,hok⟩:=hk h6 k1 (up.trans k2)
  exact I.call' (s':={ s' with heap:=h6 }) os un hok bare fun b z=>nomatch z⟩
theorem Up.comp {N':List Str}{scope:Scope}{cl:List (Str×Addr)}{Cn:Addr}{s2:Shared}{H2:Hp}{fp:List Addr}{pins':List (Addr×Obj)}{σ':St}(sk:Sk X) (cat:Cat X σ Cn s2 H2 fp) (u:Up (X.comp N' scope cl Cn s2 H2 fp) pins' σ' H C e s)
  (k:∀ pins s',Up X pins σ H C e s'->X.xe e s'):(X.comp N' scope cl Cn s2 H2 fp).xe e s:=by
 obtain⟨ea,a0,fl,B,rfl,al,inv⟩:=u
 obtain⟨pins,I2,f2,hC⟩:=cat
 obtain⟨env0,outer0,L,hst,hf0,hfx⟩:=sk
 have hfr:X.A.frames=some (env0::outer0):=by rw[<- hst]; exact I2.ok.frames
 have al':Z9 B (env0::outer0) ea (.ref C) a0 fl s.heap:=by rw[<- hst]; exact al
 show wpAny (model X.prog X.w) X.A (noteFrame (.ref ea) (compEnvC scope cl Cn X.env)) (fun _ s''=>yj X Cn (.ref ea) s'') (yj X Cn) s
 rw[ku (env':=env0) (show (compEnvC scope cl Cn X.env).frame=env0.frame from hfx.trans hf0.symm)]
 refine W5 hfr hf0 al' fun h4 al4 up4=>?_
 obtain⟨g1,g2,g3,g4⟩:=al4
 have I4:=inv h4 g1 up4
 obtain⟨m,hn,_⟩:=I4.loc
 refine⟨m,hn,fun h' sb cenv _=>?_⟩
 obtain⟨oC,es,ep,hoC,hdC,_⟩:=id hn
 have hCf:∀ b o vs,h4.get? b=some o->o.data=.fields vs->b≠Cn:=fun b o vs e1 e2 z=>by
  subst z
  have e3:h4.get? b=some oC:=hoC
  rw[e1] at e3; cases e3
  rw[hdC] at e2; cases e2
 have hfrC:∀ b∈frs (env0::outer0),b≠Cn:=fun b hb z=>by
  rw[<- hst] at hb
  obtain⟨_,o,ho,_⟩:=I2.stack.mem hb
  rw[z] at ho
  exact absurd (Heap.lt_size ho) (Nat.not_lt.mpr hC)
 have hB':∀ b,B.get? b=none->(PySem.W.hideAll B [Cn]).get? b=none:=fun b e1=>by
  cases q:(PySem.W.hideAll B [Cn]).get? b with
  | none=>rfl
  | some o=>rw[PySem.W.of_hideAll _ q] at e1; cases e1
 have hBC:(PySem.W.hideAll B [Cn]).get? Cn=none:=PySem.W.hideAll_none _ (.head _)
 obtain⟨oe,vs,T,oT,ts,he,hcls,hd,h1,hnT,hTe,hT,hdT,h3⟩:=g4
 have he':h'.get? ea=some oe:=(sb.2 ea (hCf _ _ _ he hd)).trans he
 have hT':h'.get? T=some oT:=(sb.2 T (hCf _ _ _ hT hdT)).trans hT
 have al5:Z9 (PySem.W.hideAll B [Cn]) X.stack ea (.ref C) a0 (rawInt L) h':=by
  rw[hst]
  exact⟨fun b o e1=>(sb.2 b fun z=>by rw[z,hBC] at e1; cases e1).trans (g1 b o (PySem.W.of_hideAll _ e1)),hB' _ g2,J3 hB' g3 fun b hb=>sb.2 b (hfrC b hb),oe,vs,T,oT,ts,he',hcls,hd,h1,hB' _ hnT,hTe,hT',hdT,h3⟩
 unfold PySem.passOn
 refine wpAny_bind (wpAny_field he' hd h1 ?_)
 rw[if_neg (show ¬ ((Value.ref T==Value.none)=true) from by simp)]
 refine wpAny_bind (V6 (s:={ s with heap:=h' }) al5 fun h5 al6 up5=>wpAny_throw (k pins _ ⟨ea,a0,_,_,rfl,al6,fun h6 k1 k2=>?_⟩))
 obtain⟨h7,e7,k7⟩:=zc0 h6 h4 Cn oC hoC
 have I7:=inv h7 (fun b o e1=>by
  by_cases z:b=Cn
  ·subst z
   have e2:=g1 b o e1
   have e3:h4.get? b=some oC:=hoC
   rw[e3] at e2; cases e2; exact e7
  ·exact (k7 b z).trans (k1 b o (PySem.W.hideAll_get _ e1 (by simpa using z)))) fun b o e1 hnf=>by
  obtain⟨sl,e2⟩:=up4 b o e1 hnf
  by_cases z:b=Cn
  ·subst z
   have e3:h4.get? b=some oC:=hoC
   rw[e3] at e2; cases e2; exact⟨_,e7⟩
  ·obtain⟨sl2,e4⟩:=(up5.trans k2) b _ ((sb.2 b z).trans e2) hnf
   exact⟨sl2,(k7 b z).trans e4⟩
 exact I2.letgo (s5:={ s with heap:=h7 }) (I2.back f2 I7) hC I7.free fun b hb=>(k7 b hb).symm
end
noncomputable abbrev bmV:List Value:= [.type "ValueError",.type "Exception",.type "BaseException",.type "object"]
noncomputable def mroIn (K:PySem.W.Frag) (C:Addr):List Value:=match K.lookup C with
 | some ⟨_,_,.cls cd,_⟩=>cd.mro
 | _=> []
structure zdQ (X:Cx) (x:Str) (C:Addr):Prop where
 gl:Gl X x
 mg:X.mg x=some (.ref C)
 ex:PySem.W.excIn X.K C bmV "ValueError.__new__" =true
 d:(x==("__debug__" :Str))=false
section
variable {X:Cx} {x:Str} {C:Addr} {np cpos pos cp:Pos} {z:Str} {cj:Nat} {σ:St} {H:Hp} {D:qy}
end
end L2
namespace L2
open PySem PySem.Spec PyProof.Rows
variable [Cs]
section
variable {X:Cx} {pins:List (Addr×Obj)} {σ:St} {H:Hp} {s:Shared} {e:Value} {E:Value->Shared->Prop} {D:qy} {f:Flow}
end
inductive HC where
 | s (z:Str)
 | b (c:Bool)
noncomputable def HC.V:HC->L2.V
 | .s z=>.str z
 | .b c=>.bl c
noncomputable def HC.D:HC->PyData
 | .s z=>.str z
 | .b c=>.bool c
noncomputable def HC.C:HC->Const
 | .s z=>.str z
 | .b c=>.bool c
structure HdK (X:Cx) (hd:ExceptHandler) (C:Addr) (t:Nat) (v:HC):Prop where
 ex:∃ x np y py cj pc pa hp,hd=.ExceptHandler (some (.Name x np)) none [.Assign [.Name y py] (.Constant v.C cj pc) pa] hp/\zdQ X x C/\X.N[t]?=some y/\Loc X.env.scope y/\(X.fn y=true∨X.env.scope.names.lookup y=some .local)
inductive K1 (X:Cx):List ExceptHandler->List (Addr×Nat×HC)->Prop
 | nil:K1 X [] []
 | cons {hd:ExceptHandler} {hs:List ExceptHandler} {C:Addr} {t:Nat} {v:HC} {zs:List (Addr×Nat×HC)}:HdK X hd C t v->K1 X hs zs->K1 X (hd::hs) ((C,t,v)::zs)
section
variable {X:Cx} {pins:List (Addr×Obj)} {σ:St} {H:Hp} {s:Shared} {E:Value->Shared->Prop} {D:qy} {B:Heap} {ea C:Addr} {a0:Value}
end
end L2
namespace L2
open PySem PySem.Spec PyProof.Rows
variable [Cs]
section
variable {X:Cx} {pins:List (Addr×Obj)} {σ:St} {H:Hp} {s s':Shared} {D:qy} {e:Value} {C:Addr}
theorem KY {CX:CXT}{E:XK}{sp:Sp}{Q:VK}{x:Str}{k:Nat}{e:Expr}{es:List Expr}{p pos:Pos}(kn:Kn X.prog X.w X.K X.mg X.base CX x k sp) (hr:Room k X.A) (hg:Gl X x)
  (hx:∀ pins H s e s',Inv X pins σ H s->CX X.stack H s E e s'->X.xe e s') (h:wpA X (e::es) σ H fun vs H1=>sp vs H1 Q E) (hdb:(x==("__debug__" :Str))=false)
  (he:starEach (e::es) X.env=(false,eval e X.env)::starEach es X.env) (hpl:(backTo pos (starEach es X.env)).any (·.1)=false):wpE X (.Call (.Name x p) (e::es) [] pos) σ H Q:=fun pins s I=>by
 obtain⟨f,fd,ps,F,hm,hk,hb⟩:=kn.ex
 refine wpAny_Call_Name_kw (Z8 I hg hm ?_ hdb)
 refine PySem.W.callWith_K (h₀:=X.base) I.ok.mod.kin hk (thn (h pos pins s I) fun us s1 ⟨vs,H1,I1,r,q⟩=>⟨I1.kIn,?_⟩) he hpl
 have hl:us.length=ps.length:=by rw[<- r.length]; exact F.len _ _ _ _ q
 have hb':=hb s1 us I1.kIn (by simpa using hl)
 rw[List.append_nil] at hb'
 refine wpAny_call (codeAny_mono (F.run X.A X.stack s1 H1 ⟨us,[]⟩ us vs Q E hr I1.env0 hb' r q) fun r s' hq=>?_)
 cases r with
 | error e=>exact hx pins H1 s1 e s' I1 hq
 | ok fl=>
  cases fl with
  | ret u=>exact I1.after hq
  | next=>exact False.elim hq
  | brk=>exact False.elim hq
  | cont=>exact False.elim hq
theorem Yq {CX:CXT}{E:XK}{sp:Sp}{Q:VK}{x:Str}{k:Nat}{p pos:Pos}(kn:Kn X.prog X.w X.K X.mg X.base CX x k sp) (hr:Room k X.A) (hg:Gl X x)
  (hx:∀ pins H s e s',Inv X pins σ H s->CX X.stack H s E e s'->X.xe e s') (h:sp [] H Q E) (hdb:(x==("__debug__" :Str))=false):wpE X (.Call (.Name x p) [] [] pos) σ H Q:=fun pins s I=>by
 obtain⟨f,fd,ps,F,hm,hk,hb⟩:=kn.ex
 refine wpAny_Call_Name_kw (Z8 I hg hm ?_ hdb)
 refine PySem.W.callWith_K0 I.kIn hk ?_
 have hl:([]:List Value).length=ps.length:=F.len _ _ _ _ h
 have hb':=hb s [] I.kIn (by simpa using hl)
 rw[List.append_nil] at hb'
 refine wpAny_call (codeAny_mono (F.run X.A X.stack s H ⟨[],[]⟩ [] [] Q E hr I.env0 hb' .nil h) fun r s' hq=>?_)
 cases r with
 | error e=>exact hx pins H s e s' I hq
 | ok fl=>
  cases fl with
  | ret u=>exact I.after hq
  | next=>exact False.elim hq
  | brk=>exact False.elim hq
  | cont=>exact False.elim hq
end
section
variable {P:Program} {w:World} {K:PySem.W.Frag} {mg:Str->Option Value} {base:Heap} {x:Str} {st:Stmt} {N ps:List Str} {k:Nat}
end
end L2
namespace L2
open PySem PySem.Spec PyProof.Rows
variable [Cs]
section
variable {prog:Program} {w:World} {A:Around} {E:Value->Shared->Prop} {s:Shared}
end
section
variable {M:Model} {A:Around} {E:Value->Shared->Prop} {s:Shared}
end
section
variable {X:Cx}
noncomputable def zd9 (K:PySem.W.Frag) (n:Nat) (t:TGs):TG:=fun v σ H Q=>∃ a xs,v=.ref a/\SqL K H a xs/\xs.length=n/\t xs σ H Q
theorem zaH {es:List Expr}{k:Nat}{t:TGs}{n:Nat}{pos:Pos}(hc:X.calm=true) (h:PGs X es t) (hn:(assignEach es X.env).length=n) (hst:(assignEach es X.env).findIdx? (·.1)=none):PG X (.Tuple es k pos) (zd9 X.K n t):=by
 intro pins s σ H v u Q I r hw
 obtain⟨a,xs,e1,hq,hl,hw⟩:=hw
 subst e1
 cases r
 obtain⟨its,rv,pl,hz⟩:=I.list hq
 rw[assign_Tuple]
 refine wpAny_bind (wpAny_standAt ?_)
 unfold unpack
 have hsz:(assignEach es X.env).length=its.toArray.size:=by rw[hn,<- hl,rv.length,List.size_toArray]
 rw[hst,hsz]
 refine wpAny_bind (wpAny_holding (PySem.W.kun_itemsOf (I.ok.hd hc) pl.isList fun h' hx=>?_))
 have I1:Inv X pins σ H { s with heap:=h' }:=I.kept (t':=s.toks) fun b o e=>hx b o (Nat.ne_of_lt (Heap.lt_size e)) e
 exact h pins _ σ H xs _ Q I1 (by simpa using rv) hw
end
end L2
namespace L3
open PySem PySem.Spec PyProof.Rows L2
inductive OV where
 | d (x:PyData)
 | l (xs:List OV)
 | t (xs:List OV)
 | m (kvs:List (Str×PyData))
 | o (c:Str) (ns:List Str) (xs:List OV)
noncomputable abbrev Gv:=List (Option OV)
mutual
noncomputable def OV.view:OV->PyData
 | .d x=>x
 | .l xs=>.list (OV.views xs)
 | .t xs=>.tuple (OV.views xs)
 | .m kvs=>.dict (kvs.map dK)
 | .o c ns xs=>.dict ((.none,.str c)::(ns.zip (OV.views xs)).map dK)
noncomputable def OV.views:List OV->List PyData
 | []=> []
 | x::xs=>x.view::OV.views xs
end
theorem OV.views_d (xs:List PyData):OV.views (xs.map .d)=xs:=by
 induction xs with
 | nil=>rfl
 | cons x xs ih=>simp[OV.views,OV.view,ih]
theorem OV.views_map (xs:List OV):OV.views xs=xs.map OV.view:=by
 induction xs with
 | nil=>rfl
 | cons x xs ih=>simp[OV.views,ih]
variable [Cs]
mutual
/-- v stands for the value; its own lists lie at A -/
inductive OR (M:Addr->Prop) (H:Hp):V->OV->List Addr->Prop
 | d {v:V} {x:PyData}:Rep M H v x->OR M H v (.d x) []
 | l {a:Addr} {vs:List V} {xs:List OV} {A:List Addr}:H a=some (.lst vs)->ORL M H vs xs A->OR M H (.ref a) (.l xs) (a::A)
 | t {a:Addr} {vs:List V} {xs:List OV} {A:List Addr}:H a=some (.tup vs)->ORL M H vs xs A->OR M H (.ref a) (.t xs) A
 | m {a:Addr} {kvs:List (Str×V)} {ds:List (Str×PyData)}:H a=some (.dK (kvs.map kK))->kvs.map (·.1)=ds.map (·.1)->RepL M H (kvs.map (·.2)) (ds.map (·.2))->OR M H (.ref a) (.m ds) [a]
 | o {a dx:Addr} {c:Str} {fs:List (Str×V)} {ns:List Str} {xs:List OV} {A:List Addr}:H a=some (.ins (Cs.adr c) dx fs)->fs.map (·.1)=ns->ORL M H (fs.map (·.2)) xs A->OR M H (.ref a) (.o c ns xs) (a::A)
inductive ORL (M:Addr->Prop) (H:Hp):List V->List OV->List Addr->Prop
 | nil:ORL M H [] [] []
 | cons {v:V} {vs:List V} {x:OV} {xs:List OV} {A B:List Addr}:OR M H v x A->ORL M H vs xs B->ORL M H (v::vs) (x::xs) (A++B)
end
noncomputable abbrev zu:Addr->Prop:=fun _=>False
theorem Zw {M M':Addr->Prop}{H H':Hp}(hr:∀ v d,Rep M H v d->Rep M' H' v d):∀ {vs:List V}{ds:List PyData},RepL M H vs ds->RepL M' H' vs ds
 | _,_,.nil=>.nil
 | _,_,.cons r t=>.cons (hr _ _ r) (Zw hr t)
theorem OV.views_len (xs:List OV):(OV.views xs).length=xs.length:=by rw[OV.views_map,List.length_map]
theorem ORL.length {M:Addr->Prop}{H:Hp}:∀ {vs:List V}{os:List OV}{A:List Addr},ORL M H vs os A->vs.length=os.length
 | _,_,_,.nil=>rfl
 | _,_,_,.cons _ t=>by rw[List.length_cons,List.length_cons,ORL.length t]
theorem zbA {α β:Type}:∀ {ns:List α}{xs:List β},ns.length=xs.length->(ns.zip xs).map (·.1)=ns:=fun {ns xs} h=>by rw[List.map_fst_zip (Nat.le_of_eq h)]
theorem zbB {α β:Type}:∀ {ns:List α}{xs:List β},ns.length=xs.length->(ns.zip xs).map (·.2)=xs:=fun {ns xs} h=>by rw[List.map_snd_zip (Nat.le_of_eq h.symm)]
mutual
theorem OR.go {M M':Addr->Prop}{H H':Hp}(hr:∀ v d,Rep M H v d->Rep M' H' v d) (ht:∀ b xs,H b=some (.tup xs)->H' b=some (.tup xs)):∀ {v:V}{o:OV}{A:List Addr},(∀ a∈A,H' a=H a)->OR M H v o A->OR M' H' v o A
 | _,_,_,_,.d r=>.d (hr _ _ r)
 | _,_,_,h,.l e r=>.l (by rw[h _ List.mem_cons_self]; exact e) (ORL.go hr ht (fun a ha=>h a (List.mem_cons_of_mem _ ha)) r)
 | _,_,_,h,.t e r=>.t (ht _ _ e) (ORL.go hr ht h r)
 | _,_,_,h,.m e k r=>.m (by rw[h _ List.mem_cons_self]; exact e) k (Zw hr r)
 | _,_,_,h,.o e k r=>.o (by rw[h _ List.mem_cons_self]; exact e) k (ORL.go hr ht (fun a ha=>h a (List.mem_cons_of_mem _ ha)) r)
theorem ORL.go {M M':Addr->Prop}{H H':Hp}(hr:∀ v d,Rep M H v d->Rep M' H' v d) (ht:∀ b xs,H b=some (.tup xs)->H' b=some (.tup xs)):∀ {v:List V}{o:List OV}{A:List Addr},(∀ a∈A,H' a=H a)->ORL M H v o A->ORL M' H' v o A
 | _,_,_,_,.nil=>.nil
 | _,_,_,h,.cons r t=>   .cons (OR.go hr ht (fun a ha=>h a (List.mem_append_left _ ha)) r) (ORL.go hr ht (fun a ha=>h a (List.mem_append_right _ ha)) t)
end
mutual
/-- given up: it is data from now on -/
theorem OR.rep {M M':Addr->Prop}{H:Hp}(hm:∀ b,M' b->M b):∀ {v:V}{o:OV}{A:List Addr},(∀ a∈A,¬ M' a)->OR M H v o A->Rep M' H v o.view
 | _,_,_,_,.d r=>r.less fun b hb _=>hm b hb
 | _,_,_,h,.l e r=>.list e (h _ List.mem_cons_self) (ORL.rep hm (fun a ha=>h a (List.mem_cons_of_mem _ ha)) r)
 | _,_,_,h,.t e r=>.tuple e (ORL.rep hm h r)
 | _,_,_,h,.m e k r=>.dict (.inl e) (h _ List.mem_cons_self) k (Zw (fun _ _ x=>x.less fun b hb _=>hm b hb) r)
 | _,_,_,h,.o (fs:=fs) (ns:=ns) (xs:=xs) e k r=>by
  have hl:ns.length=(OV.views xs).length:=by rw[OV.views_len,<- r.length,<- k,List.length_map,List.length_map]
  refine .inst e (h _ List.mem_cons_self) (by rw[zbA hl]; exact k) ?_
  rw[zbB hl]
  exact ORL.rep hm (fun a ha=>h a (List.mem_cons_of_mem _ ha)) r
theorem ORL.rep {M M':Addr->Prop}{H:Hp}(hm:∀ b,M' b->M b):∀ {v:List V}{o:List OV}{A:List Addr},(∀ a∈A,¬ M' a)->ORL M H v o A->RepL M' H v (OV.views o)
 | _,_,_,_,.nil=>.nil
 | _,_,_,h,.cons r t=>.cons (OR.rep hm (fun a ha=>h a (List.mem_append_left _ ha)) r) (ORL.rep hm (fun a ha=>h a (List.mem_append_right _ ha)) t)
end
theorem OR.weak {M:Addr->Prop}{H:Hp}{v:V}{o:OV}{A:List Addr}(r:OR M H v o A):Rep zu H v o.view:=r.rep (fun _ h=>h.elim) fun _ _ h=>h
mutual
theorem OR.laid {M:Addr->Prop}{H:Hp}:∀ {v:V}{o:OV}{A:List Addr},OR M H v o A->∀ a∈A,∃ vs,H a=some vs
 | _,_,_,.d _,a,h=>by cases h
 | _,_,_,.l e r,a,h=>by
  rcases List.mem_cons.mp h with rfl | h
  ·exact⟨_,e⟩
  ·exact ORL.laid r a h
 | _,_,_,.t e r,a,h=>ORL.laid r a h
 | _,_,_,.m e k r,a,h=>by
  rcases List.mem_cons.mp h with rfl | h
  ·exact⟨_,e⟩
  ·cases h
 | _,_,_,.o e k r,a,h=>by
  rcases List.mem_cons.mp h with rfl | h
  ·exact⟨_,e⟩
  ·exact ORL.laid r a h
theorem ORL.laid {M:Addr->Prop}{H:Hp}:∀ {v:List V}{o:List OV}{A:List Addr},ORL M H v o A->∀ a∈A,∃ vs,H a=some vs
 | _,_,_,.nil,a,h=>by cases h
 | _,_,_,.cons r t,a,h=>by
  rcases List.mem_append.mp h with h | h
  ·exact OR.laid r a h
  ·exact ORL.laid t a h
end
theorem ORL.data {M:Addr->Prop}{H:Hp}:∀ {vs:List V}{ds:List PyData},RepL M H vs ds->ORL M H vs (ds.map .d) []
 | _,_,.nil=>.nil
 | _,_,.cons r t=>.cons (A:= []) (.d r) (ORL.data t)
noncomputable abbrev Fp:=Nat->List Addr
noncomputable def zF (F:Fp) (i:Nat) (A:List Addr):Fp:=fun j=>if j=i then A else F j
theorem zg {F:Fp}{i:Nat}{A:List Addr}:zF F i A i=A:=by unfold zF; rw[if_pos rfl]
theorem zk {F:Fp}{i j:Nat}{A:List Addr}(h:j≠i):zF F i A j=F j:=by unfold zF; rw[if_neg h]
noncomputable def MM (M0:Addr->Prop) (F:Fp):Addr->Prop:=fun a=>M0 a∨∃ i,a∈F i
noncomputable abbrev Nu:=List (Option V)
structure RS (M0:Addr->Prop) (F:Fp) (Γ:Gv) (ν:Nu) (H:Hp):Prop where
 al0:∀ a,M0 a->H a≠none
 dis0:∀ i a,a∈F i->¬ M0 a
 nd:∀ i,(F i).Nodup
 dis:∀ i j a,a∈F i->a∈F j->i=j
 at':∀ i o,Γ[i]?=some (some o)->∃ v,ν[i]?=some (some v)/\OR (MM M0 F) H v o (F i)
 emp:∀ i,(∀ o,Γ[i]?≠some (some o))->F i= []
 len:ν.length=Γ.length
structure Stp (F:Fp) (H:Hp) (F':Fp) (H':Hp):Prop where
 keep:∀ b o,H b=some o->(∀ i,b∉F i)->H' b=some o/\∀ i,b∉F' i
 tups:∀ b xs,H b=some (.tup xs)->H' b=some (.tup xs)
 stay:∀ b,H b≠none->H' b≠none
theorem Stp.refl (F:Fp) (H:Hp):Stp F H F H:=⟨fun _ _ e n=>⟨e,n⟩,fun _ _ e=>e,fun _ h=>h⟩
theorem Stp.trans {F F1 F2:Fp}{H H1 H2:Hp}(a:Stp F H F1 H1) (b:Stp F1 H1 F2 H2):Stp F H F2 H2 :=
 ⟨fun c o e n=>let ⟨e1,n1⟩:=a.keep c o e n; b.keep c o e1 n1,fun c xs e=>b.tups c xs (a.tups c xs e),fun c h=>b.stay c (a.stay c h)⟩
theorem Stp.same {F:Fp}{H H':Hp}(s:Same H H'):Stp F H F H':=⟨fun b o e n=>⟨s b o e,n⟩,fun b xs e=>s b _ e,fun b h=>by
 cases q:H b with
 | none=>exact absurd q h
 | some o=>rw[s b o q]; exact fun z=>nomatch z⟩
theorem Stp.free {F F':Fp}{H H':Hp}(s:Stp F H F' H'){a:Addr}(n:H' a=none):H a=none:=by
 cases q:H a with
 | none=>rfl
 | some o=>exact absurd n (s.stay a (by rw[q]; exact fun z=>nomatch z))
section
variable {M0:Addr->Prop} {F F':Fp} {Γ Γ':Gv} {ν ν':Nu} {H H':Hp}
theorem RS.laidF (r:RS M0 F Γ ν H){i:Nat}{a:Addr}(h:a∈F i):∃ vs,H a=some vs:=by
 by_cases q:∃ o,Γ[i]?=some (some o)
 ·obtain⟨o,q⟩:=q
  obtain⟨v,_,z⟩:=r.at' i o q
  exact z.laid a h
 ·rw[r.emp i fun o e=>q ⟨o,e⟩] at h; cases h
theorem RS.al (r:RS M0 F Γ ν H):Al (MM M0 F) H:=fun a h=>by
 rcases h with h | ⟨i,h⟩
 ·exact r.al0 a h
 ·obtain⟨vs,e⟩:=r.laidF h
  rw[e]; exact fun z=>nomatch z
mutual
/-- data goes through a step -/
theorem zq (s:Stp F H F' H') (h0:∀ a,M0 a->H a≠none):∀ {v:V}{d:PyData},Rep (MM M0 F) H v d->Rep (MM M0 F') H' v d
 | _,_,.none=>.none
 | _,_,.bool b=>.bool b
 | _,_,.int i=>.int i
 | _,_,.str x=>.str x
 | _,_,.list (a:=a) e n q=>by
  have hn:∀ i,a∉F i:=fun i h=>n (.inr ⟨i,h⟩)
  obtain⟨e',n'⟩:=s.keep a _ e hn
  refine .list e' ?_ (qp s h0 q)
  rintro (h | ⟨i,h⟩)
  ·exact n (.inl h)
  ·exact n' i h
 | _,_,.tuple e q=>.tuple (s.tups _ _ e) (qp s h0 q)
 | _,_,.dict (a:=a) e n k q=>by
  have hn:∀ i,a∉F i:=fun i h=>n (.inr ⟨i,h⟩)
  have:∃ o,H a=some o:=by rcases e with e | ⟨o,e⟩ <;> exact⟨_,e⟩
  obtain⟨o,eo⟩:=this
  obtain⟨_,n'⟩:=s.keep a _ eo hn
  refine .dict (e.imp (fun z=>(s.keep a _ z hn).1) fun ⟨o,z⟩=>⟨o,(s.keep a _ z hn).1⟩) ?_ k (qp s h0 q)
  rintro (h | ⟨i,h⟩)
  ·exact n (.inl h)
  ·exact n' i h
 | _,_,.inst (a:=a) e n k q=>by
  obtain⟨e',n'⟩:=s.keep a _ e fun i h=>n (.inr ⟨i,h⟩)
  refine .inst e' ?_ k (qp s h0 q)
  rintro (h | ⟨i,h⟩)
  ·exact n (.inl h)
  ·exact n' i h
theorem qp (s:Stp F H F' H') (h0:∀ a,M0 a->H a≠none):∀ {vs:List V}{ds:List PyData},RepL (MM M0 F) H vs ds->RepL (MM M0 F') H' vs ds
 | _,_,.nil=>.nil
 | _,_,.cons r t=>.cons (zq s h0 r) (qp s h0 t)
end
theorem RS.same (r:RS M0 F Γ ν H) (s:Same H H'):RS M0 F Γ ν H' where
 al0 a h:=by
  have:=r.al0 a h
  cases q:H a with
  | none=>exact absurd q this
  | some o=>rw[s a o q]; exact fun z=>nomatch z
 dis0:=r.dis0
 nd:=r.nd
 dis:=r.dis
 at' i o e:=by
  obtain⟨v,e1,q⟩:=r.at' i o e
  exact⟨v,e1,q.go (fun v d x=>x.grow s.grow) (fun b xs e=>s b _ e) fun a ha=>by
   obtain⟨vs,z⟩:=q.laid a ha
   rw[z,s a _ z]⟩
 emp:=r.emp
 len:=r.len
theorem RS.put {i:Nat}{o:OV}{v:V}{A:List Addr}(r:RS M0 F Γ ν H) (s:Stp F H (zF F i A) H') (hF:∀ j,j≠i->∀ a∈F j,H' a=H a)
  (hm:∀ a,M0 a->H' a≠none) (hA0:∀ a∈A,¬ M0 a) (hAn:A.Nodup) (hAd:∀ j,j≠i->∀ a∈A,a∉F j) (hi:i<Γ.length)
  (q:OR (MM M0 (zF F i A)) H' v o A):RS M0 (zF F i A) (Γ.set i (some o)) (ν.set i (some v)) H' where
 al0:=hm
 dis0 j a h:=by
  by_cases hj:j=i
  ·subst hj; rw[zg] at h; exact hA0 a h
  ·rw[zk hj] at h; exact r.dis0 j a h
 nd j:=by
  by_cases hj:j=i
  ·subst hj; rw[zg]; exact hAn
  ·rw[zk hj]; exact r.nd j
 dis j k a h1 h2:=by
  by_cases hj:j=i
  ·by_cases hk:k=i
   ·rw[hj,hk]
   ·subst hj; rw[zg] at h1; rw[zk hk] at h2; exact absurd h2 (hAd k hk a h1)
  ·by_cases hk:k=i
   ·subst hk; rw[zg] at h2; rw[zk hj] at h1; exact absurd h1 (hAd j hj a h2)
   ·rw[zk hj] at h1; rw[zk hk] at h2; exact r.dis j k a h1 h2
 at' j p e:=by
  by_cases hj:j=i
  ·subst hj
   rw[List.getElem?_set_self hi] at e
   cases e
   refine⟨v,by rw[List.getElem?_set_self (by rw[r.len]; exact hi)],?_⟩
   rw[zg]; exact q
  ·rw[List.getElem?_set_ne (Ne.symm hj)] at e |-
   obtain⟨u,e1,z⟩:=r.at' j p e
   refine⟨u,e1,?_⟩
   rw[zk hj]
   exact z.go (fun v d x=>zq s r.al0 x) s.tups (hF j hj)
 emp j h:=by
  by_cases hj:j=i
  ·subst hj
   rw[List.getElem?_set_self hi] at h
   exact absurd rfl (h o)
  ·rw[zk hj]
   refine r.emp j fun p e=>h p ?_
   rw[List.getElem?_set_ne (Ne.symm hj)]; exact e
 len:=by rw[List.length_set,List.length_set]; exact r.len
theorem RS.setD {i:Nat}{d:PyData}{v:V}(r:RS M0 F Γ ν H) (q:Rep (MM M0 F) H v d) (hi:i<Γ.length):∃ F',RS M0 F' (Γ.set i (some (.d d))) (ν.set i (some v)) H/\Stp F H F' H:=by
 have s:Stp F H (zF F i []) H:=⟨fun b o e n=>⟨e,fun j=>by
  by_cases hj:j=i
  ·subst hj; rw[zg]; exact fun z=>nomatch z
  ·rw[zk hj]; exact n j⟩,fun _ _ e=>e,fun _ h=>h⟩
 exact⟨_,r.put s (fun _ _ _ _=>rfl) r.al0 (fun _ h=>nomatch h) .nil (fun _ _ _ h=>nomatch h) hi (.d (zq s r.al0 q)),s⟩
noncomputable def Q0 (F:Fp) (n:Nat):Fp:=fun j=>if j<n then F j else []
theorem wM {n j:Nat}(h:j<n):Q0 F n j=F j:=by unfold Q0; rw[if_pos h]
theorem VN {n j:Nat}(h:¬ j<n):Q0 F n j= []:=by unfold Q0; rw[if_neg h]
theorem qt {n j:Nat}{a:Addr}(h:a∈Q0 F n j):j<n/\a∈F j:=by
 unfold Q0 at h
 split at h
 ·exact⟨by assumption,h⟩
 ·cases h
theorem jy (h:∀ j a,a∈F' j->∃ k,a∈F k):Stp F H F' H:=⟨fun b o e n=>⟨e,fun j hj=>let ⟨k,hk⟩:=h j b hj; n k hk⟩,fun _ _ e=>e,fun _ h=>h⟩
theorem RS.cut (r:RS M0 F Γ ν H) (n:Nat):RS M0 (Q0 F n) (Γ.take n) (ν.take n) H/\Stp F H (Q0 F n) H:=by
 have s:Stp F H (Q0 F n) H:=jy fun j a h=>⟨j,(qt h).2⟩
 refine⟨⟨r.al0,fun j a h=>r.dis0 j a (qt h).2,fun j=>?_,fun j k a h1 h2=>r.dis j k a (qt h1).2 (qt h2).2,fun j o e=>?_,fun j h=>?_,?_⟩,s⟩
 ·by_cases hj:j<n
  ·rw[wM hj]; exact r.nd j
  ·rw[VN hj]; exact .nil
 ·have hj:j<n:=by
   by_cases hj:j<n
   ·exact hj
   ·rw[List.getElem?_eq_none (by rw[List.length_take]; omega)] at e; cases e
  rw[List.getElem?_take_of_lt hj] at e |-
  obtain⟨v,e1,q⟩:=r.at' j o e
  exact⟨v,e1,by rw[wM hj]; exact q.go (fun _ _ x=>zq s r.al0 x) s.tups fun _ _=>rfl⟩
 ·by_cases hj:j<n
  ·rw[wM hj]
   refine r.emp j fun o e=>h o ?_
   rw[List.getElem?_take_of_lt hj]; exact e
  ·exact VN hj
 ·rw[List.length_take,List.length_take,r.len]
theorem RS.ext (r:RS M0 F Γ ν H) (k:Nat):RS M0 F (Γ++List.replicate k none) (ν++List.replicate k none) H:=by
 have get:∀ {α:Type} (l:List (Option α)) (j:Nat) (o:α),(l++List.replicate k none)[j]?=some (some o)->l[j]?=some (some o):=fun {α} l j o e=>by
  by_cases hj:j<l.length
  ·rw[List.getElem?_append_left hj] at e; exact e
  ·rw[List.getElem?_append_right (by omega),List.getElem?_replicate] at e
   split at e <;> cases e
 have put:∀ {α:Type} (l:List (Option α)) (j:Nat) (o:α),l[j]?=some (some o)->(l++List.replicate k none)[j]?=some (some o):=fun {α} l j o e=>by
  rw[List.getElem?_append_left (List.getElem?_eq_some_iff.mp e).1]; exact e
 exact⟨r.al0,r.dis0,r.nd,r.dis,fun j o e=>let ⟨v,e1,q⟩:=r.at' j o (get _ _ _ e); ⟨v,put _ _ _ e1,q⟩,fun j h=>r.emp j fun o e=>h o (put _ _ _ e),by simp[r.len]⟩
theorem Zx {α:Type}(l:List (Option α)) (x:α):(l++List.replicate 1 none).set l.length (some x)=l++ [some x]:=by
 rw[List.set_append_right _ _ (Nat.le_refl _)]; simp
theorem RS.newO {p:Addr}{vs:List V}{ds:List PyData}(r:RS M0 F Γ ν H) (n:H p=none) (q:RepL (MM M0 F) H vs ds) :
  RS M0 (zF F Γ.length [p]) (Γ++ [some (.l (ds.map .d))]) (ν++ [some (.ref p)]) (upd H p (.lst vs))/\Stp F H (zF F Γ.length [p]) (upd H p (.lst vs)):=by
 have hp:∀ i,p∉F i:=fun i h=>by
  obtain⟨vs,e⟩:=r.laidF h
  rw[n] at e; cases e
 have he:F Γ.length= []:=r.emp _ fun o e=>by
  rw[List.getElem?_eq_none (Nat.le_refl _)] at e; cases e
 have s:Stp F H (zF F Γ.length [p]) (upd H p (.lst vs)):=⟨fun b o e nb=>⟨zv n b o e,fun j h=>by
  by_cases hj:j=Γ.length
  ·subst hj; rw[zg] at h
   have e':b=p:=by simpa using h
   subst e'; rw[n] at e; cases e
  ·rw[zk hj] at h; exact nb j h⟩,fun b xs e=>zv n b _ e,fun b h=>by
   by_cases e:b=p
   ·subst e; exact absurd n h
   ·rw[ze e]; exact h⟩
 have r1:=(r.ext 1).put (i:=Γ.length) (o:=.l (ds.map .d)) (v:=.ref p) (A:= [p]) (H':=upd H p (.lst vs)) s (fun j _ a ha=>ze (fun e=>hp j (by rw[<- e]; exact ha)))
  (fun a h=>s.stay a (r.al0 a h)) (fun a ha h=>by
   have e:a=p:=by simpa using ha
   subst e; exact r.al0 a h n) (List.nodup_cons.mpr ⟨(fun z=>nomatch z),.nil⟩) (fun j _ a ha=>by
   have e:a=p:=by simpa using ha
   subst e; exact hp j) (by simp) (.l zi (ORL.data (qp s r.al0 q)))
 rw[Zx] at r1
 have e2:(ν++List.replicate 1 none).set Γ.length (some (V.ref p))=ν++ [some (V.ref p)]:=by rw[<- r.len,Zx]
 rw[e2] at r1
 exact⟨r1,s⟩
theorem RS.move {i:Nat}{o:OV}{v:V}(r:RS M0 F (Γ++ [some o]) (ν++ [some v]) H) (hi:i<Γ.length):∃ F',RS M0 F' (Γ.set i (some o)) (ν.set i (some v)) H/\Stp F H F' H:=by
 have hl:ν.length=Γ.length:=by have:=r.len; simp at this; exact this
 have hni:Γ.length≠i:=Nat.ne_of_gt hi
 let F':Fp:=fun j=>if j=i then F Γ.length else if j<Γ.length then F j else []
 have hFi:F' i=F Γ.length:=by show (if i=i then _ else _)=_; rw[if_pos rfl]
 have hFj:∀ j,j≠i->j<Γ.length->F' j=F j:=fun j h1 h2=>by show (if j=i then _ else _)=_; rw[if_neg h1,if_pos h2]
 have hFo:∀ j,j≠i->¬ j<Γ.length->F' j= []:=fun j h1 h2=>by show (if j=i then _ else _)=_; rw[if_neg h1,if_neg h2]
 have sub:∀ j a,a∈F' j->(j=i/\a∈F Γ.length)∨(j≠i/\j<Γ.length/\a∈F j):=fun j a h=>by
  by_cases h1:j=i
  ·subst h1; rw[hFi] at h; exact .inl ⟨rfl,h⟩
  ·by_cases h2:j<Γ.length
   ·rw[hFj j h1 h2] at h; exact .inr ⟨h1,h2,h⟩
   ·rw[hFo j h1 h2] at h; cases h
 have s:Stp F H F' H:=jy fun j a h=>by
  rcases sub j a h with ⟨_,h⟩ | ⟨_,_,h⟩
  ·exact⟨_,h⟩
  ·exact⟨_,h⟩
 refine⟨F',⟨r.al0,fun j a h=>?_,fun j=>?_,fun j k a h1 h2=>?_,fun j p e=>?_,fun j h=>?_,by simp[hl]⟩,s⟩
 ·rcases sub j a h with ⟨_,h⟩ | ⟨_,_,h⟩
  ·exact r.dis0 _ a h
  ·exact r.dis0 _ a h
 ·by_cases h1:j=i
  ·subst h1; rw[hFi]; exact r.nd _
  ·by_cases h2:j<Γ.length
   ·rw[hFj j h1 h2]; exact r.nd _
   ·rw[hFo j h1 h2]; exact .nil
 ·rcases sub j a h1 with ⟨e1,z1⟩ | ⟨n1,l1,z1⟩
  ·rcases sub k a h2 with ⟨e2,z2⟩ | ⟨n2,l2,z2⟩
   ·rw[e1,e2]
   ·have:=r.dis _ _ a z1 z2; omega
  ·rcases sub k a h2 with ⟨e2,z2⟩ | ⟨n2,l2,z2⟩
   ·have:=r.dis _ _ a z1 z2; omega
   ·exact r.dis _ _ a z1 z2
 ·by_cases hj:j=i
  ·subst hj
   rw[List.getElem?_set_self hi] at e
   cases e
   obtain⟨u,e1,q⟩:=r.at' Γ.length o (by rw[List.getElem?_append_right (Nat.le_refl _)]; simp)
   rw[List.getElem?_append_right (by omega),hl] at e1
   simp at e1
   subst e1
   refine⟨v,by rw[List.getElem?_set_self (by omega)],?_⟩
   rw[hFi]; exact q.go (fun _ _ x=>zq s r.al0 x) s.tups fun _ _=>rfl
  ·rw[List.getElem?_set_ne (Ne.symm hj)] at e |-
   have hjl:j<Γ.length:=(List.getElem?_eq_some_iff.mp e).1
   obtain⟨u,e1,q⟩:=r.at' j p (by rw[List.getElem?_append_left hjl]; exact e)
   rw[List.getElem?_append_left (by omega)] at e1
   exact⟨u,e1,by rw[hFj j hj hjl]; exact q.go (fun _ _ x=>zq s r.al0 x) s.tups fun _ _=>rfl⟩
 ·by_cases hj:j=i
  ·subst hj; rw[List.getElem?_set_self hi] at h; exact absurd rfl (h o)
  ·by_cases h2:j<Γ.length
   ·rw[hFj j hj h2]
    refine r.emp j fun p e=>h p ?_
    rw[List.getElem?_append_left h2] at e
    rw[List.getElem?_set_ne (Ne.symm hj)]; exact e
   ·exact hFo j hj h2
theorem RS.dropD {o:OV}{v:V}(r:RS M0 F (Γ++ [some o]) (ν++ [some v]) H):∃ F',RS M0 F' Γ ν H/\Stp F H F' H/\Rep (MM M0 F') H v o.view:=by
 have hl:ν.length=Γ.length:=by have:=r.len; simp at this; exact this
 obtain⟨r1,s⟩:=r.cut Γ.length
 have e1:(Γ++ [some o]).take Γ.length=Γ:=by simp
 have e2:(ν++ [some v]).take Γ.length=ν:=by rw[<- hl]; simp
 rw[e1,e2] at r1
 refine⟨_,r1,s,?_⟩
 obtain⟨u,e,q⟩:=r.at' Γ.length o (by rw[List.getElem?_append_right (Nat.le_refl _)]; simp)
 rw[List.getElem?_append_right (by omega),hl] at e
 simp at e
 subst e
 refine q.rep (fun b hb=>?_) (fun a ha hb=>?_)
 ·rcases hb with hb | ⟨j,hb⟩
  ·exact .inl hb
  ·exact .inr ⟨j,(qt hb).2⟩
 ·rcases hb with hb | ⟨j,hb⟩
  ·exact r.dis0 _ a ha hb
  ·have:=r.dis _ _ a ha (qt hb).2
   have:=(qt hb).1
   omega
theorem RS.frz {i:Nat}{o:OV}(r:RS M0 F Γ ν H) (e:Γ[i]?=some (some o)):∃ F' v,ν[i]?=some (some v)/\RS M0 F' (Γ.set i (some (.d o.view))) ν H/\Stp F H F' H/\Rep (MM M0 F') H v o.view:=by
 obtain⟨v,ev,q⟩:=r.at' i o e
 have hi:=(List.getElem?_eq_some_iff.mp e).1
 have s:Stp F H (zF F i []) H:=jy fun j a h=>by
  by_cases hj:j=i
  ·subst hj; rw[zg] at h; cases h
  ·rw[zk hj] at h; exact⟨j,h⟩
 have hq:Rep (MM M0 (zF F i [])) H v o.view:=q.rep (fun b hb=>by
  rcases hb with hb | ⟨j,hb⟩
  ·exact .inl hb
  ·by_cases hj:j=i
   ·subst hj; rw[zg] at hb; cases hb
   ·rw[zk hj] at hb; exact .inr ⟨j,hb⟩) (fun a ha hb=>by
  rcases hb with hb | ⟨j,hb⟩
  ·exact r.dis0 _ a ha hb
  ·by_cases hj:j=i
   ·subst hj; rw[zg] at hb; cases hb
   ·rw[zk hj] at hb; exact hj (r.dis _ _ a hb ha))
 have r1:=r.put (i:=i) (A:= []) s (fun _ _ _ _=>rfl) r.al0 (fun _ h=>nomatch h) .nil (fun _ _ _ h=>nomatch h) hi (.d hq)
 have e2:ν.set i (some v)=ν:=by
  apply List.ext_getElem?
  intro j
  by_cases hj:i=j
  ·subst hj; rw[List.getElem?_set_self (List.getElem?_eq_some_iff.mp ev).1,ev]
  ·rw[List.getElem?_set_ne hj]
 rw[e2] at r1
 exact⟨_,v,ev,r1,s,hq⟩
theorem RS.mut {i:Nat}{xs xs':List OV}{a:Addr}{vs:List V}(r:RS M0 F Γ ν H) (e:Γ[i]?=some (some (.l xs))) (ev:ν[i]?=some (some (.ref a)))
  (h:∀ us A,H a=some (.lst us)->ORL (MM M0 F) H us xs A->F i=a::A->∃ A',(∀ b∈A',b∈A)/\A'.Nodup/\ORL (MM M0 F) H vs xs' A') :
  ∃ F',RS M0 F' (Γ.set i (some (.l xs'))) ν (upd H a (.lst vs))/\Stp F H F' (upd H a (.lst vs)):=by
 obtain⟨v,ev',q⟩:=r.at' i _ e
 rw[ev] at ev'; cases ev'
 have hi:=(List.getElem?_eq_some_iff.mp e).1
 generalize hA:F i=Ai at q
 cases q with
 | l ea qa=>
  rename_i us A
  obtain⟨A',sub,nd',q'⟩:=h us A ea qa hA
  have nd:=r.nd i
  rw[hA] at nd
  have hnA:a∉A:=(List.nodup_cons.mp nd).1
  have inF:∀ b,b∈(a::A')->b∈F i:=fun b hb=>by
   rw[hA]
   rcases List.mem_cons.mp hb with z | z
   ·rw[z]; exact List.mem_cons_self
   ·exact List.mem_cons_of_mem _ (sub b z)
  have s:Stp F H (zF F i (a::A')) (upd H a (.lst vs)):=⟨fun b o eb nb=>⟨by rw[ze (fun z=>nb i (by rw[hA,z]; exact List.mem_cons_self))]; exact eb,fun j hj=>by
   by_cases z:j=i
   ·subst z; rw[zg] at hj; exact nb j (inF b hj)
   ·rw[zk z] at hj; exact nb j hj⟩,fun b xs eb=>by rw[ze (zef eb ea (by intro z; cases z))]; exact eb,fun b hb=>by
   by_cases z:b=a
   ·subst z; rw[zi]; exact fun w=>nomatch w
   ·rw[ze z]; exact hb⟩
  have r1:=r.put (i:=i) (o:=.l xs') (v:=.ref a) (A:=a::A') s (fun j hj b hb=>by
    rw[ze]
    intro z
    subst z
    exact hj (r.dis j i b hb (by rw[hA]; exact List.mem_cons_self))) (fun b hb=>s.stay b (r.al0 b hb)) (fun b hb=>r.dis0 i b (inF b hb)) (List.nodup_cons.mpr ⟨fun z=>hnA (sub a z),nd'⟩)
   (fun j hj b hb hbj=>hj (r.dis j i b hbj (inF b hb))) hi (.l zi (q'.go (fun _ _ x=>zq s r.al0 x) s.tups fun b hb=>by
    rw[ze]; intro z; subst z; exact hnA (sub b hb)))
  have e2:ν.set i (some (V.ref a))=ν:=by
   apply List.ext_getElem?
   intro j
   by_cases hj:i=j
   ·subst hj; rw[List.getElem?_set_self (List.getElem?_eq_some_iff.mp ev).1,ev]
   ·rw[List.getElem?_set_ne hj]
  rw[e2] at r1
  exact⟨_,r1,s⟩
end
theorem ORL.snoc {M:Addr->Prop}{H:Hp}{v:V}{d:PyData}(q:Rep M H v d):∀ {vs:List V}{os:List OV}{A:List Addr},ORL M H vs os A->ORL M H (vs++ [v]) (os++ [.d d]) A
 | _,_,_,.nil=>.cons (A:= []) (.d q) .nil
 | _,_,_,.cons r t=>.cons r (ORL.snoc q t)
theorem ORL.setD {M:Addr->Prop}{H:Hp}{v:V}{d:PyData}(q:Rep M H v d):∀ {vs:List V}{os:List OV}{A:List Addr}{j:Nat}{x:PyData},ORL M H vs os A->os[j]?=some (.d x)->ORL M H (vs.set j v) (os.set j (.d d)) A
 | _,_,_,_,_,.nil,e=>by simp at e
 | _,_,_,0,x,.cons r t,e=>by
  simp at e
  subst e
  cases r
  exact .cons (A:= []) (.d q) t
 | _,_,_,j+1,x,.cons r t,e=>.cons r (ORL.setD (j:=j) q t (by simpa using e))
theorem ORL.get {M:Addr->Prop}{H:Hp}:∀ {vs:List V}{os:List OV}{A:List Addr}{j:Nat}{x:PyData},ORL M H vs os A->os[j]?=some (.d x)->∃ v,vs[j]?=some v/\Rep M H v x
 | _,_,_,_,_,.nil,e=>by simp at e
 | _,_,_,0,x,.cons r t,e=>by
  simp at e
  subst e
  cases r with
  | d r=>exact⟨_,rfl,r⟩
 | _,_,_,j+1,x,.cons r t,e=>by
  obtain⟨v,e1,q⟩:=ORL.get (j:=j) t (by simpa using e)
  exact⟨v,by simpa using e1,q⟩
end L3
namespace L3
open PySem PySem.Spec PyProof.Rows L2
variable [Cs]
noncomputable abbrev St:=L2.St
structure Exc where
 cls:Str
 pay:PyData
inductive R (α:Type) where
 | ok (a:α)
 | exc (x:Exc) (Γ:Gv)
 | bad
noncomputable def R.bind {α β:Type}(r:R α) (f:α->R β):R β:=match r with
 | .ok a=>f a
 | .exc x Γ=>.exc x Γ
 | .bad=>.bad
noncomputable abbrev EM (α:Type):=Gv->R (α×Gv)
inductive FV where
 | dat (x:PyData)
 | own (i:Nat)
noncomputable def derf (Γ:Gv):FV->Option PyData
 | .dat x=>some x
 | .own i=>match Γ[i]? with
  | some (some o)=>some o.view
  | _=>none
noncomputable def derS (Γ:Gv):FV->Option PyData
 | .dat x=>some x
 | .own i=>match Γ[i]? with
  | some (some (.d x))=>some x
  | _=>none
noncomputable def leaves:List OV->Option (List PyData)
 | []=>some []
 | .d x::r=>(leaves r).map (x::·)
 | .l _::_=>none
 | .t _::_=>none
 | .m _::_=>none
 | .o _ _ _::_=>none
noncomputable def derL (Γ:Gv):FV->Option (List PyData)
 | .dat (.list xs)=>some xs
 | .own i=>match Γ[i]? with
  | some (some (.l xs))=>leaves xs
  | some (some (.d (.list xs)))=>some xs
  | _=>none
 | _=>none
noncomputable abbrev XPT:=Exc->Gv->Fp->Nu->St->Hp->Prop
noncomputable def Sees (mp:List Nat) (ν:Nu) (σ:St):Prop:=∀ (s i:Nat) (v:V),mp[s]?=some i->ν[i]?=some (some v)->σ[s]?=some (some v)
noncomputable def EPost {α:Type}(M0:Addr->Prop) (F:Fp) (ν:Nu) (σ:St) (H:Hp) (XP:XPT) (P:Fp->Gv->Hp->α->Prop) (r:R (α×Gv)):Prop:=match r with
 | .ok (a,Γ')=>∀ F' H',RS M0 F' Γ' ν H'->Stp F H F' H'->P F' Γ' H' a
 | .exc x Γ'=>∀ F' H',RS M0 F' Γ' ν H'->Stp F H F' H'->XP x Γ' F' ν σ H'
 | .bad=>False
section
variable {α β:Type} {M0:Addr->Prop} {F:Fp} {Γ:Gv} {ν:Nu} {σ:St} {H:Hp} {XP:XPT}
theorem EPost.mono {P P':Fp->Gv->Hp->α->Prop}{r:R (α×Gv)}(h:EPost M0 F ν σ H XP P r) (k:∀ F' Γ' H' a,RS M0 F' Γ' ν H'->Stp F H F' H'->P F' Γ' H' a->P' F' Γ' H' a):EPost M0 F ν σ H XP P' r:=by
 cases r with
 | ok a=>exact fun F' H' rs s=>k F' _ H' _ rs s (h F' H' rs s)
 | exc x Γ'=>exact h
 | bad=>exact h
theorem EPost.seq {P:Fp->Gv->Hp->β->Prop}{r:R (α×Gv)}{k:α×Gv->R (β×Gv)}(h:EPost M0 F ν σ H XP P (r.bind k)) :
  EPost M0 F ν σ H XP (fun F1 Γ1 H1 a=>EPost M0 F1 ν σ H1 XP P (k (a,Γ1))) r:=by
 cases r with
 | ok a=>
  obtain⟨a,Γ1⟩:=a
  intro F1 H1 rs1 s1
  have h':EPost M0 F ν σ H XP P (k (a,Γ1)):=h
  revert h'
  generalize k (a,Γ1)=r2
  intro h'
  cases r2 with
  | ok b=>exact fun F' H' rs s=>h' F' H' rs (s1.trans s)
  | exc x Γ'=>exact fun F' H' rs s=>h' F' H' rs (s1.trans s)
  | bad=>exact h'
 | exc x Γ'=>exact h
 | bad=>exact h
theorem EPost.step {P:Fp->Gv->Hp->α->Prop}{r:R (α×Gv)}{F1:Fp}{H1:Hp}(h:EPost M0 F ν σ H XP P r) (s1:Stp F H F1 H1):EPost M0 F1 ν σ H1 XP P r:=by
 cases r with
 | ok b=>exact fun F' H' rs s=>h F' H' rs (s1.trans s)
 | exc x Γ'=>exact fun F' H' rs s=>h F' H' rs (s1.trans s)
 | bad=>exact h
end
noncomputable def FOk (M0:Addr->Prop) (F:Fp) (ν:Nu) (H:Hp) (v:V):FV->Prop
 | .dat x=>Rep (MM M0 F) H v x
 | .own i=>ν[i]?=some (some v)
section
variable {M0:Addr->Prop} {F F':Fp} {Γ:Gv} {ν:Nu} {H H':Hp} {v:V} {u:FV} {x:PyData}
theorem FOk.stp (h:FOk M0 F ν H v u) (s:Stp F H F' H') (h0:∀ a,M0 a->H a≠none):FOk M0 F' ν H' v u:=by
 cases u with
 | dat x=>exact zq s h0 h
 | own i=>exact h
theorem FOk.weak (h:FOk M0 F ν H v u) (rs:RS M0 F Γ ν H) (e:derf Γ u=some x):Rep zu H v x:=by
 cases u with
 | dat y=>cases e; exact Rep.less (fun _ z _=>z.elim) h
 | own i=>
  dsimp only [derf] at e
  split at e
  ·rename_i o q
   cases e
   obtain⟨w,e1,r⟩:=rs.at' i o q
   have h':ν[i]?=some (some v):=h
   rw[h'] at e1; cases e1
   exact r.weak
  ·cases e
theorem FOk.strong (h:FOk M0 F ν H v u) (rs:RS M0 F Γ ν H) (e:derS Γ u=some x):Rep (MM M0 F) H v x:=by
 cases u with
 | dat y=>cases e; exact h
 | own i=>
  dsimp only [derS] at e
  split at e
  ·rename_i y q
   cases e
   obtain⟨w,e1,r⟩:=rs.at' i _ q
   have h':ν[i]?=some (some v):=h
   rw[h'] at e1; cases e1
   generalize F i=A at r
   cases r with
   | d r=>exact r
  ·cases e
theorem ORL.leaf {M:Addr->Prop}:∀ {vs:List V}{os:List OV}{A:List Addr}{ds:List PyData},ORL M H vs os A->leaves os=some ds->RepL M H vs ds/\A= []
 | _,_,_,_,.nil,e=>by cases e; exact⟨.nil,rfl⟩
 | _,_,_,_,.cons (x:=.d x) r t,e=>by
  unfold leaves at e
  rename_i vs xs A B
  cases q:leaves xs with
  | none=>rw[q] at e; cases e
  | some ys=>
   rw[q] at e; cases e
   obtain⟨h1,h2⟩:=ORL.leaf t q
   cases r with
   | d r=>exact⟨.cons r h1,by rw[h2]; rfl⟩
 | _,_,_,_,.cons (x:=.l x) r t,e=>by cases e
 | _,_,_,_,.cons (x:=.t x) r t,e=>by cases e
 | _,_,_,_,.cons (x:=.m x) r t,e=>by cases e
 | _,_,_,_,.cons (x:=.o _ _ x) r t,e=>by cases e
theorem FOk.list {ds:List PyData}(h:FOk M0 F ν H v u) (rs:RS M0 F Γ ν H) (e:derL Γ u=some ds):∃ a vs,v=.ref a/\H a=some (.lst vs)/\RepL (MM M0 F) H vs ds:=by
 unfold derL at e
 split at e
 ·cases e
  obtain⟨a,vs,rfl,e1,_,r⟩:=Rep.lst_inv h
  exact⟨a,vs,rfl,e1,r⟩
 ·rename_i i
  have h':ν[i]?=some (some v):=h
  split at e
  ·rename_i q
   obtain⟨w,e1,r⟩:=rs.at' i _ q
   rw[h'] at e1; cases e1
   generalize F i=A at r
   cases r with
   | l ea qa=>exact⟨_,_,rfl,ea,(ORL.leaf qa e).1⟩
  ·rename_i q
   cases e
   obtain⟨w,e1,r⟩:=rs.at' i _ q
   rw[h'] at e1; cases e1
   generalize F i=A at r
   cases r with
   | d r=>
    obtain⟨a,vs,rfl,e1,_,r⟩:=Rep.lst_inv r
    exact⟨a,vs,rfl,e1,r⟩
  ·cases e
 ·cases e
end
noncomputable def SE (X:Cx) (XP:XPT) (mp:List Nat) (e:Expr) (f:EM FV):Prop:=∀ (M0:Addr->Prop) (F:Fp) (Γ:Gv) (ν:Nu) (σ:St) (H:Hp) (Q:VK),RS M0 F Γ ν H->Sees mp ν σ ->
 EPost M0 F ν σ H XP (fun F' Γ' H' u=>∀ v,FOk M0 F' ν H' v u->Q v H') (f Γ)->wpE X e σ H Q
noncomputable def SN (X:Cx) (XP:XPT) (mp:List Nat) (e:Expr) (f:EM (List PyData)):Prop:=∀ (M0:Addr->Prop) (F:Fp) (Γ:Gv) (ν:Nu) (σ:St) (H:Hp) (Q:VK),RS M0 F Γ ν H->Sees mp ν σ ->
 EPost M0 F ν σ H XP (fun F' Γ' H' ds=>∀ vs p,RepL (MM M0 F') H' vs ds->H' p=none->Q (.ref p) (upd H' p (.lst vs))) (f Γ)->wpE X e σ H Q
noncomputable def ST (X:Cx) (XP:XPT) (mp:List Nat) (e:Expr) (f:EM Bool):Prop:=∀ (M0:Addr->Prop) (F:Fp) (Γ:Gv) (ν:Nu) (σ:St) (H:Hp) (Q:Bool->Hp->Prop),RS M0 F Γ ν H->Sees mp ν σ ->
 EPost M0 F ν σ H XP (fun F' Γ' H' b=>Q b H') (f Γ)->wpT X e σ H Q
noncomputable def SW (X:Cx) (XP:XPT) (mp:List Nat) (e:Expr) (f:EM Bool):Prop:=∀ (M0:Addr->Prop) (F:Fp) (Γ:Gv) (ν:Nu) (σ:St) (H:Hp) (Q:Bool->Hp->Prop),RS M0 F Γ ν H->Sees mp ν σ ->
 EPost M0 F ν σ H XP (fun F' Γ' H' b=>Q b H') (f Γ)->wpW X e σ H Q
section
variable {X:Cx} {XP:XPT} {mp:List Nat} {a b c e:Expr} {es:List Expr} {pos p p2:Pos} {fa fb fc:EM FV} {ta tb:EM Bool} {na nb:EM (List PyData)}
section
variable {β:Type} {M0:Addr->Prop} {F:Fp} {Γ:Gv} {ν:Nu} {σ:St} {H:Hp} {P:Fp->Gv->Hp->β->Prop}
theorem SE.run {Q:VK}{k:FV×Gv->R (β×Gv)}(ha:SE X XP mp a fa) (rs:RS M0 F Γ ν H) (hs:Sees mp ν σ) (h:EPost M0 F ν σ H XP P ((fa Γ).bind k))
  (kk:∀ F1 Γ1 H1 u v,RS M0 F1 Γ1 ν H1->Stp F H F1 H1->FOk M0 F1 ν H1 v u->EPost M0 F1 ν σ H1 XP P (k (u,Γ1))->Q v H1):wpE X a σ H Q :=
 ha M0 F Γ ν σ H Q rs hs (h.seq.mono fun F1 Γ1 H1 u rs1 s1 h1 v hv=>kk F1 Γ1 H1 u v rs1 s1 hv h1)
theorem SN.run {Q:VK}{k:List PyData×Gv->R (β×Gv)}(ha:SN X XP mp a na) (rs:RS M0 F Γ ν H) (hs:Sees mp ν σ) (h:EPost M0 F ν σ H XP P ((na Γ).bind k))
  (kk:∀ F1 Γ1 H1 ds vs p,RS M0 F1 Γ1 ν H1->Stp F H F1 H1->RepL (MM M0 F1) H1 vs ds->H1 p=none->EPost M0 F1 ν σ H1 XP P (k (ds,Γ1))->Q (.ref p) (upd H1 p (.lst vs))):wpE X a σ H Q :=
 ha M0 F Γ ν σ H Q rs hs (h.seq.mono fun F1 Γ1 H1 u rs1 s1 h1 vs p r n=>kk F1 Γ1 H1 u vs p rs1 s1 r n h1)
theorem ST.run {Q:Bool->Hp->Prop}{k:Bool×Gv->R (β×Gv)}(ha:ST X XP mp a ta) (rs:RS M0 F Γ ν H) (hs:Sees mp ν σ) (h:EPost M0 F ν σ H XP P ((ta Γ).bind k))
  (kk:∀ F1 Γ1 H1 u,RS M0 F1 Γ1 ν H1->Stp F H F1 H1->EPost M0 F1 ν σ H1 XP P (k (u,Γ1))->Q u H1):wpT X a σ H Q :=
 ha M0 F Γ ν σ H Q rs hs (h.seq.mono fun F1 Γ1 H1 u rs1 s1 h1=>kk F1 Γ1 H1 u rs1 s1 h1)
end
noncomputable def fNew (n:EM (List PyData)):EM FV:=fun Γ=>(n Γ).bind fun (ds,Γ1)=>.ok (.dat (.list ds),Γ1)
theorem SN.se (h:SN X XP mp a na):SE X XP mp a (fNew na):=fun M0 F Γ ν σ H Q rs hs hp=>
 h.run rs hs hp fun F1 Γ1 H1 ds vs p rs1 s1 r n h1=>by
  have s2:Same H1 (upd H1 p (.lst vs)):=zv n
  exact h1 F1 _ (rs1.same s2) (.same s2) _ (Rep.list zi (fun z=>rs1.al p z n) (r.grow s2.grow))
noncomputable def fVar (i:Nat):EM FV:=fun Γ=>match Γ[i]? with
 | some (some (.d x))=>.ok (.dat x,Γ)
 | some (some (.l _))=>.ok (.own i,Γ)
 | some (some (.t _))=>.ok (.own i,Γ)
 | some (some (.m _))=>.ok (.own i,Γ)
 | some (some (.o _ _ _))=>.ok (.own i,Γ)
 | _=>.bad
theorem zdj {s i:Nat}{x:Str}(hN:X.N[s]?=some x) (hv:Vis X.env.scope x) (hm:mp[s]?=some i) (hd:(x==("__debug__" :Str))=false) (hcd:(x==("__classdict__" :Str))=false) :
  SE X XP mp (.Name x pos) (fVar i):=fun M0 F Γ ν σ H Q rs hs hp=>by
 unfold fVar at hp
 split at hp
 ·rename_i y q
  obtain⟨v,e1,r⟩:=rs.at' i _ q
  generalize hA:F i=A at r
  cases r with
  | d r=>exact (qq hN hv hd hcd).wp ⟨v,hs s i v hm e1,hp F H rs (.refl F H) v r⟩
 ·rename_i y q
  obtain⟨v,e1,r⟩:=rs.at' i _ q
  exact (qq hN hv hd hcd).wp ⟨v,hs s i v hm e1,hp F H rs (.refl F H) v e1⟩
 ·rename_i y q
  obtain⟨v,e1,r⟩:=rs.at' i _ q
  exact (qq hN hv hd hcd).wp ⟨v,hs s i v hm e1,hp F H rs (.refl F H) v e1⟩
 ·rename_i y q
  obtain⟨v,e1,r⟩:=rs.at' i _ q
  exact (qq hN hv hd hcd).wp ⟨v,hs s i v hm e1,hp F H rs (.refl F H) v e1⟩
 ·rename_i y _ _ q
  obtain⟨v,e1,r⟩:=rs.at' i _ q
  exact (qq hN hv hd hcd).wp ⟨v,hs s i v hm e1,hp F H rs (.refl F H) v e1⟩
 ·exact hp.elim
noncomputable def fFrz (i:Nat):EM FV:=fun Γ=>match Γ[i]? with
 | some (some o)=>.ok (.dat o.view,Γ.set i (some (.d o.view)))
 | _=>.bad
theorem zde {s i:Nat}{x:Str}(hN:X.N[s]?=some x) (hv:Vis X.env.scope x) (hm:mp[s]?=some i) (hd:(x==("__debug__" :Str))=false) (hcd:(x==("__classdict__" :Str))=false) :
  SE X XP mp (.Name x pos) (fFrz i):=fun M0 F Γ ν σ H Q rs hs hp=>by
 unfold fFrz at hp
 split at hp
 ·rename_i o q
  obtain⟨F',v,e1,rs1,s1,r⟩:=rs.frz q
  exact (qq hN hv hd hcd).wp ⟨v,hs s i v hm e1,hp F' H rs1 s1 v r⟩
 ·exact hp.elim
noncomputable def fC (x:PyData):EM FV:=fun Γ=>.ok (.dat x,Γ)
theorem zdf {i j}:SE X XP mp (.Constant (.int i) j pos) (fC (.int i)):=fun M0 F Γ ν σ H Q rs hs hp=>pe_int.wp (hp F H rs (.refl F H) _ (Rep.int i))
theorem zaX {x j}:SE X XP mp (.Constant (.bool x) j pos) (fC (.bool x)):=fun M0 F Γ ν σ H Q rs hs hp=>pe_bl.wp (hp F H rs (.refl F H) _ (Rep.bool x))
theorem za2 {j}:SE X XP mp (.Constant .none j pos) (fC .none):=fun M0 F Γ ν σ H Q rs hs hp=>pe_non.wp (hp F H rs (.refl F H) _ Rep.none)
theorem zaY {x:Str}{i:Int}(hg:Gl X x) (hm:∃ t,X.mg x=some (.int i t)) (hd:(x==("__debug__" :Str))=false):SE X XP mp (.Name x pos) (fC (.int i)):=fun M0 F Γ ν σ H Q rs hs hp=>by
 obtain⟨t,hm⟩:=hm
 exact (zaG (v:=.int i) hg hm ⟨t,rfl⟩ hd).wp (hp F H rs (.refl F H) _ (Rep.int i))
noncomputable def OpS (X:Cx) (f:Value->Value->Sem Value) (g:PyData->PyData->Option PyData):Prop:=∀ x y z,g x y=some z->∃ r:R2,OpR X f r/\∀ (M:Addr->Prop) (H:Hp) (v u:V) (Q:VK),
 Al M H->Rep M H v x->Rep M H u y->(∀ w H',Same H H'->Rep M H' w z->Q w H')->r v u H Q
noncomputable def fBin (g:PyData->PyData->Option PyData) (fa fb:EM FV):EM FV:=fun Γ=>(fa Γ).bind fun (u,Γ1)=>(fb Γ1).bind fun (w,Γ2)=>match derS Γ2 u,derS Γ2 w with
 | some x,some y=>match g x y with
  | some z=>.ok (.dat z,Γ2)
  | none=>.bad
 | _,_=>.bad
theorem zdc {op:Operator}{g:PyData->PyData->Option PyData}(ho:OpS X (binaryOp op) g) (ha:SE X XP mp a fa) (hb:SE X XP mp b fb):SE X XP mp (.BinOp a op b pos) (fBin g fa fb):=fun M0 F Γ ν σ H Q rs hs hp=>by
 have key:∀ x y z,g x y=some z->∃ r:R2,OpR X (binaryOp op) r/\∀ (M:Addr->Prop) (H:Hp) (v u:V) (Q:VK),Al M H->Rep M H v x->Rep M H u y->(∀ w H',Same H H'->Rep M H' w z->Q w H')->r v u H Q:=ho
 refine (wd (r:=fun v u H Q=>∃ M x y z,g x y=some z/\Al M H/\Rep M H v x/\Rep M H u y/\∀ w H',Same H H'->Rep M H' w z->Q w H') ?_ zf zf).wp
  (ha.run rs hs hp fun F1 Γ1 H1 u v rs1 s1 o1 h1=>hb.run rs1 hs h1 fun F2 Γ2 H2 w v2 rs2 s2 o2 h2=>?_)
 ·rintro pins s σ H x y v u Q I rx ry ⟨M,dx,dy,dz,e,al,r1,r2,k⟩
  obtain⟨r,hr,hh⟩:=ho dx dy dz e
  exact hr pins s σ H x y v u Q I rx ry (hh M H x y Q al r1 r2 k)
 ·dsimp only at h2
  split at h2
  ·rename_i x y e1 e2
   split at h2
   ·rename_i z e3
    exact⟨MM M0 F2,x,y,z,e3,rs2.al,(o1.stp s2 rs1.al0).strong rs2 e1,o2.strong rs2 e2,fun w' H3 s3 r3=>h2 F2 H3 (rs2.same s3) (.same s3) w' r3⟩
   ·exact h2.elim
  ·exact h2.elim
noncomputable def Wh (X:Cx) (op:CmpOp) (g:PyData->PyData->Option Bool):Prop:=∀ x y z,g x y=some z->∃ r:R2,OpR X (compareOp op) r/\∀ (H:Hp) (v u:V) (Q:VK),
 Rep zu H v x->Rep zu H u y->Q (.bl z) H->r v u H Q
noncomputable def fCmp (g:PyData->PyData->Option Bool) (fa fb:EM FV):EM Bool:=fun Γ=>(fa Γ).bind fun (u,Γ1)=>(fb Γ1).bind fun (w,Γ2)=>match derf Γ2 u,derf Γ2 w with
 | some x,some y=>match g x y with
  | some z=>.ok (z,Γ2)
  | none=>.bad
 | _,_=>.bad
noncomputable def fB (t:EM Bool):EM FV:=fun Γ=>(t Γ).bind fun (b,Γ1)=>.ok (.dat (.bool b),Γ1)
theorem js {op:CmpOp}{g:PyData->PyData->Option Bool}(ho:Wh X op g):OpR X (compareOp op) (fun v u H Q=>∃ x y z,g x y=some z/\Rep zu H v x/\Rep zu H u y/\Q (.bl z) H):=by
 rintro pins s σ H x y v u Q I rx ry ⟨dx,dy,dz,e,r1,r2,k⟩
 obtain⟨r,hr,hh⟩:=ho dx dy dz e
 exact hr pins s σ H x y v u Q I rx ry (hh H x y Q r1 r2 k)
section
variable {M0:Addr->Prop} {F:Fp} {Γ:Gv} {ν:Nu} {σ:St} {H:Hp} {β:Type} {P:Fp->Gv->Hp->β->Prop}
theorem VJ {g:PyData->PyData->Option Bool}{k:Bool×Gv->R (β×Gv)}{Q:VK}(ha:SE X XP mp a fa) (hb:SE X XP mp b fb) (rs:RS M0 F Γ ν H) (hs:Sees mp ν σ) (hp:EPost M0 F ν σ H XP P ((fCmp g fa fb Γ).bind k))
  (kk:∀ F2 Γ2 H2 z,RS M0 F2 Γ2 ν H2->Stp F H F2 H2->EPost M0 F2 ν σ H2 XP P (k (z,Γ2))->Q (.bl z) H2) :
  wpE X a σ H fun v H1=>wpE X b σ H1 fun u H2=>∃ x y z,g x y=some z/\Rep zu H2 v x/\Rep zu H2 u y/\Q (.bl z) H2:=by
 have hp':EPost M0 F ν σ H XP P ((fa Γ).bind fun (u,Γ1)=>(fb Γ1).bind fun (w,Γ2)=>(match derf Γ2 u,derf Γ2 w with
  | some x,some y=>match g x y with
   | some z=>R.ok (z,Γ2)
   | none=>.bad
  | _,_=>.bad).bind k):=by
  have e:((fCmp g fa fb Γ).bind k)=((fa Γ).bind fun (u,Γ1)=>(fb Γ1).bind fun (w,Γ2)=>(match derf Γ2 u,derf Γ2 w with
   | some x,some y=>match g x y with
    | some z=>R.ok (z,Γ2)
    | none=>.bad
   | _,_=>.bad).bind k):=by
   unfold fCmp
   cases fa Γ with
   | ok a=>
    obtain⟨a,Γ1⟩:=a
    simp only[R.bind]
    cases fb Γ1 <;> rfl
   | exc x y=>rfl
   | bad=>rfl
  rw[<- e]; exact hp
 refine ha.run rs hs hp' fun F1 Γ1 H1 u v rs1 s1 o1 h1=>hb.run rs1 hs h1 fun F2 Γ2 H2 w v2 rs2 s2 o2 h2=>?_
 dsimp only at h2
 split at h2
 ·rename_i x y e1 e2
  split at h2
  ·rename_i z e3
   exact⟨x,y,z,e3,(o1.stp s2 rs1.al0).weak rs2 e1,o2.weak rs2 e2,kk F2 Γ2 H2 z rs2 (s1.trans s2) h2⟩
  ·exact h2.elim
 ·exact h2.elim
end
theorem R.bind_ok {α:Type}(r:R α):r.bind .ok=r:=by cases r <;> rfl
theorem zdd {op:CmpOp}{g:PyData->PyData->Option Bool}(ho:Wh X op g) (ha:SE X XP mp a fa) (hb:SE X XP mp b fb) (hm:behindInMarks op b=false):SE X XP mp (.Compare a [op] [b] pos) (fB (fCmp g fa fb)):=fun M0 F Γ ν σ H Q rs hs hp=>
 (zaE (js ho) zf zf hm).wp (VJ ha hb rs hs hp fun F2 Γ2 H2 z rs2 s2 h2=>h2 F2 H2 rs2 (.refl _ _) _ (Rep.bool z))
theorem zdz {op:CmpOp}{g:PyData->PyData->Option Bool}(ho:Wh X op g) (ha:SE X XP mp a fa) (hb:SE X XP mp b fb) (hm:behindInMarks op b=false):ST X XP mp (.Compare a [op] [b] pos) (fCmp g fa fb):=fun M0 F Γ ν σ H Q rs hs hp=>
 (zaM (js ho) zf zf hm).wp (VJ (k:=.ok) (Q:=fun v H'=>∃ k,v=.bl k/\Q k H') ha hb rs hs (by rw[R.bind_ok]; exact hp) fun F2 Γ2 H2 z rs2 s2 h2=>⟨z,rfl,h2 F2 H2 rs2 (.refl _ _)⟩)
end
end L3
namespace L3
open PySem PySem.Spec PyProof.Rows L2
variable [Cs]
noncomputable def truD:PyData->Option Bool
 | .none=>some false
 | .bool b=>some b
 | .int i=>some (i !=0)
 | .list xs=>some (!xs.isEmpty)
 | .tuple xs=>some (!xs.isEmpty)
 | _=>none
theorem WP {M:Addr->Prop}{H:Hp}{vs:List V}{ds:List PyData}(r:RepL M H vs ds):(!vs.isEmpty)= !ds.isEmpty:=by cases r <;> rfl
theorem V9 {K:PySem.W.Frag}{M:Addr->Prop}{H:Hp}{v:V}{x:PyData}{k:Bool}(r:Rep M H v x) (e:truD x=some k):K3 K v H k:=by
 cases r with
 | none=>cases e; rfl
 | bool b=>cases e; rfl
 | int i=>cases e; rfl
 | str x=>cases e
 | list ea n q=>cases e; exact .inl ⟨_,SqL.of ea,(WP q).symm⟩
 | tuple ea q=>cases e; exact .inr (.inl ⟨_,SqT.of ea,(WP q).symm⟩)
 | dict _ _ _ _=>cases e
 | inst _ _ _ _=>cases e
section
variable {X:Cx} {XP:XPT} {mp:List Nat} {a b c e:Expr} {es:List Expr} {pos p p2:Pos} {fa fb fc:EM FV} {ta tb:EM Bool} {na nb:EM (List PyData)}
noncomputable def fTru (fa:EM FV):EM Bool:=fun Γ=>(fa Γ).bind fun (u,Γ1)=>match (derf Γ1 u).bind truD with
 | some k=>.ok (k,Γ1)
 | none=>.bad
theorem Kp (ha:SE X XP mp a fa) (he:∀ whole,isTrue a X.env whole=(do let v<-whole; standAt a.pos; holding [v] (truthy v))):ST X XP mp a (fTru fa):=fun M0 F Γ ν σ H Q rs hs hp=>
 (kU zf he).wp (ha.run rs hs hp fun F1 Γ1 H1 u v rs1 s1 o1 h1=>by
  dsimp only at h1
  split at h1
  ·rename_i k ek
   cases ex:derf Γ1 u with
   | none=>rw[ex] at ek; cases ek
   | some x=>
    rw[ex] at ek
    exact⟨k,V9 (o1.weak rs1 ex) ek,h1 F1 H1 rs1 (.refl _ _)⟩
  ·exact h1.elim)
noncomputable def fNotT (ta:EM Bool):EM Bool:=fun Γ=>(ta Γ).bind fun (b,Γ1)=>.ok (!b,Γ1)
theorem zdA (h:ST X XP mp a ta):ST X XP mp (.UnaryOp .Not a pos) (fNotT ta):=fun M0 F Γ ν σ H Q rs hs hp=>
 (zcZ qH).wp (h.run rs hs hp fun F1 Γ1 H1 b rs1 s1 h1=>h1 F1 H1 rs1 (.refl _ _))
theorem SW.st (h:SW X XP mp a ta):ST X XP mp a ta:=fun M0 F Γ ν σ H Q rs hs hp pins s I=>h M0 F Γ ν σ H Q rs hs hp _ pins s I
theorem zbk (h:ST X XP mp a ta):SW X XP mp (.BoolOp .And [a] pos) ta:=fun M0 F Γ ν σ H Q rs hs hp=>(zaO qH).wp (h M0 F Γ ν σ H Q rs hs hp)
theorem zbl (h:ST X XP mp a ta):SW X XP mp (.BoolOp .Or [a] pos) ta:=fun M0 F Γ ν σ H Q rs hs hp=>(zc2 qH).wp (h M0 F Γ ν σ H Q rs hs hp)
noncomputable def fAndT (ta tb:EM Bool):EM Bool:=fun Γ=>(ta Γ).bind fun (b,Γ1)=>if b then tb Γ1 else .ok (false,Γ1)
noncomputable def fOrT (ta tb:EM Bool):EM Bool:=fun Γ=>(ta Γ).bind fun (b,Γ1)=>if b then .ok (true,Γ1) else tb Γ1
theorem Ks (ha:ST X XP mp a ta) (hb:SW X XP mp (.BoolOp .And (b::es) pos) tb):SW X XP mp (.BoolOp .And (a::b::es) pos) (fAndT ta tb):=fun M0 F Γ ν σ H Q rs hs hp=>
 (zc1 qH V3).wp (ha.run rs hs hp fun F1 Γ1 H1 b rs1 s1 h1=>by
  cases b with
  | true=>exact WS (hb M0 F1 Γ1 ν σ H1 Q rs1 hs h1)
  | false=>exact WR (h1 F1 H1 rs1 (.refl _ _)))
theorem zbU (ha:ST X XP mp a ta) (hb:SW X XP mp (.BoolOp .Or (b::es) pos) tb):SW X XP mp (.BoolOp .Or (a::b::es) pos) (fOrT ta tb):=fun M0 F Γ ν σ H Q rs hs hp=>
 (zet qH V3).wp (ha.run rs hs hp fun F1 Γ1 H1 b rs1 s1 h1=>by
  cases b with
  | true=>exact WS (h1 F1 H1 rs1 (.refl _ _))
  | false=>exact WR (hb M0 F1 Γ1 ν σ H1 Q rs1 hs h1))
noncomputable def fAndV (fa fb:EM FV):EM FV:=fun Γ=>(fa Γ).bind fun (u,Γ1)=>match derf Γ1 u with
 | some (.bool true)=>fb Γ1
 | some (.bool false)=>.ok (.dat (.bool false),Γ1)
 | _=>.bad
noncomputable def fOrV (fa fb:EM FV):EM FV:=fun Γ=>(fa Γ).bind fun (u,Γ1)=>match derf Γ1 u with
 | some (.bool true)=>.ok (.dat (.bool true),Γ1)
 | some (.bool false)=>fb Γ1
 | _=>.bad
theorem Kb {op}(h:SE X XP mp a fa):SE X XP mp (.BoolOp op [a] pos) fa:=fun M0 F Γ ν σ H Q rs hs hp=>(zcT zf).wp (h M0 F Γ ν σ H Q rs hs hp)
theorem k8 (ha:SE X XP mp a fa) (hb:SE X XP mp (.BoolOp .And (b::es) pos) fb):SE X XP mp (.BoolOp .And (a::b::es) pos) (fAndV fa fb):=fun M0 F Γ ν σ H Q rs hs hp=>
 (zcS zf zf).wp (ha.run rs hs hp fun F1 Γ1 H1 u v rs1 s1 o1 h1=>by
  dsimp only at h1
  split at h1
  ·rename_i ex
   cases o1.weak rs1 ex
   exact⟨true,rfl,WS (hb M0 F1 Γ1 ν σ H1 Q rs1 hs h1)⟩
  ·rename_i ex
   cases o1.weak rs1 ex
   exact⟨false,rfl,WR (h1 F1 H1 rs1 (.refl _ _) _ (Rep.bool false))⟩
  ·exact h1.elim)
theorem zbR (ha:SE X XP mp a fa) (hb:SE X XP mp (.BoolOp .Or (b::es) pos) fb):SE X XP mp (.BoolOp .Or (a::b::es) pos) (fOrV fa fb):=fun M0 F Γ ν σ H Q rs hs hp=>
 (zer zf zf).wp (ha.run rs hs hp fun F1 Γ1 H1 u v rs1 s1 o1 h1=>by
  dsimp only at h1
  split at h1
  ·rename_i ex
   cases o1.weak rs1 ex
   exact⟨true,rfl,WS (h1 F1 H1 rs1 (.refl _ _) _ (Rep.bool true))⟩
  ·rename_i ex
   cases o1.weak rs1 ex
   exact⟨false,rfl,WR (hb M0 F1 Γ1 ν σ H1 Q rs1 hs h1)⟩
  ·exact h1.elim)
theorem zbu:UnR X (unaryOp .Not) (fun x H Q=>∃ k,K3 X.K x H k/\Q (.bl (!k)) H):=by
 intro pins s σ H x v Q I rx h
 obtain⟨k,hk,q⟩:=h
 exact not_of (thn (Kw pins s σ H x v _ I rx ⟨k,hk,q⟩) fun b s' ⟨H',I',q'⟩=>⟨.bl (!b),H',I',rfl,q'⟩)
theorem zdh (ha:SE X XP mp a fa):SE X XP mp (.UnaryOp .Not a pos) (fB (fNotT (fTru fa))):=fun M0 F Γ ν σ H Q rs hs hp=>by
 refine (zbQ zbu zf).wp (ha.run (k:=fun (u,Γ1)=>match (derf Γ1 u).bind truD with
  | some k=>R.ok (FV.dat (.bool (!k)),Γ1)
  | none=>.bad) (P:=fun F' Γ' H' u=>∀ (v:V),FOk M0 F' ν H' v u->Q v H') rs hs ?_ fun F1 Γ1 H1 u v rs1 s1 o1 h1=>?_)
 ·have e:fB (fNotT (fTru fa)) Γ=(fa Γ).bind fun (u,Γ1)=>match (derf Γ1 u).bind truD with
   | some k=>.ok (.dat (.bool (!k)),Γ1)
   | none=>.bad:=by
   unfold fB fNotT fTru
   cases fa Γ with
   | ok a=>
    obtain⟨u,Γ1⟩:=a
    simp only[R.bind]
    cases (derf Γ1 u).bind truD <;> rfl
   | exc x y=>rfl
   | bad=>rfl
  rw[<- e]; exact hp
 ·dsimp only at h1
  split at h1
  ·rename_i k ek
   cases ex:derf Γ1 u with
   | none=>rw[ex] at ek; cases ek
   | some x=>
    rw[ex] at ek
    exact⟨k,V9 (o1.weak rs1 ex) ek,h1 F1 H1 rs1 (.refl _ _) _ (Rep.bool (!k))⟩
  ·exact h1.elim
noncomputable def fIf (t:EM Bool) (fa fb:EM FV):EM FV:=fun Γ=>(t Γ).bind fun (b,Γ1)=>if b then fa Γ1 else fb Γ1
theorem zeB (hc:ST X XP mp c ta) (ha:SE X XP mp a fa) (hb:SE X XP mp b fb):SE X XP mp (.IfExp c a b pos) (fIf ta fa fb):=fun M0 F Γ ν σ H Q rs hs hp=>
 (kH qH zf zf).wp (hc.run rs hs hp fun F1 Γ1 H1 b rs1 s1 h1=>by
  cases b with
  | true=>exact WS (ha M0 F1 Γ1 ν σ H1 Q rs1 hs h1)
  | false=>exact WR (hb M0 F1 Γ1 ν σ H1 Q rs1 hs h1))
noncomputable def fChain (g g':PyData->PyData->Option Bool) (fa fb fc:EM FV):EM Bool:=fun Γ=>(fa Γ).bind fun (u,Γ1)=>(fb Γ1).bind fun (w,Γ2)=>match derf Γ2 u,derf Γ2 w with
 | some x,some y=>match g x y with
  | some true=>(fc Γ2).bind fun (t,Γ3)=>match derf Γ3 w,derf Γ3 t with
   | some y,some z=>match g' y z with
    | some k=>.ok (k,Γ3)
    | none=>.bad
   | _,_=>.bad
  | some false=>.ok (false,Γ2)
  | none=>.bad
 | _,_=>.bad
theorem R.bind_assoc {α β γ:Type}(r:R α) (f:α->R β) (g:β->R γ):(r.bind f).bind g=r.bind fun a=>(f a).bind g:=by cases r <;> rfl
section
variable {M0:Addr->Prop} {F:Fp} {Γ:Gv} {ν:Nu} {σ:St} {H:Hp} {β:Type} {P:Fp->Gv->Hp->β->Prop}
theorem JV {g g':PyData->PyData->Option Bool}{k:Bool×Gv->R (β×Gv)}{Q:VK}(ha:SE X XP mp a fa) (hb:SE X XP mp b fb) (hc:SE X XP mp c fc) (rs:RS M0 F Γ ν H) (hs:Sees mp ν σ) (hp:EPost M0 F ν σ H XP P ((fChain g g' fa fb fc Γ).bind k))
  (kk:∀ F2 Γ2 H2 z,RS M0 F2 Γ2 ν H2->EPost M0 F2 ν σ H2 XP P (k (z,Γ2))->Q (.bl z) H2) :
  Vi (fun v u H Q=>∃ x y z,g x y=some z/\Rep zu H v x/\Rep zu H u y/\Q (.bl z) H) (fun v u H Q=>∃ x y z,g' x y=some z/\Rep zu H v x/\Rep zu H u y/\Q (.bl z) H) (wpE X a) (wpE X b) (wpE X c) σ H Q:=by
 unfold fChain at hp
 rw[R.bind_assoc] at hp
 refine ha.run rs hs hp fun F1 Γ1 H1 u v rs1 s1 o1 h1=>?_
 dsimp only at h1
 rw[R.bind_assoc] at h1
 refine hb.run rs1 hs h1 fun F2 Γ2 H2 w v2 rs2 s2 o2 h2=>?_
 dsimp only at h2
 split at h2
 ·rename_i x y e1 e2
  split at h2
  ·rename_i e3
   refine⟨x,y,true,e3,(o1.stp s2 rs1.al0).weak rs2 e1,o2.weak rs2 e2,true,rfl,WS ?_⟩
   rw[R.bind_assoc] at h2
   refine hc.run rs2 hs h2 fun F3 Γ3 H3 t v3 rs3 s3 o3 h3=>?_
   dsimp only at h3
   split at h3
   ·rename_i y' z e4 e5
    split at h3
    ·rename_i kz e6
     exact⟨y',z,kz,e6,(o2.stp s3 rs2.al0).weak rs3 e4,o3.weak rs3 e5,kk F3 Γ3 H3 kz rs3 h3⟩
    ·exact h3.elim
   ·exact h3.elim
  ·rename_i e3
   exact⟨x,y,false,e3,(o1.stp s2 rs1.al0).weak rs2 e1,o2.weak rs2 e2,false,rfl,WR (kk F2 Γ2 H2 false rs2 h2)⟩
  ·exact h2.elim
 ·exact h2.elim
end
theorem Ka {op op':CmpOp}{g g':PyData->PyData->Option Bool}(ho:Wh X op g) (ho':Wh X op' g') (ha:SE X XP mp a fa) (hb:SE X XP mp b fb) (hc:SE X XP mp c fc) (hm:lastMarks [op,op'] [b,c]=false) :
  SE X XP mp (.Compare a [op,op'] [b,c] pos) (fB (fChain g g' fa fb fc)):=fun M0 F Γ ν σ H Q rs hs hp=>
 (kD (js ho) (js ho') zf zf zf hm).wp (JV ha hb hc rs hs hp fun F2 Γ2 H2 z rs2 h2=>h2 F2 H2 rs2 (.refl _ _) _ (Rep.bool z))
theorem Ko {op op':CmpOp}{g g':PyData->PyData->Option Bool}(ho:Wh X op g) (ho':Wh X op' g') (ha:SE X XP mp a fa) (hb:SE X XP mp b fb) (hc:SE X XP mp c fc) (hm:lastMarks [op,op'] [b,c]=false) :
  ST X XP mp (.Compare a [op,op'] [b,c] pos) (fChain g g' fa fb fc):=fun M0 F Γ ν σ H Q rs hs hp=>
 (kT (js ho) (js ho') zf zf zf hm).wp (JV (k:=.ok) (Q:=fun v H'=>∃ k,v=.bl k/\Q k H') ha hb hc rs hs (by rw[R.bind_ok]; exact hp) fun F2 Γ2 H2 z rs2 h2=>⟨z,rfl,h2 F2 H2 rs2 (.refl _ _)⟩)
inductive FOks (M0:Addr->Prop) (F:Fp) (ν:Nu) (H:Hp):List V->List FV->Prop
 | nil:FOks M0 F ν H [] []
 | cons {v:V} {vs:List V} {u:FV} {us:List FV}:FOk M0 F ν H v u->FOks M0 F ν H vs us->FOks M0 F ν H (v::vs) (u::us)
noncomputable def derSs (Γ:Gv):List FV->Option (List PyData)
 | []=>some []
 | u::us=>match derS Γ u,derSs Γ us with
  | some x,some xs=>some (x::xs)
  | _,_=>none
theorem FOks.strong {M0:Addr->Prop}{F:Fp}{Γ:Gv}{ν:Nu}{H:Hp}(rs:RS M0 F Γ ν H):∀ {vs:List V}{us:List FV}{ds:List PyData},FOks M0 F ν H vs us->derSs Γ us=some ds->RepL (MM M0 F) H vs ds
 | _,_,_,.nil,e=>by cases e; exact .nil
 | _,_,_,.cons h t,e=>by
  unfold derSs at e
  split at e
  ·rename_i e1 e2
   cases e
   exact .cons (h.strong rs e1) (FOks.strong rs t e2)
  ·cases e
theorem FOks.length {M0:Addr->Prop}{F:Fp}{ν:Nu}{H:Hp}:∀ {vs:List V}{us:List FV},FOks M0 F ν H vs us->vs.length=us.length
 | _,_,.nil=>rfl
 | _,_,.cons _ t=>by rw[List.length_cons,List.length_cons,FOks.length t]
noncomputable def SL (X:Cx) (XP:XPT) (mp:List Nat) (es:List Expr) (f:EM (List FV)):Prop:=∀ (M0:Addr->Prop) (F:Fp) (Γ:Gv) (ν:Nu) (σ:St) (H:Hp) (Q:List V->Hp->Prop),RS M0 F Γ ν H->Sees mp ν σ ->
 EPost M0 F ν σ H XP (fun F' Γ' H' us=>∀ vs,FOks M0 F' ν H' vs us->Q vs H') (f Γ)->wpA X es σ H Q
theorem SL.run {β:Type}{M0:Addr->Prop}{F:Fp}{Γ:Gv}{ν:Nu}{σ:St}{H:Hp}{P:Fp->Gv->Hp->β->Prop}{fl:EM (List FV)}{Q:List V->Hp->Prop}{k:List FV×Gv->R (β×Gv)}(ha:SL X XP mp es fl) (rs:RS M0 F Γ ν H) (hs:Sees mp ν σ) (h:EPost M0 F ν σ H XP P ((fl Γ).bind k))
  (kk:∀ F1 Γ1 H1 us vs,RS M0 F1 Γ1 ν H1->Stp F H F1 H1->FOks M0 F1 ν H1 vs us->EPost M0 F1 ν σ H1 XP P (k (us,Γ1))->Q vs H1):wpA X es σ H Q :=
 ha M0 F Γ ν σ H Q rs hs (h.seq.mono fun F1 Γ1 H1 u rs1 s1 h1 v hv=>kk F1 Γ1 H1 u v rs1 s1 hv h1)
noncomputable def fNil:EM (List FV):=fun Γ=>.ok ([],Γ)
noncomputable def fCons (fa:EM FV) (fl:EM (List FV)):EM (List FV):=fun Γ=>(fa Γ).bind fun (u,Γ1)=>(fl Γ1).bind fun (us,Γ2)=>.ok (u::us,Γ2)
theorem zdp:SL X XP mp [] fNil:=fun M0 F Γ ν σ H Q rs hs hp=>pa_nil.wp (hp F H rs (.refl _ _) [] .nil)
theorem zba {fl:EM (List FV)}(ha:SE X XP mp a fa) (hl:SL X XP mp es fl) (hst:starEach (a::es) X.env=(false,eval a X.env)::starEach es X.env):SL X XP mp (a::es) (fCons fa fl):=fun M0 F Γ ν σ H Q rs hs hp=>
 (zp zf qG hst).wp (ha.run rs hs hp fun F1 Γ1 H1 u v rs1 s1 o1 h1=>hl.run rs1 hs h1 fun F2 Γ2 H2 us vs rs2 s2 o2 h2=>h2 F2 H2 rs2 (.refl _ _) _ (.cons (o1.stp s2 rs1.al0) o2))
theorem sz6 {n:Nat}(h:n<=1000000):n<=sizeLine:=by have:=sizeLine_eq; omega
noncomputable def fTup (fl:EM (List FV)):EM FV:=fun Γ=>(fl Γ).bind fun (us,Γ1)=>match derSs Γ1 us with
 | some ds=>if us.length<=1000000 then .ok (.dat (.tuple ds),Γ1) else .bad
 | none=>.bad
noncomputable def fLst (fl:EM (List FV)):EM (List PyData):=fun Γ=>(fl Γ).bind fun (us,Γ1)=>match derSs Γ1 us with
 | some ds=>if us.length<=1000000 then .ok (ds,Γ1) else .bad
 | none=>.bad
theorem zdi {fl:EM (List FV)} {x1}(h:SL X XP mp es fl):SE X XP mp (.Tuple es x1 pos) (fTup fl):=fun M0 F Γ ν σ H Q rs hs hp=>
 (zcU qG).wp (h.run rs hs hp fun F1 Γ1 H1 us vs rs1 s1 o1 h1=>by
  dsimp only at h1
  split at h1
  ·rename_i ds e
   split at h1
   ·rename_i hz
    exact⟨by rw[o1.length]; exact sz6 hz,fun p n=>h1 F1 _ (rs1.same (zv n)) (.same (zv n)) _ (Rep.tuple zi ((o1.strong rs1 e).grow (zv n).grow))⟩
   ·exact h1.elim
  ·exact h1.elim)
theorem zdr {fl:EM (List FV)}(h:SL X XP mp es fl):SN X XP mp (.List es pos) (fLst fl):=fun M0 F Γ ν σ H Q rs hs hp=>
 (kI qG).wp (h.run rs hs hp fun F1 Γ1 H1 us vs rs1 s1 o1 h1=>by
  dsimp only at h1
  split at h1
  ·rename_i ds e
   split at h1
   ·rename_i hz
    exact⟨by rw[o1.length]; exact sz6 hz,fun p n=>h1 F1 H1 rs1 (.refl _ _) vs p (o1.strong rs1 e) n⟩
   ·exact h1.elim
  ·exact h1.elim)
noncomputable def itemF (Γ:Gv) (u:FV) (i:Int):Option PyData:=match u with
 | .dat (.list xs)=>atI xs i
 | .dat (.tuple xs)=>atI xs i
 | .own k=>match Γ[k]? with
  | some (some (.l xs))=>match atI xs i with
   | some (.d x)=>some x
   | _=>none
  | some (some (.d (.list xs)))=>atI xs i
  | _=>none
 | _=>none
theorem zaa {α:Type}{xs:List α}{i:Int}{x:α}(h:atI xs i=some x):∃ j,ixN xs.length i=some j/\xs[j]?=some x:=by
 unfold atI at h
 cases e:ixN xs.length i with
 | none=>rw[e] at h; cases h
 | some j=>rw[e] at h; exact⟨j,rfl,h⟩
theorem zb4 {α:Type}{xs:List α}{i:Int}{x:α}{j:Nat}(h:ixN xs.length i=some j) (h2:xs[j]?=some x):atI xs i=some x:=by
 unfold atI; rw[h]; exact h2
theorem FOk.item {M0:Addr->Prop}{F:Fp}{Γ:Gv}{ν:Nu}{H:Hp}{v:V}{u:FV}{i:Int}{x:PyData}{K:PySem.W.Frag}(h:FOk M0 F ν H v u) (rs:RS M0 F Γ ν H) (e:itemF Γ u i=some x) :
  ∃ l vs w,v=.ref l/\(SqL K H l vs∨SqT K H l vs)/\atI vs i=some w/\Rep (MM M0 F) H w x:=by
 unfold itemF at e
 split at e
 ·obtain⟨a,vs,rfl,e1,_,r⟩:=Rep.lst_inv h
  obtain⟨w,ew,rw'⟩:=wD r e
  exact⟨a,vs,w,rfl,.inl (SqL.of e1),ew,rw'⟩
 ·obtain⟨a,vs,rfl,e1,r⟩:=Rep.tup_inv h
  obtain⟨w,ew,rw'⟩:=wD r e
  exact⟨a,vs,w,rfl,.inr (SqT.of e1),ew,rw'⟩
 ·rename_i k
  have h':ν[k]?=some (some v):=h
  split at e
  ·rename_i q
   split at e
   ·rename_i y eo
    cases e
    obtain⟨w,e1,r⟩:=rs.at' k _ q
    rw[h'] at e1; cases e1
    generalize F k=A at r
    cases r with
    | l ea qa=>
     obtain⟨j,ej,exj⟩:=zaa eo
     obtain⟨w,ew,r⟩:=qa.get exj
     rw[<- qa.length] at ej
     exact⟨_,_,w,rfl,.inl (SqL.of ea),zb4 ej ew,r⟩
   ·cases e
  ·rename_i q
   obtain⟨w,e1,r⟩:=rs.at' k _ q
   rw[h'] at e1; cases e1
   generalize F k=A at r
   cases r with
   | d r=>
    obtain⟨a,vs,rfl,e1,_,r⟩:=Rep.lst_inv r
    obtain⟨w,ew,rw'⟩:=wD r e
    exact⟨a,vs,w,rfl,.inl (SqL.of e1),ew,rw'⟩
  ·cases e
 ·cases e
noncomputable def fIx (fa fb:EM FV):EM FV:=fun Γ=>(fa Γ).bind fun (u,Γ1)=>(fb Γ1).bind fun (w,Γ2)=>match derf Γ2 w with
 | some (.int i)=>match itemF Γ2 u i with
  | some x=>.ok (.dat x,Γ2)
  | none=>.bad
 | _=>.bad
theorem zeC (ha:SE X XP mp a fa) (hb:SE X XP mp b fb) (hx:wy b):SE X XP mp (.Subscript a b pos) (fIx fa fb):=fun M0 F Γ ν σ H Q rs hs hp=>
 (zeq (ix_list.or zcz) zf zf hx).wp (ha.run rs hs hp fun F1 Γ1 H1 u v rs1 s1 o1 h1=>hb.run rs1 hs h1 fun F2 Γ2 H2 w v2 rs2 s2 o2 h2=>by
  dsimp only at h2
  split at h2
  ·rename_i i e1
   split at h2
   ·rename_i x e2
    obtain⟨l,vs,z,rfl,hq,ez,rz⟩:=(o1.stp s2 rs1.al0).item (K:=X.K) rs2 e2
    cases o2.weak rs2 e1
    rcases hq with hq | hq
    ·exact .inl ⟨l,vs,i,z,rfl,rfl,hq,ez,h2 F2 H2 rs2 (.refl _ _) z rz⟩
    ·exact .inr ⟨l,vs,i,z,rfl,rfl,hq,ez,h2 F2 H2 rs2 (.refl _ _) z rz⟩
   ·exact h2.elim
  ·exact h2.elim)
noncomputable def SOp (X:Cx) (XP:XPT) (mp:List Nat) (e:Option Expr) (f:EM (Option Int)):Prop:=∃ t:TO,PO X e t/\∀ (M0:Addr->Prop) (F:Fp) (Γ:Gv) (ν:Nu) (σ:St) (H:Hp) (Q:Option Int->Hp->Prop),RS M0 F Γ ν H->Sees mp ν σ ->
 EPost M0 F ν σ H XP (fun F' Γ' H' b=>Q b H') (f Γ)->t σ H Q
noncomputable def zd4:EM (Option Int):=fun Γ=>.ok (none,Γ)
noncomputable def zd3 (fa:EM FV):EM (Option Int):=fun Γ=>(fa Γ).bind fun (u,Γ1)=>match derf Γ1 u with
 | some (.int i)=>.ok (some i,Γ1)
 | _=>.bad
theorem zbh:SOp X XP mp none zd4:=⟨_,wY,fun M0 F Γ ν σ H Q rs hs hp=>hp F H rs (.refl _ _)⟩
theorem zbi (ha:SE X XP mp a fa):SOp X XP mp (some a) (zd3 fa):=⟨_,wZ zf,fun M0 F Γ ν σ H Q rs hs hp=>ha.run rs hs hp fun F1 Γ1 H1 u v rs1 s1 o1 h1=>by
 dsimp only at h1
 split at h1
 ·rename_i i e1
  cases o1.weak rs1 e1
  exact⟨i,rfl,h1 F1 H1 rs1 (.refl _ _)⟩
 ·exact h1.elim⟩
noncomputable def zcp (fa fb:EM FV):EM (List PyData):=fun Γ=>(fa Γ).bind fun (u,Γ1)=>(fb Γ1).bind fun (w,Γ2)=>match derL Γ2 u,derL Γ2 w with
 | some xs,some ys=>if xs.length+ys.length<=1000000 then .ok (xs++ys,Γ2) else .bad
 | _,_=>.bad
theorem zdq (ha:SE X XP mp a fa) (hb:SE X XP mp b fb):SN X XP mp (.BinOp a .Add b pos) (zcp fa fb):=fun M0 F Γ ν σ H Q rs hs hp=>
 (wd zcM zf zf).wp (ha.run rs hs hp fun F1 Γ1 H1 u v rs1 s1 o1 h1=>hb.run rs1 hs h1 fun F2 Γ2 H2 w v2 rs2 s2 o2 h2=>by
  dsimp only at h2
  split at h2
  ·rename_i xs ys e1 e2
   split at h2
   ·rename_i hz
    obtain⟨l,vs,rfl,el,rl⟩:=(o1.stp s2 rs1.al0).list rs2 e1
    obtain⟨l2,vs2,rfl,el2,rl2⟩:=o2.list rs2 e2
    exact⟨l,l2,vs,vs2,rfl,rfl,el,el2,by rw[rl.length,rl2.length]; exact sz6 hz,fun p n=>h2 F2 H2 rs2 (.refl _ _) _ p (rl.append rl2) n⟩
   ·exact h2.elim
  ·exact h2.elim)
structure BiK (X:Cx) (x:Str) (val:Value):Prop where
 gl:Gl X x
 mg:X.mg x=none
 bt:bootBuiltins x=some val
 n:x≠ "__name__"
 d:(x==("__debug__" :Str))=false
noncomputable def lenD:PyData->Option Nat
 | .list xs=>some xs.length
 | .tuple xs=>some xs.length
 | _=>none
noncomputable def f1 (g:PyData->Option PyData) (fa:EM FV):EM FV:=fun Γ=>(fa Γ).bind fun (u,Γ1)=>match (derf Γ1 u).bind g with
 | some y=>.ok (.dat y,Γ1)
 | none=>.bad
noncomputable def Qa (X:Cx) (f:Value) (g:PyData->Option PyData):Prop:=∀ x z,g x=some z->noL z=true/\∃ r,qz X f r/\∀ (H:Hp) (v:V) (Q:VK),
 Rep zu H v x->(∀ w,Rep zu H w z->Q w H)->r [v] H Q
theorem Wt {f:Value}{g:PyData->Option PyData}(ho:Qa X f g):qz X f (fun vs H Q=>∃ v x z,vs= [v]/\g x=some z/\Rep zu H v x/\∀ w,Rep zu H w z->Q w H):=by
 rintro pins s σ H xs us Q I r ⟨v,x,z,rfl,e,rv,k⟩
 obtain⟨_,r',hr,hh⟩:=ho x z e
 exact hr pins s σ H [v] us Q I r (hh H v Q rv k)
theorem YQ {M0:Addr->Prop}{F:Fp}{Γ:Gv}{ν:Nu}{σ:St}{H:Hp}{g:PyData->Option PyData}{Q:VK}(hz:∀ x z,g x=some z->noL z=true) (ha:SE X XP mp a fa) (rs:RS M0 F Γ ν H) (hs:Sees mp ν σ) (hst:starEach [a] X.env= [(false,eval a X.env)])
  (hp:EPost M0 F ν σ H XP (fun F' Γ' H' u=>∀ v,FOk M0 F' ν H' v u->Q v H') (f1 g fa Γ)):wpA X [a] σ H fun vs H1=>∃ v x z,vs= [v]/\g x=some z/\Rep zu H1 v x/\∀ w,Rep zu H1 w z->Q w H1 :=
 (zp zf pa_nil hst).wp (ha.run rs hs hp fun F1 Γ1 H1 u v rs1 s1 o1 h1=>by
  dsimp only at h1
  split at h1
  ·rename_i y ey
   cases ex:derf Γ1 u with
   | none=>rw[ex] at ey; cases ey
   | some x=>
    rw[ex] at ey
    exact⟨v,x,y,rfl,ey,o1.weak rs1 ex,fun w rw'=>h1 F1 H1 rs1 (.refl _ _) w (Rep.free (hz x y ey) rw')⟩
  ·exact h1.elim)
theorem k9 {x:Str}{id:String}{g:PyData->Option PyData}(ho:Qa X (.builtin id) g) (B:BiK X x (.builtin id)) (ha:SE X XP mp a fa) (hst:starEach [a] X.env= [(false,eval a X.env)]):SE X XP mp (.Call (.Name x p) [a] [] pos) (f1 g fa):=fun M0 F Γ ν σ H Q rs hs hp=>
 (jq (Wt ho) B.gl B.mg B.bt qG B.n B.d hst rfl).wp (YQ (fun x z e=>(ho x z e).1) ha rs hs hst hp)
theorem zeD {x:Str}{id:String}{g:PyData->Option PyData}(ho:Qa X (.type id) g) (B:BiK X x (.type id)) (ha:SE X XP mp a fa) (hst:starEach [a] X.env= [(false,eval a X.env)]):SE X XP mp (.Call (.Name x p) [a] [] pos) (f1 g fa):=fun M0 F Γ ν σ H Q rs hs hp=>
 (jw (Wt ho) B.gl B.mg B.bt qG B.n B.d hst rfl).wp (YQ (fun x z e=>(ho x z e).1) ha rs hs hst hp)
noncomputable def gLen (x:PyData):Option PyData:=(lenD x).map fun n=>.int n
theorem zcl:Qa X (.builtin "len") gLen:=fun x z e=>by
 cases x with
 | list xs=>cases e; exact⟨rfl,_,Zj,fun H v Q r k=>by
   obtain⟨l,vs,rfl,el,_,rl⟩:=r.lst_inv
   exact⟨l,vs,rfl,.inl (SqL.of el),by rw[rl.length]; exact k _ (.int _)⟩⟩
 | tuple xs=>cases e; exact⟨rfl,_,Zj,fun H v Q r k=>by
   obtain⟨l,vs,rfl,el,rl⟩:=r.tup_inv
   exact⟨l,vs,rfl,.inr (SqT.of el),by rw[rl.length]; exact k _ (.int _)⟩⟩
 | _=>cases e
noncomputable def gInt:PyData->Option PyData
 | .int i=>some (.int i)
 | .bool b=>some (.int (if b then 1 else 0))
 | _=>none
theorem zck:Qa X (.type "int") gInt:=fun x z e=>by
 cases x with
 | int i=>cases e; exact⟨rfl,_,JT,fun H v Q r k=>by cases r; exact .inl ⟨i,rfl,k _ (.int _)⟩⟩
 | bool b=>cases e; exact⟨rfl,_,JT,fun H v Q r k=>by cases r; exact .inr ⟨b,rfl,k _ (.int _)⟩⟩
 | _=>cases e
noncomputable def z8:List PyData->Option (List Bool)
 | []=>some []
 | .bool b::r=>(z8 r).map (b::·)
 | _=>none
theorem ji (bs:List Bool):z8 (bs.map .bool)=some bs:=by
 induction bs with
 | nil=>rfl
 | cons b r ih=>simp[z8,ih]
theorem jJ:∀ {ds:List PyData}{bs:List Bool},z8 ds=some bs->ds=bs.map .bool
 | [],bs,e=>by cases e; rfl
 | .bool b::r,bs,e=>by
  unfold z8 at e
  cases q:z8 r with
  | none=>rw[q] at e; cases e
  | some l=>rw[q] at e; cases e; rw[jJ q]; rfl
 | .none::r,bs,e=>by cases e
 | .int _::r,bs,e=>by cases e
 | .str _::r,bs,e=>by cases e
 | .list _::r,bs,e=>by cases e
 | .tuple _::r,bs,e=>by cases e
 | .dict _::r,bs,e=>by cases e
noncomputable def gAll:PyData->Option PyData
 | .list xs=>(z8 xs).map fun bs=>.bool (bs.all id)
 | _=>none
noncomputable def gAny:PyData->Option PyData
 | .list xs=>(z8 xs).map fun bs=>.bool (bs.any id)
 | _=>none
theorem zci (hc:X.calm=true):Qa X (.builtin "all") gAll:=fun x z e=>by
 cases x with
 | list xs=>
  dsimp only [gAll] at e
  cases q:z8 xs with
  | none=>rw[q] at e; cases e
  | some bs=>
   rw[q] at e; cases e
   exact⟨rfl,_,yz hc,fun H v Q r k=>by
    obtain⟨l,vs,rfl,el,_,rl⟩:=r.lst_inv
    rw[jJ q] at rl
    rw[rl.bls] at el
    exact⟨l,bs,rfl,SqL.of el,k _ (.bool _)⟩⟩
 | _=>cases e
theorem zcj (hc:X.calm=true):Qa X (.builtin "any") gAny:=fun x z e=>by
 cases x with
 | list xs=>
  dsimp only [gAny] at e
  cases q:z8 xs with
  | none=>rw[q] at e; cases e
  | some bs=>
   rw[q] at e; cases e
   exact⟨rfl,_,yA hc,fun H v Q r k=>by
    obtain⟨l,vs,rfl,el,_,rl⟩:=r.lst_inv
    rw[jJ q] at rl
    rw[rl.bls] at el
    exact⟨l,bs,rfl,SqL.of el,k _ (.bool _)⟩⟩
 | _=>cases e
noncomputable def zt (Γ:Gv) (u:FV):Option (List PyData):=match u with
 | .dat (.tuple xs)=>some xs
 | u=>derL Γ u
theorem FOk.seq {M0:Addr->Prop}{F:Fp}{Γ:Gv}{ν:Nu}{H:Hp}{v:V}{u:FV}{ds:List PyData}{K:PySem.W.Frag}(h:FOk M0 F ν H v u) (rs:RS M0 F Γ ν H) (e:zt Γ u=some ds) :
  ∃ l vs,v=.ref l/\(SqL K H l vs∨SqT K H l vs)/\RepL (MM M0 F) H vs ds:=by
 unfold zt at e
 split at e
 ·cases e
  obtain⟨a,vs,rfl,e1,r⟩:=Rep.tup_inv h
  exact⟨a,vs,rfl,.inr (SqT.of e1),r⟩
 ·obtain⟨a,vs,rfl,e1,r⟩:=h.list rs e
  exact⟨a,vs,rfl,.inl (SqL.of e1),r⟩
noncomputable def fListC (fa:EM FV):EM (List PyData):=fun Γ=>(fa Γ).bind fun (u,Γ1)=>match zt Γ1 u with
 | some ds=>.ok (ds,Γ1)
 | none=>.bad
theorem zbd {x:Str}(B:BiK X x (.type "list")) (ha:SE X XP mp a fa) (hst:starEach [a] X.env= [(false,eval a X.env)]):SN X XP mp (.Call (.Name x p) [a] [] pos) (fListC fa):=fun M0 F Γ ν σ H Q rs hs hp=>
 (jw Zk B.gl B.mg B.bt (zp zf pa_nil hst) B.n B.d hst rfl).wp (ha.run rs hs hp fun F1 Γ1 H1 u v rs1 s1 o1 h1=>by
  dsimp only at h1
  split at h1
  ·rename_i ds e
   obtain⟨l,vs,rfl,hq,r⟩:=o1.seq (K:=X.K) rs1 e
   exact⟨l,vs,rfl,hq,fun p n=>h1 F1 H1 rs1 (.refl _ _) vs p r n⟩
  ·exact h1.elim)
noncomputable def fTupC (fa:EM FV):EM FV:=fun Γ=>(fa Γ).bind fun (u,Γ1)=>match derL Γ1 u with
 | some ds=>.ok (.dat (.tuple ds),Γ1)
 | none=>.bad
theorem Kc {x:Str}(B:BiK X x (.type "tuple")) (ha:SE X XP mp a fa) (hst:starEach [a] X.env= [(false,eval a X.env)]):SE X XP mp (.Call (.Name x p) [a] [] pos) (fTupC fa):=fun M0 F Γ ν σ H Q rs hs hp=>
 (jw Jw B.gl B.mg B.bt (zp zf pa_nil hst) B.n B.d hst rfl).wp (ha.run rs hs hp fun F1 Γ1 H1 u v rs1 s1 o1 h1=>by
  dsimp only at h1
  split at h1
  ·rename_i ds e
   obtain⟨l,vs,rfl,el,r⟩:=o1.list rs1 e
   exact⟨l,vs,rfl,.inl ⟨SqL.of el,fun p n=>h1 F1 _ (rs1.same (zv n)) (.same (zv n)) _ (Rep.tuple zi (r.grow (zv n).grow))⟩⟩
  ·exact h1.elim)
noncomputable def isiB (a T:String):Option Bool:=if (T= "int" ∨T= "bool" ∨T= "list" ∨T= "tuple" ∨T= "str")/\¬ a= "dict" then some (a==T||(a== "bool" &&T== "int")) else none
theorem zcx {K:PySem.W.Frag}{x:PyData}{T:String}{k:Bool}(h:isiB (tyD x) T=some k):PySem.W.kitOne K (.type (tyD x)) (.type T)=some k:=by
 unfold isiB at h
 split at h
 ·rename_i hT
  cases h
  rcases hT.1 with rfl | rfl | rfl | rfl | rfl <;> cases x <;> kernel_rfl
 ·cases h
theorem zcw {x:PyData}{T:String}{k:Bool}(h:isiB (tyD x) T=some k):tyD x≠ "dict" :=by
 unfold isiB at h
 split at h
 ·rename_i hT; exact hT.2
 ·cases h
noncomputable def fIsi (T:String) (fa:EM FV):EM FV:=fun Γ=>(fa Γ).bind fun (u,Γ1)=>match (derf Γ1 u).bind fun x=>isiB (tyD x) T with
 | some k=>.ok (.dat (.bool k),Γ1)
 | none=>.bad
theorem Jl {x y:Str}{T:String}(B:BiK X x (.builtin "isinstance")) (BT:BiK X y (.type T)) (ha:SE X XP mp a fa) (hst:starEach [a,.Name y p2] X.env=(false,eval a X.env)::starEach [.Name y p2] X.env) :
  SE X XP mp (.Call (.Name x p) [a,.Name y p2] [] pos) (fIsi T fa):=fun M0 F Γ ν σ H Q rs hs hp=>
 (jq YG B.gl B.mg B.bt (zp zf (zp (zaC (v:=.ty T) BT.gl BT.mg BT.bt rfl BT.n BT.d) pa_nil rfl) hst) B.n B.d hst rfl).wp (ha.run rs hs hp fun F1 Γ1 H1 u v rs1 s1 o1 h1=>by
  dsimp only at h1
  split at h1
  ·rename_i k ek
   cases ex:derf Γ1 u with
   | none=>rw[ex] at ek; cases ek
   | some z=>
    rw[ex] at ek
    exact⟨v,T,_,k,rfl,(o1.weak rs1 ex).ty (zcw ek),zcx ek,h1 F1 H1 rs1 (.refl _ _) _ (Rep.bool k)⟩
  ·exact h1.elim)
noncomputable def f2 (g:PyData->PyData->Option PyData) (fa fb:EM FV):EM FV:=fun Γ=>(fa Γ).bind fun (u,Γ1)=>(fb Γ1).bind fun (w,Γ2)=>match derf Γ2 u,derf Γ2 w with
 | some x,some y=>match g x y with
  | some z=>.ok (.dat z,Γ2)
  | none=>.bad
 | _,_=>.bad
noncomputable def gMin:PyData->PyData->Option PyData
 | .int i,.int j=>some (.int (if j<i then j else i))
 | _,_=>none
noncomputable def gMax:PyData->PyData->Option PyData
 | .int i,.int j=>some (.int (if j>i then j else i))
 | _,_=>none
theorem YX {x y z:PyData}(h:gMin x y=some z):∃ i j,x=.int i/\y=.int j/\z=.int (if j<i then j else i):=by
 cases x <;> cases y <;> cases h
 exact⟨_,_,rfl,rfl,rfl⟩
theorem YW {x y z:PyData}(h:gMax x y=some z):∃ i j,x=.int i/\y=.int j/\z=.int (if j>i then j else i):=by
 cases x <;> cases y <;> cases h
 exact⟨_,_,rfl,rfl,rfl⟩
theorem za0 {x:Str}(hc:X.calm=true) (B:BiK X x (.builtin "min")) (ha:SE X XP mp a fa) (hb:SE X XP mp b fb) (hst:starEach [a,b] X.env=(false,eval a X.env)::starEach [b] X.env) (hst2:starEach [b] X.env= [(false,eval b X.env)]) :
  SE X XP mp (.Call (.Name x p) [a,b] [] pos) (f2 gMin fa fb):=fun M0 F Γ ν σ H Q rs hs hp=>
 (jq (yD hc) B.gl B.mg B.bt (zp zf (zp zf pa_nil hst2) hst) B.n B.d hst (by rw[hst2]; rfl)).wp (ha.run rs hs hp fun F1 Γ1 H1 u v rs1 s1 o1 h1=>hb.run rs1 hs h1 fun F2 Γ2 H2 w v2 rs2 s2 o2 h2=>by
  dsimp only at h2
  split at h2
  ·rename_i x y e1 e2
   split at h2
   ·rename_i z e3
    obtain⟨i,j,rfl,rfl,rfl⟩:=YX e3
    cases (o1.stp s2 rs1.al0).weak rs2 e1
    cases o2.weak rs2 e2
    exact⟨i,j,rfl,h2 F2 H2 rs2 (.refl _ _) _ (Rep.int _)⟩
   ·exact h2.elim
  ·exact h2.elim)
theorem zaZ {x:Str}(hc:X.calm=true) (B:BiK X x (.builtin "max")) (ha:SE X XP mp a fa) (hb:SE X XP mp b fb) (hst:starEach [a,b] X.env=(false,eval a X.env)::starEach [b] X.env) (hst2:starEach [b] X.env= [(false,eval b X.env)]) :
  SE X XP mp (.Call (.Name x p) [a,b] [] pos) (f2 gMax fa fb):=fun M0 F Γ ν σ H Q rs hs hp=>
 (jq (yB hc) B.gl B.mg B.bt (zp zf (zp zf pa_nil hst2) hst) B.n B.d hst (by rw[hst2]; rfl)).wp (ha.run rs hs hp fun F1 Γ1 H1 u v rs1 s1 o1 h1=>hb.run rs1 hs h1 fun F2 Γ2 H2 w v2 rs2 s2 o2 h2=>by
  dsimp only at h2
  split at h2
  ·rename_i x y e1 e2
   split at h2
   ·rename_i z e3
    obtain⟨i,j,rfl,rfl,rfl⟩:=YW e3
    cases (o1.stp s2 rs1.al0).weak rs2 e1
    cases o2.weak rs2 e2
    exact⟨i,j,rfl,h2 F2 H2 rs2 (.refl _ _) _ (Rep.int _)⟩
   ·exact h2.elim
  ·exact h2.elim)
noncomputable def gNeg:PyData->Option PyData
 | .int i=>some (.int (-i))
 | _=>none
theorem zdg (ha:SE X XP mp a fa):SE X XP mp (.UnaryOp .USub a pos) (f1 gNeg fa):=fun M0 F Γ ν σ H Q rs hs hp=>
 (zbQ zdI zf).wp (ha.run rs hs hp fun F1 Γ1 H1 u v rs1 s1 o1 h1=>by
  dsimp only at h1
  split at h1
  ·rename_i y ey
   cases ex:derf Γ1 u with
   | none=>rw[ex] at ey; cases ey
   | some x=>
    rw[ex] at ey
    cases x with
    | int i=>
     cases ey
     cases o1.weak rs1 ex
     exact⟨i,rfl,h1 F1 H1 rs1 (.refl _ _) _ (Rep.int _)⟩
    | _=>cases ey
  ·exact h1.elim)
open Classical in
noncomputable def binD (op:Operator) (x y:PyData):Option PyData:=match op,x,y with
 | .Add,.int i,.int j=>some (.int (i+j))
 | .Sub,.int i,.int j=>some (.int (i-j))
 | .Mult,.int i,.int j=>if (-(2 ^ 64)<i/\i<2 ^ 64)∨(-(2 ^ 64)<j/\j<2 ^ 64) then some (.int (i*j)) else none
 | .Mod,.int i,.int j=>if 0<j then some (.int (i % j)) else none
 | .FloorDiv,.int i,.int j=>if 0<j/\j<1073741824 then some (.int (i / j)) else none
 | .Pow,.int i,.int j=>if 0<=j/\j<=1000000/\i.natAbs<2 ^ 64 then some (.int (i ^ j.toNat)) else none
 | .LShift,.int i,.int j=>if 0<=j/\j<=1000000/\i.natAbs<2 ^ 64 then some (.int (i*2 ^ j.toNat)) else none
 | .RShift,.int i,.int j=>if 0<=j then some (.int (i / 2 ^ j.toNat)) else none
 | .BitAnd,.int i,.int j=>some (.int (Builtin.bitAnd i j))
 | .Add,.tuple a,.tuple b=>if a.length+b.length<=1000000 then some (.tuple (a++b)) else none
 | .Mult,.tuple a,.int n=>if 0<=n/\n<1000000/\a.length*n.toNat<=1000000 then some (.tuple (List.replicate n.toNat a).flatten) else none
 | _,_,_=>none
theorem jt {op:Operator}{x y z:PyData}{i j k:Int}{C:Int->Int->Prop}{f:Int->Int->Int}(hc:C i j) (ho:OpR X (binaryOp op) (rI C fun i j=>.int (f i j))) :
  ∃ r:R2,OpR X (binaryOp op) r/\∀ (M:Addr->Prop) (H:Hp) (v u:V) (Q:VK),Al M H->Rep M H v (.int i)->Rep M H u (.int j)->(∀ w H',Same H H'->Rep M H' w (.int (f i j))->Q w H')->r v u H Q :=
 ⟨_,ho,fun M H v u Q _ r1 r2 k=>by cases r1; cases r2; exact⟨i,j,rfl,rfl,hc,k _ H (Same.refl H) (.int _)⟩⟩
theorem Q7 {op:Operator}{i j:Int}{f:Int->Int->Int}(ho:OpR X (binaryOp op) (rI0 fun i j=>.int (f i j))) :
  ∃ r:R2,OpR X (binaryOp op) r/\∀ (M:Addr->Prop) (H:Hp) (v u:V) (Q:VK),Al M H->Rep M H v (.int i)->Rep M H u (.int j)->(∀ w H',Same H H'->Rep M H' w (.int (f i j))->Q w H')->r v u H Q :=
 ⟨_,ho,fun M H v u Q _ r1 r2 k=>by cases r1; cases r2; exact⟨i,j,rfl,rfl,k _ H (Same.refl H) (.int _)⟩⟩
theorem zb6 (op:Operator):OpS X (binaryOp op) (binD op):=fun x y z e=>by
 unfold binD at e
 split at e
 ·cases e; exact Q7 v6
 ·cases e; exact Q7 zcR
 ·split at e
  ·rename_i h; cases e; exact jt (x:=.none) (y:=.none) (z:=.none) (k:=0) h kB
  ·cases e
 ·split at e
  ·rename_i h; cases e; exact jt (x:=.none) (y:=.none) (z:=.none) (k:=0) h kA
  ·cases e
 ·split at e
  ·rename_i h; cases e; exact jt (x:=.none) (y:=.none) (z:=.none) (k:=0) h zaz
  ·cases e
 ·split at e
  ·rename_i h; cases e; exact jt (x:=.none) (y:=.none) (z:=.none) (k:=0) h zcO
  ·cases e
 ·split at e
  ·rename_i h; cases e; exact jt (x:=.none) (y:=.none) (z:=.none) (k:=0) h zcP
  ·cases e
 ·split at e
  ·rename_i h; cases e; exact jt (x:=.none) (y:=.none) (z:=.none) (k:=0) (C:=fun _ j=>0<=j) h zcQ
  ·cases e
 ·cases e; exact Q7 zcL
 ·split at e
  ·rename_i h
   cases e
   exact⟨_,kw,fun M H v u Q _ q1 q2 k=>by
    obtain⟨l,vs,rfl,e,r⟩:=q1.tup_inv
    obtain⟨l2,vs2,rfl,e2,r2⟩:=q2.tup_inv
    refine⟨l,l2,vs,vs2,rfl,rfl,SqT.of e,SqT.of e2,by rw[r.length,r2.length]; exact sz6 h,fun z=>k _ H (Same.refl H) ?_,fun z=>k _ H (Same.refl H) ?_,fun p np=>k _ _ (zv np) (.tuple zi ((r.append r2).grow (zv np).grow))⟩
    ·subst z
     cases r
     exact q2
    ·subst z
     cases r2
     rw[List.append_nil]; exact q1⟩
  ·cases e
 ·split at e
  ·rename_i h
   cases e
   exact⟨_,zaB,fun M H v u Q _ q1 q2 k=>by
    obtain⟨l,vs,rfl,e,r⟩:=q1.tup_inv
    cases q2
    refine⟨l,_,vs,rfl,rfl,SqT.of e,by omega,by omega,by rw[r.length]; exact sz6 h.2.2,fun hs=>k _ H (Same.refl H) ?_,fun p np=>k _ _ (zv np) (.tuple zi ((r.rep _).grow (zv np).grow))⟩
    rcases hs with z | z
    ·subst z
     cases r
     rename_i n _
     have:(List.replicate n.toNat ([]:List PyData)).flatten= []:=by simp
     rw[this]; exact q1
    ·subst z
     have key:∀ l:List PyData,(List.replicate (1:Int).toNat l).flatten=l:=fun l=>by simp
     rw[key]; exact q1⟩
  ·cases e
 ·cases e
noncomputable def lay:Nat->PyData->Bool
 | _,.none=>true
 | _,.bool _=>true
 | _,.int _=>true
 | _,.str x=>PyData.strOk x
 | n+1,.list xs=>xs.all (lay n)
 | n+1,.tuple xs=>xs.all (lay n)
 | _,_=>false
theorem q8 {n:Nat}(ih:∀ d,lay n d=true->d.canLay0=true/\d.depth<=n):∀ xs:List PyData,xs.all (lay n)=true->PyData.canLayAll0 xs=true/\PyData.depthAll xs<=n
 | [],_=>⟨rfl,Nat.zero_le _⟩
 | x::r,h=>by
  rw[List.all_cons,Bool.and_eq_true] at h
  obtain⟨a,b⟩:=ih x h.1
  obtain⟨c,d⟩:=q8 ih r h.2
  exact⟨by simp[PyData.canLayAll0,a,c],by simp only[PyData.depthAll]; omega⟩
theorem zI:∀ (n:Nat) (d:PyData),lay n d=true->d.canLay0=true/\d.depth<=n
 | n,.none,_=>⟨rfl,Nat.zero_le _⟩
 | n,.bool _,_=>⟨rfl,Nat.zero_le _⟩
 | n,.int _,_=>⟨rfl,Nat.zero_le _⟩
 | n,.str _,h=>⟨by simpa [PyData.canLay0,lay] using h,Nat.zero_le _⟩
 | n+1,.list xs,h=>by
  obtain⟨a,b⟩:=q8 (zI n) xs (by simpa [lay] using h)
  exact⟨by simpa [PyData.canLay0] using a,by simp only[PyData.depth]; omega⟩
 | n+1,.tuple xs,h=>by
  obtain⟨a,b⟩:=q8 (zI n) xs (by simpa [lay] using h)
  exact⟨by simpa [PyData.canLay0] using a,by simp only[PyData.depth]; omega⟩
 | 0,.list _,h=>by simp[lay] at h
 | 0,.tuple _,h=>by simp[lay] at h
 | 0,.dict _,h=>by simp[lay] at h
 | n+1,.dict _,h=>by simp[lay] at h
noncomputable def isN:PyData->Bool
 | .none=>true
 | _=>false
noncomputable def inD (x:PyData) (ys:List PyData):Bool:=ys.any fun y=>PyData.eqv y x
noncomputable def cmpD (op:CmpOp) (x y:PyData):Option Bool:=match op,x,y with
 | .Eq,x,y=>if lay 20 x&&lay 20 y then some (PyData.eqv x y) else none
 | .NotEq,x,y=>if lay 20 x&&lay 20 y then some (!PyData.eqv x y) else none
 | .Lt,.int i,.int j=>some (decide (i<j))
 | .LtE,.int i,.int j=>some (decide (i<=j))
 | .Gt,.int i,.int j=>some (decide (j<i))
 | .GtE,.int i,.int j=>some (decide (j<=i))
 | .In,x,.list ys=>if lay 20 x&&ys.all (lay 20) then some (inD x ys) else none
 | .In,x,.tuple ys=>if lay 20 x&&ys.all (lay 20) then some (inD x ys) else none
 | .NotIn,x,.list ys=>if lay 20 x&&ys.all (lay 20) then some (!inD x ys) else none
 | .NotIn,x,.tuple ys=>if lay 20 x&&ys.all (lay 20) then some (!inD x ys) else none
 | .Is,x,.none=>some (isN x)
 | .IsNot,x,.none=>some (!isN x)
 | _,_,_=>none
end
end L3
namespace L3
open PySem PySem.Spec PyProof.Rows L2
variable [Cs]
section
variable {X:Cx}
open Classical in
/-- is the value w equal to the data? -/
noncomputable def eqW (h:Heap) (dx:PyData) (w:Value):Bool:=if ∃ d as,Reads h w d as/\d.canLay0=true/\PyData.eqv d dx=true then true else false
theorem YN {h:Heap}{dx d:PyData}{w:Value}{as:List Addr}(r:Reads h w d as) (hl:d.canLay0=true):eqW h dx w=PyData.eqv d dx:=by
 unfold eqW
 cases e:PyData.eqv d dx with
 | true=>rw[if_pos ⟨d,as,r,hl,e⟩]
 | false=>
  rw[if_neg]
  rintro⟨d',as',r',hl',e'⟩
  have:=SeqAt.Reads.unique d d' w as as' hl r r'
  rw[<- this,e] at e'; cases e'
theorem jW {h:Heap}{dx:PyData}:∀ {us:List Value}{ys:List PyData}{as:List Addr},ReadsAll h us ys as->ys.all (lay 20)=true->us.any (eqW h dx)=inD dx ys
 | _,_,_,.nil,_=>rfl
 | _,_,_,.cons r t,hl=>by
  rw[List.all_cons,Bool.and_eq_true] at hl
  unfold inD
  rw[List.any_cons,List.any_cons,YN r (zI 20 _ hl.1).1,jW t hl.2]; rfl
theorem Zp {A:Around}{s:Shared}{dx:PyData}{v:Value}{bs:List Addr}(rx:Reads s.heap v dx bs) (hx:lay 20 dx=true) (hu:∀ n,n<=60->A.units+n<cLine):∀ {us:List Value}{ys:List PyData}{as:List Addr},ReadsAll s.heap us ys as->ys.all (lay 20)=true->∀ u∈us,SeqAt.EqAt A s u v (eqW s.heap dx u)
 | _,_,_,.nil,_=>fun u hu=>by cases hu
 | _,_,_,.cons (d:=d) r t,hl=>fun u' hu'=>by
  rw[List.all_cons,Bool.and_eq_true] at hl
  rcases List.mem_cons.mp hu' with rfl | hu'
  ·rw[YN r (zI 20 _ hl.1).1]
   have h1:=zI 20 _ hl.1
   have h2:=zI 20 _ hx
   exact SeqAt.eqAt_reads _ _ _ _ _ _ _ _ r rx h1.1 h2.1 (hu _ (Nat.le_trans (Nat.min_le_left _ _) (by omega)))
  ·exact Zp rx hx hu t hl.2 u' hu'
noncomputable def zeu (K:PySem.W.Frag) (neg:Bool):R2:=fun x y H Q=>∃ M M' dx ys p vs,Rep M H x dx/\y=.ref p/\(SqL K H p vs∨SqT K H p vs)/\RepL M' H vs ys/\lay 20 dx=true/\ys.all (lay 20)=true/\Q (.bl (if neg then !inD dx ys else inD dx ys)) H
theorem ky (hr:Room 1 X.A):OpR X (compareOp .In) (zeu X.K false):=by
 intro pins s σ H x y v u Q I rx ry h
 obtain⟨M,M',dx,ys,p,vs,r1,rfl,hq,r2,l1,l2,q⟩:=h
 cases ry
 obtain⟨bs,z1⟩:=r1.reads I.hok (zI 20 _ l1).1 rx
 have hu:∀ n,n<=60->X.A.in1.units+n<cLine:=(hr.in1).u60
 rcases hq with hq | hq
 ·obtain⟨its,r,pl,hz⟩:=I.list hq
  obtain⟨as,z2⟩:=r2.reads I.hok (q8 (zI 20) _ l2).1 r
  refine SeqAt.in_listAt (eqW s.heap dx) pl.isList (fun w hw=>Zp z1 l1 hu z2 l2 w (by simpa using hw)) ⟨.bl _,H,I,rfl,?_⟩
  rw[show its.toArray.any (eqW s.heap dx)=its.any (eqW s.heap dx) by simp,jW z2 l2]
  exact q
 ·obtain⟨its,r,pl,hz⟩:=I.tuple hq
  obtain⟨as,z2⟩:=r2.reads I.hok (q8 (zI 20) _ l2).1 r
  refine SeqAt.in_tupleAt (eqW s.heap dx) pl (fun w hw=>Zp z1 l1 hu z2 l2 w (by simpa using hw)) ⟨.bl _,H,I,rfl,?_⟩
  rw[show its.toArray.any (eqW s.heap dx)=its.any (eqW s.heap dx) by simp,jW z2 l2]
  exact q
theorem wc (hr:Room 1 X.A):OpR X (compareOp .NotIn) (zeu X.K true):=by
 intro pins s σ H x y v u Q I rx ry h
 obtain⟨M,M',dx,ys,p,vs,r1,rfl,hq,r2,l1,l2,q⟩:=h
 cases ry
 obtain⟨bs,z1⟩:=r1.reads I.hok (zI 20 _ l1).1 rx
 have hu:∀ n,n<=60->X.A.in1.units+n<cLine:=(hr.in1).u60
 rcases hq with hq | hq
 ·obtain⟨its,r,pl,hz⟩:=I.list hq
  obtain⟨as,z2⟩:=r2.reads I.hok (q8 (zI 20) _ l2).1 r
  refine SeqAt.notIn_listAt (eqW s.heap dx) pl.isList (fun w hw=>Zp z1 l1 hu z2 l2 w (by simpa using hw)) ⟨.bl _,H,I,rfl,?_⟩
  rw[show its.toArray.any (eqW s.heap dx)=its.any (eqW s.heap dx) by simp,jW z2 l2]
  exact q
 ·obtain⟨its,r,pl,hz⟩:=I.tuple hq
  obtain⟨as,z2⟩:=r2.reads I.hok (q8 (zI 20) _ l2).1 r
  refine SeqAt.notIn_tupleAt (eqW s.heap dx) pl (fun w hw=>Zp z1 l1 hu z2 l2 w (by simpa using hw)) ⟨.bl _,H,I,rfl,?_⟩
  rw[show its.toArray.any (eqW s.heap dx)=its.any (eqW s.heap dx) by simp,jW z2 l2]
  exact q
theorem Ji {M:Addr->Prop}{H:Hp}{v:V}{x:PyData}(r:Rep M H v x):decide (v=.non)=isN x:=by
 cases r <;> rfl
theorem ZC (hr:Room 1 X.A) (op:CmpOp):Wh X op (cmpD op):=fun x y z e=>by
 have h60:∀ n,n<=60->X.A.units+n<cLine:=hr.u60
 unfold cmpD at e
 split at e
 ·split at e
  ·rename_i h
   cases e
   rw[Bool.and_eq_true] at h
   have h1:=zI 20 _ h.1
   have h2:=zI 20 _ h.2
   exact⟨_,yT h60,fun H v u Q r1 r2 k=>⟨_,_,_,_,r1,r2,h1.1,h2.1,Nat.le_trans (Nat.min_le_left _ _) (by omega),k⟩⟩
  ·cases e
 ·split at e
  ·rename_i h
   cases e
   rw[Bool.and_eq_true] at h
   have h1:=zI 20 _ h.1
   have h2:=zI 20 _ h.2
   exact⟨_,yU h60,fun H v u Q r1 r2 k=>⟨_,_,_,_,r1,r2,h1.1,h2.1,Nat.le_trans (Nat.min_le_left _ _) (by omega),k⟩⟩
  ·cases e
 ·cases e; exact⟨_,zem,fun H v u Q r1 r2 k=>by cases r1; cases r2; exact⟨_,_,rfl,rfl,k⟩⟩
 ·cases e; exact⟨_,zel,fun H v u Q r1 r2 k=>by cases r1; cases r2; exact⟨_,_,rfl,rfl,k⟩⟩
 ·cases e; exact⟨_,zek,fun H v u Q r1 r2 k=>by cases r1; cases r2; exact⟨_,_,rfl,rfl,k⟩⟩
 ·cases e; exact⟨_,zej,fun H v u Q r1 r2 k=>by cases r1; cases r2; exact⟨_,_,rfl,rfl,k⟩⟩
 ·split at e
  ·rename_i h
   cases e
   rw[Bool.and_eq_true] at h
   exact⟨_,ky hr,fun H v u Q r1 r2 k=>by
    obtain⟨l,vs,rfl,el,_,rl⟩:=r2.lst_inv
    exact⟨_,_,_,_,l,vs,r1,rfl,.inl (SqL.of el),rl,h.1,h.2,k⟩⟩
  ·cases e
 ·split at e
  ·rename_i h
   cases e
   rw[Bool.and_eq_true] at h
   exact⟨_,ky hr,fun H v u Q r1 r2 k=>by
    obtain⟨l,vs,rfl,el,rl⟩:=r2.tup_inv
    exact⟨_,_,_,_,l,vs,r1,rfl,.inr (SqT.of el),rl,h.1,h.2,k⟩⟩
  ·cases e
 ·split at e
  ·rename_i h
   cases e
   rw[Bool.and_eq_true] at h
   exact⟨_,wc hr,fun H v u Q r1 r2 k=>by
    obtain⟨l,vs,rfl,el,_,rl⟩:=r2.lst_inv
    exact⟨_,_,_,_,l,vs,r1,rfl,.inl (SqL.of el),rl,h.1,h.2,k⟩⟩
  ·cases e
 ·split at e
  ·rename_i h
   cases e
   rw[Bool.and_eq_true] at h
   exact⟨_,wc hr,fun H v u Q r1 r2 k=>by
    obtain⟨l,vs,rfl,el,rl⟩:=r2.tup_inv
    exact⟨_,_,_,_,l,vs,r1,rfl,.inr (SqT.of el),rl,h.1,h.2,k⟩⟩
  ·cases e
 ·cases e
  exact⟨_,zcN,fun H v u Q r1 r2 k=>by cases r2; exact⟨rfl,by rw[Ji r1]; exact k⟩⟩
 ·cases e
  exact⟨_,zaA,fun H v u Q r1 r2 k=>by
   cases r2
   refine⟨rfl,?_⟩
   rw[Ji r1]; exact k⟩
 ·cases e
end
mutual
inductive IT where
 | nm (s i:Nat)
 | tp (ts:ITs)
inductive ITs where
 | nil
 | cons (t:IT) (ts:ITs)
end
mutual
/-- what a store makes of the frame -/
noncomputable def tgF:IT->PyData->Gv->Option Gv
 | .nm _ i,x,Γ=>if i<Γ.length then some (Γ.set i (some (.d x))) else none
 | .tp ts,.tuple xs,Γ=>tgFs ts xs Γ
 | .tp ts,.list xs,Γ=>tgFs ts xs Γ
 | _,_,_=>none
noncomputable def tgFs:ITs->List PyData->Gv->Option Gv
 | .nil,[],Γ=>some Γ
 | .cons t ts,x::xs,Γ=>(tgF t x Γ).bind fun Γ=>tgFs ts xs Γ
 | _,_,_=>none
end
noncomputable def ITs.len:ITs->Nat
 | .nil=>0
 | .cons _ ts=>ts.len+1
theorem Jr:∀ {ts:ITs}{ds:List PyData}{Γ Γ':Gv},tgFs ts ds Γ=some Γ'->ds.length=ts.len
 | .nil,[],_,_,_=>rfl
 | .nil,_::_,_,_,e=>by simp[tgFs] at e
 | .cons t ts,[],_,_,e=>by simp[tgFs] at e
 | .cons t ts,d::ds,Γ,Γ',e=>by
  rw[tgFs] at e
  cases q:tgF t d Γ with
  | none=>rw[q] at e; cases e
  | some Γ1=>rw[q] at e; rw[List.length_cons,Jr (ts:=ts) e]; rfl
theorem Vj (t:IT):∀ (d:PyData) (Γ Γ':Gv),tgF t d Γ=some Γ'->Γ'.length=Γ.length:=by
 refine IT.rec (motive_1:=fun t=>∀ (d:PyData) (Γ Γ':Gv),tgF t d Γ=some Γ'->Γ'.length=Γ.length) (motive_2:=fun ts=>∀ (ds:List PyData) (Γ Γ':Gv),tgFs ts ds Γ=some Γ'->Γ'.length=Γ.length) ?_ ?_ ?_ ?_ t
 ·intro s i d Γ Γ' e
  rw[tgF] at e
  split at e
  ·cases e; simp
  ·cases e
 ·intro ts ih d Γ Γ' e
  cases d with
  | tuple xs=>rw[tgF] at e; exact ih _ _ _ e
  | list xs=>rw[tgF] at e; exact ih _ _ _ e
  | _=>simp[tgF] at e
 ·intro ds Γ Γ' e
  cases ds with
  | nil=>simp[tgFs] at e; rw[e]
  | cons=>simp[tgFs] at e
 ·intro t ts ih1 ih2 ds Γ Γ' e
  cases ds with
  | nil=>simp[tgFs] at e
  | cons d ds=>
   rw[tgFs] at e
   cases q:tgF t d Γ with
   | none=>rw[q] at e; cases e
   | some Γ1=>rw[q] at e; rw[ih2 _ _ _ e,ih1 _ _ _ q]
noncomputable def SG (X:Cx) (mp:List Nat) (kp:Nat->Prop) (tg:Expr) (t:IT):Prop:=∀ (M0:Addr->Prop) (F:Fp) (Γ Γ':Gv) (ν:Nu) (σ:St) (H:Hp) (v:V) (d:PyData) (Q:St->Hp->Prop),RS M0 F Γ ν H->Sees mp ν σ->σ.length=X.N.length->Rep (MM M0 F) H v d ->
 tgF t d Γ=some Γ'->(∀ F' ν' σ',RS M0 F' Γ' ν' H->Stp F H F' H->Sees mp ν' σ'->σ'.length=X.N.length->(∀ i:Nat,kp i->ν'[i]?=ν[i]?)->(∀ s i:Nat,mp[s]?=some i->kp i->σ'[s]?=σ[s]?)->Q σ' H)->wpG X tg v σ H Q
noncomputable def SGs (X:Cx) (mp:List Nat) (kp:Nat->Prop) (tgs:List Expr) (ts:ITs):Prop:=∀ (M0:Addr->Prop) (F:Fp) (Γ Γ':Gv) (ν:Nu) (σ:St) (H:Hp) (vs:List V) (ds:List PyData) (Q:St->Hp->Prop),RS M0 F Γ ν H->Sees mp ν σ->σ.length=X.N.length->RepL (MM M0 F) H vs ds ->
 tgFs ts ds Γ=some Γ'->(∀ F' ν' σ',RS M0 F' Γ' ν' H->Stp F H F' H->Sees mp ν' σ'->σ'.length=X.N.length->(∀ i:Nat,kp i->ν'[i]?=ν[i]?)->(∀ s i:Nat,mp[s]?=some i->kp i->σ'[s]?=σ[s]?)->Q σ' H)->zdL X tgs vs σ H Q
section
variable {X:Cx} {mp:List Nat} {kp:Nat->Prop} {tg:Expr} {tgs:List Expr} {t:IT} {ts:ITs} {pos:Pos}
theorem Sees.set {ν:Nu}{σ:St}{s i:Nat}{v:V}(h:Sees mp ν σ) (hn:mp.Nodup) (hm:mp[s]?=some i) (hs:s<σ.length):Sees mp (ν.set i (some v)) (σ.set s (some v)):=fun s' j w e1 e2=>by
 by_cases hj:i=j
 ·subst hj
  have:s'=s:=by
   have h1:=(List.getElem?_eq_some_iff.mp e1).1
   have h2:=(List.getElem?_eq_some_iff.mp hm).1
   exact (List.getElem?_inj h1 hn).mp (by rw[e1,hm])
  subst this
  rw[List.getElem?_set_self hs]
  by_cases hl:i<ν.length
  ·rw[List.getElem?_set_self hl] at e2; rw[e2]
  ·rw[List.getElem?_eq_none (by simpa using hl)] at e2; cases e2
 ·rw[List.getElem?_set_ne hj] at e2
  have:s'≠s:=fun z=>hj (by subst z; rw[hm] at e1; exact Option.some.inj e1)
  rw[List.getElem?_set_ne (Ne.symm this)]
  exact h s' j w e1 e2
theorem za5 {s i:Nat}{x:Str}(hN:X.N.Nodup) (hn:mp.Nodup) (hi:X.N[s]?=some x) (hm:mp[s]?=some i) (hlo:¬ kp i) (hx:Loc X.env.scope x) (hf:X.fn x=true∨X.env.scope.names.lookup x=some .local):SG X mp kp (.Name x pos) (.nm s i) :=
 fun M0 F Γ Γ' ν σ H v d Q rs hs hl r e k=>by
  rw[tgF] at e
  split at e
  ·rename_i hi'
   cases e
   have hsl:s<σ.length:=by rw[hl]; exact (List.getElem?_eq_some_iff.mp hi).1
   obtain⟨F',rs',s'⟩:=rs.setD r hi'
   refine (VZ hN hi hx hf).wp (k F' _ _ rs' s' (hs.set hn hm hsl) (by simpa using hl) (fun j hj=>?_) (fun s2 j e2 hj=>?_))
   ·rw[List.getElem?_set_ne (fun z=>hlo (by rw[z]; exact hj))]
   ·rw[List.getElem?_set_ne]
    intro z
    subst z
    rw[hm] at e2
    cases e2
    exact hlo hj
  ·cases e
theorem za6:SGs X mp kp [] .nil:=fun M0 F Γ Γ' ν σ H vs ds Q rs hs hl r e k=>by
 cases r with
 | nil=>
  simp[tgFs] at e
  subst e
  exact pgs_nil.wp ⟨rfl,k F ν σ rs (.refl _ _) hs hl (fun _ _=>rfl) (fun _ _ _ _=>rfl)⟩
 | cons r rr=>simp[tgFs] at e
theorem Kh (h1:SG X mp kp tg t) (h2:SGs X mp kp tgs ts) (hst:(assignEach (tg::tgs) X.env).map (·.2)=assign tg X.env::(assignEach tgs X.env).map (·.2)):SGs X mp kp (tg::tgs) (.cons t ts):=fun M0 F Γ Γ' ν σ H vs ds Q rs hs hl r e k=>by
 cases r with
 | nil=>simp[tgFs] at e
 | cons r rr=>
  rename_i v vs d ds
  rw[tgFs] at e
  cases e1:tgF t d Γ with
  | none=>rw[e1] at e; cases e
  | some Γ1=>
   rw[e1] at e
   refine (kM wX Jg hst).wp ⟨v,vs,rfl,h1 M0 F Γ Γ1 ν σ H v d _ rs hs hl r e1 fun F1 ν1 σ1 rs1 s1 hs1 hl1 n1 m1=>?_⟩
   exact h2 M0 F1 Γ1 Γ' ν1 σ1 H vs ds _ rs1 hs1 hl1 (qp s1 rs.al0 rr) e fun F2 ν2 σ2 rs2 s2 hs2 hl2 n2 m2=>k F2 ν2 σ2 rs2 (s1.trans s2) hs2 hl2 (fun i hi=>(n2 i hi).trans (n1 i hi)) (fun s i e hi=>(m2 s i e hi).trans (m1 s i e hi))
theorem zdm {n:Nat}(hc:X.calm=true) (h:SGs X mp kp tgs ts) (hl:ts.len=(assignEach tgs X.env).length) (hst:(assignEach tgs X.env).findIdx? (·.1)=none):SG X mp kp (.Tuple tgs n pos) (.tp ts):=fun M0 F Γ Γ' ν σ H v d Q rs hs hl' r e k=>by
 cases d with
 | tuple ds=>
  rw[tgF] at e
  obtain⟨a,vs,rfl,ea,rr⟩:=r.tup_inv
  exact (zcX hc Jg rfl hst).wp ⟨a,vs,rfl,SqT.of ea,by rw[rr.length,Jr e,hl],h M0 F Γ Γ' ν σ H vs ds Q rs hs hl' rr e k⟩
 | list ds=>
  rw[tgF] at e
  obtain⟨a,vs,rfl,ea,_,rr⟩:=r.lst_inv
  exact (zaH hc Jg rfl hst).wp ⟨a,vs,rfl,SqL.of ea,by rw[rr.length,Jr e,hl],h M0 F Γ Γ' ν σ H vs ds Q rs hs hl' rr e k⟩
 | _=>simp[tgF] at e
end
end L3
namespace L3
open PySem PySem.Spec PyProof.Rows L2
variable [Cs]
noncomputable def JI (M0:Addr->Prop) (F:Fp) (J:It) (ds:List PyData) (H1:Hp):Prop:=∀ (i:Nat) (F':Fp) (H':Hp),Stp F H1 F' H'->(∀ a,M0 a->H1 a≠none) ->
 (∀ d,ds[i]?=some d->J.go i H'/\∀ x H2,J.yld i H' x H2->Same H' H2/\Rep (MM M0 F') H2 x d)/\(ds.length<=i->J.stop i H')
noncomputable def SI (X:Cx) (XP:XPT) (mp:List Nat) (tg iter:Expr) (f:EM (List PyData)):Prop:=∀ (M0:Addr->Prop) (F:Fp) (Γ:Gv) (ν:Nu) (σ:St) (H:Hp) (R:It->Hp->Prop),RS M0 F Γ ν H->Sees mp ν σ ->
 EPost M0 F ν σ H XP (fun F' Γ' H' ds=>∀ J,JI M0 F' J ds H'->R J H') (f Γ)->wpI X tg iter σ H R
section
variable {X:Cx} {XP:XPT} {mp:List Nat} {a b c e tg iter elt:Expr} {es ifs:List Expr} {pos p p2:Pos} {fa fb fc:EM FV} {ta tb:EM Bool} {na nb:EM (List PyData)}
noncomputable def fSeqL (fa:EM FV):EM (List PyData):=fun Γ=>(fa Γ).bind fun (u,Γ1)=>match derS Γ1 u with
 | some (.list ds)=>.ok (ds,Γ1)
 | _=>.bad
noncomputable def fSeqT (fa:EM FV):EM (List PyData):=fun Γ=>(fa Γ).bind fun (u,Γ1)=>match derS Γ1 u with
 | some (.tuple ds)=>.ok (ds,Γ1)
 | _=>.bad
theorem Y4 {M0:Addr->Prop}{F:Fp}{K:PySem.W.Frag}{H1:Hp}{l:Addr}{ds:List PyData}{vs:List V}(e:H1 l=some (.lst vs)) (n:∀ j,l∉F j) (r:RepL (MM M0 F) H1 vs ds):JI M0 F (Itl K l) ds H1:=fun i F' H' s h0=>by
 have e':H' l=some (.lst vs):=(s.keep l _ e n).1
 refine⟨fun d hd=>?_,fun hl=>⟨vs,SqL.of e',by rw[r.length]; exact hl⟩⟩
 obtain⟨v,hv,rv⟩:=r.get' hd
 exact⟨⟨vs,v,SqL.of e',hv⟩,fun x H2 ⟨e2,y⟩=>by
  subst e2
  have:=y vs (SqL.of e')
  rw[hv] at this; cases this
  exact⟨Same.refl _,zq s h0 rv⟩⟩
theorem zar {M0:Addr->Prop}{F:Fp}{K:PySem.W.Frag}{H1:Hp}{l:Addr}{ds:List PyData}{vs:List V}(e:H1 l=some (.lst vs)) (n:¬ MM M0 F l) (r:RepL (MM M0 F) H1 vs ds):JI M0 F (Itl K l) ds H1:=Y4 e (fun j hj=>n (.inr ⟨j,hj⟩)) r
theorem zcA {M0:Addr->Prop}{F:Fp}{K:PySem.W.Frag}{H1:Hp}{l:Addr}{ds:List PyData}{vs:List V}(e:H1 l=some (.tup vs)) (r:RepL (MM M0 F) H1 vs ds):JI M0 F (Itt K l) ds H1:=fun i F' H' s h0=>by
 have e':H' l=some (.tup vs):=s.tups l _ e
 refine⟨fun d hd=>?_,fun hl=>⟨vs,SqT.of e',by rw[r.length]; exact hl⟩⟩
 obtain⟨v,hv,rv⟩:=r.get' hd
 exact⟨⟨vs,v,SqT.of e',hv⟩,fun x H2 ⟨e2,y⟩=>by
  subst e2
  have:=y vs (SqT.of e')
  rw[hv] at this; cases this
  exact⟨Same.refl _,zq s h0 rv⟩⟩
theorem za8 (ha:SE X XP mp iter fa):SI X XP mp tg iter (fSeqL fa):=fun M0 F Γ ν σ H R rs hs hp=>
 (V0 zf).wp (ha.run rs hs hp fun F1 Γ1 H1 u v rs1 s1 o1 h1=>by
  dsimp only at h1
  split at h1
  ·rename_i ds eu
   obtain⟨l,vs,rfl,e,n,r⟩:=(o1.strong rs1 eu).lst_inv
   exact⟨l,rfl,⟨vs,SqL.of e⟩,h1 F1 H1 rs1 (.refl _ _) _ (zar e n r)⟩
  ·exact h1.elim)
theorem zdn (ha:SE X XP mp iter fa):SI X XP mp tg iter (fSeqT fa):=fun M0 F Γ ν σ H R rs hs hp=>
 (zcY zf).wp (ha.run rs hs hp fun F1 Γ1 H1 u v rs1 s1 o1 h1=>by
  dsimp only at h1
  split at h1
  ·rename_i ds eu
   obtain⟨l,vs,rfl,e,r⟩:=(o1.strong rs1 eu).tup_inv
   exact⟨l,rfl,⟨vs,SqT.of e⟩,h1 F1 H1 rs1 (.refl _ _) _ (zcA e r)⟩
  ·exact h1.elim)
noncomputable def fRange (fa:EM FV):EM (List PyData):=fun Γ=>(fa Γ).bind fun (u,Γ1)=>match derf Γ1 u with
 | some (.int n)=>if -1000000<=n/\n<=1000000 then .ok (zQ n.toNat,Γ1) else .bad
 | _=>.bad
theorem Y5 {M0:Addr->Prop}{F:Fp}(n:Nat) (H1:Hp):JI M0 F (Itr 0 n) (zQ n) H1:=fun i F' H' s h0=>by
 refine⟨fun d hd=>?_,fun hl=>?_⟩
 ·obtain⟨hi,rfl⟩:=jT hd
  exact⟨hi,fun x H2 ⟨e,y⟩=>by subst e y; exact⟨Same.refl _,by rw[show (0:Int)+(i:Int)=i by omega]; exact .int _⟩⟩
 ·show n<=i
  simpa [zB] using hl
theorem Ki {x:Str}(B:BiK X x (.type "range")) (ex:x= "range") (ha:SE X XP mp a fa) (hst:starEach [a] X.env= [(false,eval a X.env)]):SI X XP mp tg (.Call (.Name x p) [a] [] pos) (fRange fa):=fun M0 F Γ ν σ H R rs hs hp=>by
 subst ex
 exact (yX B.gl B.mg (zp zf pa_nil hst) hst).wp (ha.run rs hs hp fun F1 Γ1 H1 u v rs1 s1 o1 h1=>by
  dsimp only at h1
  split at h1
  ·rename_i n eu
   split at h1
   ·rename_i hn
    cases o1.weak rs1 eu
    exact⟨n,rfl,by omega,by omega,h1 F1 H1 rs1 (.refl _ _) _ (Y5 n.toNat H1)⟩
   ·exact h1.elim
  ·exact h1.elim)
noncomputable def SF (X:Cx) (XP:XPT) (mp:List Nat) (ifs:List Expr) (f:EM Bool):Prop:=∀ (M0:Addr->Prop) (F:Fp) (Γ:Gv) (ν:Nu) (σ:St) (H:Hp) (Q:Bool->Hp->Prop),RS M0 F Γ ν H->Sees mp ν σ ->
 EPost M0 F ν σ H XP (fun F' Γ' H' b=>Q b H') (f Γ)->wpF X ifs σ H Q
noncomputable def fYes:EM Bool:=fun Γ=>.ok (true,Γ)
theorem zdk:SF X XP mp [] fYes:=fun M0 F Γ ν σ H Q rs hs hp=>pf_nil.wp (hp F H rs (.refl _ _))
theorem zdl (h:ST X XP mp c ta):SF X XP mp [c] ta:=fun M0 F Γ ν σ H Q rs hs hp=>(zcV qH).wp (h M0 F Γ ν σ H Q rs hs hp)
noncomputable abbrev XP0:XPT:=fun _ _ _ _ _ _=>False
noncomputable def XPc (XP:XPT) (σ:St):XPT:=fun x _ _ _ _ H'=>∃ Γ F ν,XP x Γ F ν σ H'
noncomputable def mpC (mp:List Nat) (n k:Nat) (ix:List Nat):List Nat:=(List.range k).map (n+·)++ix.map fun i=>mp.getD i 0
theorem zcH {mp:List Nat}{n k:Nat}{ix:List Nat}{s:Nat}(h:s<k):(mpC mp n k ix)[s]?=some (n+s):=by
 unfold mpC
 rw[List.getElem?_append_left (by simpa using h),List.getElem?_map,List.getElem?_range h]; rfl
theorem kq {mp:List Nat}{n k:Nat}{ix:List Nat}{j:Nat}:(mpC mp n k ix)[k+j]?=(ix[j]?).map fun i=>mp.getD i 0:=by
 unfold mpC
 rw[List.getElem?_append_right (by simp),List.getElem?_map]
 simp
noncomputable def SNt (XP:XPT) (mp:List Nat) (t:TE) (f:EM (List PyData)):Prop:=∀ (M0:Addr->Prop) (F:Fp) (Γ:Gv) (ν:Nu) (σ:St) (H:Hp) (Q:VK),RS M0 F Γ ν H->Sees mp ν σ ->
 EPost M0 F ν σ H XP (fun F' Γ' H' ds=>∀ vs p,RepL (MM M0 F') H' vs ds->H' p=none->Q (.ref p) (upd H' p (.lst vs))) (f Γ)->t σ H Q
end
end L3
namespace L2
open PySem PySem.Spec PyProof.Rows
variable [Cs]
section
variable {X:Cx} {pins:List (Addr×Obj)} {σ:St} {H:Hp} {s s':Shared} {e:Value}
theorem Wu {C:Addr}(u:Up X pins σ H C e s) (hx:X.ex= []) (hst:X.stack=X.env::X.outer) (hf:X.env.frame=some X.env.locals){E':XK}(hE:E' (.ref C) none H){Ez:Value->Shared->Prop} :
  wpAny (model X.prog X.w) X.A (leaving X.env e) (fun _ s''=>CX1 X.prog X.w X.outer X.H₀ X.s₀ E' e s'') Ez s:=by
 obtain⟨ea,a0,fl,B,rfl,al,inv⟩:=u
 have I0:=inv s.heap al.1 (.refl _)
 have hfr:X.A.frames=some (X.env::X.outer):=by rw[<- hst]; exact I0.ok.frames
 rw[hst] at al
 unfold leaving
 refine wpAny_bind (W5 hfr hf al fun h4 al4 up4=>V6 al4 fun h5 ⟨x1,x2,⟨_,_,x3⟩,x4⟩ up5=>⟨ea,.ref C,a0,B,s.heap,H,rfl,I0.os,I0.bare,⟨x1,x2,x3,x4⟩,up4.trans up5,fun h6 k1 k2=>?_,hE⟩)
 exact (inv h6 k1 k2).flies hx hst hf (fun b o e=>PySem.W.of_hideAll _ e) (Heap.UpToSlots.of_keeps fun _ _ e=>e)
end
end L2
namespace L2
open PySem PySem.Spec PyProof.Rows
variable [Cs]
end L2
namespace L3
open PySem PySem.Spec PyProof.Rows L2
variable [Cs]
inductive AV where
 | v (u:FV)
 | io (i:Nat)
inductive AOks (M0:Addr->Prop) (F:Fp) (ν:Nu) (H:Hp):List V->List AV->Prop
 | nil:AOks M0 F ν H [] []
 | v {v:V} {vs:List V} {u:FV} {as:List AV}:FOk M0 F ν H v u->AOks M0 F ν H vs as->AOks M0 F ν H (v::vs) (.v u::as)
 | io {v:V} {vs:List V} {i:Nat} {as:List AV}:ν[i]?=some (some v)->AOks M0 F ν H vs as->AOks M0 F ν H (v::vs) (.io i::as)
noncomputable def APost (M0:Addr->Prop) (F:Fp) (ν:Nu) (σ:St) (H:Hp) (XP:XPT) (P:Fp->Gv->Nu->Hp->List AV->Prop) (r:R (List AV×Gv)):Prop:=match r with
 | .ok (as,Γ')=>∀ F' ν' H',RS M0 F' Γ' ν' H'->ν <+: ν'->Stp F H F' H'->P F' Γ' ν' H' as
 | .exc x Γ'=>∀ F' H',RS M0 F' Γ' ν H'->Stp F H F' H'->XP x Γ' F' ν σ H'
 | .bad=>False
noncomputable def OPost (M0:Addr->Prop) (F:Fp) (ν:Nu) (σ:St) (H:Hp) (XP:XPT) (P:Fp->Gv->Hp->OV->V->Prop) (r:R (OV×Gv)):Prop:=match r with
 | .ok (o,Γ')=>∀ F' H' v,RS M0 F' (Γ'++ [some o]) (ν++ [some v]) H'->Stp F H F' H'->P F' Γ' H' o v
 | .exc x Γ'=>∀ F' H',RS M0 F' Γ' ν H'->Stp F H F' H'->XP x Γ' F' ν σ H'
 | .bad=>False
noncomputable def SA (X:Cx) (XP:XPT) (mp:List Nat) (es:List Expr) (f:EM (List AV)):Prop:=∀ (M0:Addr->Prop) (F:Fp) (Γ:Gv) (ν:Nu) (σ:St) (H:Hp) (Q:List V->Hp->Prop),RS M0 F Γ ν H->Sees mp ν σ ->
 APost M0 F ν σ H XP (fun F' Γ' ν' H' as=>∀ vs,AOks M0 F' ν' H' vs as->Q vs H') (f Γ)->wpA X es σ H Q
noncomputable def SO (X:Cx) (XP:XPT) (mp:List Nat) (e:Expr) (f:EM OV):Prop:=∀ (M0:Addr->Prop) (F:Fp) (Γ:Gv) (ν:Nu) (σ:St) (H:Hp) (Q:VK),RS M0 F Γ ν H->Sees mp ν σ ->
 OPost M0 F ν σ H XP (fun F' Γ' H' o v=>Q v H') (f Γ)->wpE X e σ H Q
section
variable {M0:Addr->Prop} {F:Fp} {Γ:Gv} {ν:Nu} {σ:St} {H:Hp} {XP:XPT} {α:Type}
theorem APost.seq {P:Fp->Gv->Nu->Hp->List AV->Prop}{r:R (α×Gv)}{k:α×Gv->R (List AV×Gv)}(h:APost M0 F ν σ H XP P (r.bind k)):EPost M0 F ν σ H XP (fun F1 Γ1 H1 a=>APost M0 F1 ν σ H1 XP P (k (a,Γ1))) r:=by
 cases r with
 | ok a=>
  obtain⟨a,Γ1⟩:=a
  intro F1 H1 rs1 s1
  have h':APost M0 F ν σ H XP P (k (a,Γ1)):=h
  revert h'
  generalize k (a,Γ1)=r2
  intro h'
  cases r2 with
  | ok b=>exact fun F' ν' H' rs hn s=>h' F' ν' H' rs hn (s1.trans s)
  | exc x Γ'=>exact fun F' H' rs s=>h' F' H' rs (s1.trans s)
  | bad=>exact h'
 | exc x Γ'=>exact h
 | bad=>exact h
theorem APost.mono {P P':Fp->Gv->Nu->Hp->List AV->Prop}{r:R (List AV×Gv)}(h:APost M0 F ν σ H XP P r) (k:∀ F' Γ' ν' H' as,RS M0 F' Γ' ν' H'->ν <+: ν'->Stp F H F' H'->P F' Γ' ν' H' as->P' F' Γ' ν' H' as):APost M0 F ν σ H XP P' r:=by
 cases r with
 | ok a=>exact fun F' ν' H' rs hn s=>k F' _ ν' H' _ rs hn s (h F' ν' H' rs hn s)
 | exc x Γ'=>exact h
 | bad=>exact h
theorem OPost.seq {P:Fp->Gv->Hp->OV->V->Prop}{r:R (α×Gv)}{k:α×Gv->R (OV×Gv)}(h:OPost M0 F ν σ H XP P (r.bind k)):EPost M0 F ν σ H XP (fun F1 Γ1 H1 a=>OPost M0 F1 ν σ H1 XP P (k (a,Γ1))) r:=by
 cases r with
 | ok a=>
  obtain⟨a,Γ1⟩:=a
  intro F1 H1 rs1 s1
  have h':OPost M0 F ν σ H XP P (k (a,Γ1)):=h
  revert h'
  generalize k (a,Γ1)=r2
  intro h'
  cases r2 with
  | ok b=>exact fun F' H' v rs s=>h' F' H' v rs (s1.trans s)
  | exc x Γ'=>exact fun F' H' rs s=>h' F' H' rs (s1.trans s)
  | bad=>exact h'
 | exc x Γ'=>exact h
 | bad=>exact h
theorem OPost.mono {P P':Fp->Gv->Hp->OV->V->Prop}{r:R (OV×Gv)}(h:OPost M0 F ν σ H XP P r) (k:∀ F' Γ' H' o v,RS M0 F' (Γ'++ [some o]) (ν++ [some v]) H'->Stp F H F' H'->P F' Γ' H' o v->P' F' Γ' H' o v):OPost M0 F ν σ H XP P' r:=by
 cases r with
 | ok a=>exact fun F' H' v rs s=>k F' _ H' _ v rs s (h F' H' v rs s)
 | exc x Γ'=>exact h
 | bad=>exact h
end
section
variable {X:Cx} {XP:XPT} {mp:List Nat} {a b c e:Expr} {es:List Expr} {pos p p2:Pos} {fa fb fc:EM FV} {ta tb:EM Bool} {na nb:EM (List PyData)} {fl:EM (List AV)} {fo:EM OV}
noncomputable def fOwn (n:EM (List PyData)):EM OV:=fun Γ=>(n Γ).bind fun (ds,Γ1)=>.ok (.l (ds.map .d),Γ1)
theorem SN.so (h:SN X XP mp a na):SO X XP mp a (fOwn na):=fun M0 F Γ ν σ H Q rs hs hp=>
 h M0 F Γ ν σ H Q rs hs (hp.seq.mono fun F1 Γ1 H1 ds rs1 s1 h1 vs p r n=>by
  obtain⟨r2,s2⟩:=rs1.newO n r
  exact h1 _ _ _ r2 s2)
noncomputable def fOD (f:EM OV):EM FV:=fun Γ=>(f Γ).bind fun (o,Γ1)=>.ok (.dat o.view,Γ1)
theorem SO.se (h:SO X XP mp a fo):SE X XP mp a (fOD fo):=fun M0 F Γ ν σ H Q rs hs hp=>
 h M0 F Γ ν σ H Q rs hs (by
  have hp':EPost M0 F ν σ H XP (fun F' Γ' H' u=>∀ v,FOk M0 F' ν H' v u->Q v H') ((fo Γ).bind fun (o,Γ1)=>.ok (.dat o.view,Γ1)):=hp
  revert hp'
  generalize fo Γ=r
  intro hp'
  cases r with
  | ok z=>
   obtain⟨o,Γ1⟩:=z
   intro F' H' v rs' s'
   obtain⟨F2,rs2,s2,r2⟩:=rs'.dropD
   exact hp' F2 H' rs2 (s'.trans s2) v r2
  | exc x y=>exact hp'
  | bad=>exact hp')
theorem FOk.ext {M0:Addr->Prop}{F:Fp}{ν ν':Nu}{H:Hp}{v:V}{u:FV}(h:FOk M0 F ν H v u) (hn:ν <+: ν'):FOk M0 F ν' H v u:=by
 cases u with
 | dat x=>exact h
 | own i=>
  have h':ν[i]?=some (some v):=h
  obtain⟨t,rfl⟩:=hn
  show (ν++t)[i]?=_
  rw[List.getElem?_append_left (List.getElem?_eq_some_iff.mp h').1]; exact h'
noncomputable def aNil:EM (List AV):=fun Γ=>.ok ([],Γ)
noncomputable def aCons (fa:EM FV) (fl:EM (List AV)):EM (List AV):=fun Γ=>(fa Γ).bind fun (u,Γ1)=>(fl Γ1).bind fun (as,Γ2)=>.ok (.v u::as,Γ2)
noncomputable def aIo (i:Nat) (fl:EM (List AV)):EM (List AV):=fun Γ=>match Γ[i]? with
 | some (some _)=>(fl Γ).bind fun (as,Γ2)=>.ok (.io i::as,Γ2)
 | _=>.bad
noncomputable def zdT (n:EM (List PyData)):EM (List AV):=fun Γ=>(n Γ).bind fun (ds,Γ1)=>.ok ([.io Γ1.length],Γ1++ [some (.l (ds.map .d))])
theorem zc6:SA X XP mp [] aNil:=fun M0 F Γ ν σ H Q rs hs hp=>pa_nil.wp (hp F ν H rs (List.prefix_refl _) (.refl _ _) [] .nil)
theorem APost.tail {M0:Addr->Prop}{F:Fp}{ν:Nu}{σ:St}{H:Hp}{P:Fp->Gv->Nu->Hp->List AV->Prop}{r:R (List AV×Gv)}{f:List AV->List AV}(h:APost M0 F ν σ H XP P (r.bind fun (as,Γ2)=>.ok (f as,Γ2))) :
  APost M0 F ν σ H XP (fun F' Γ' ν' H' as=>P F' Γ' ν' H' (f as)) r:=by
 cases r with
 | ok a=>exact h
 | exc x Γ'=>exact h
 | bad=>exact h
theorem zaU (ha:SE X XP mp a fa) (hl:SA X XP mp es fl) (hst:starEach (a::es) X.env=(false,eval a X.env)::starEach es X.env):SA X XP mp (a::es) (aCons fa fl):=fun M0 F Γ ν σ H Q rs hs hp=>
 (zp zf qG hst).wp (ha M0 F Γ ν σ H _ rs hs (hp.seq.mono fun F1 Γ1 H1 u rs1 s1 h1 v o1=>
  hl M0 F1 Γ1 ν σ H1 _ rs1 hs (h1.tail.mono fun F2 Γ2 ν2 H2 as rs2 hn s2 h2 vs oks=>h2 (v::vs) (.v ((o1.stp s2 rs1.al0).ext hn) oks))))
theorem zeA {s i:Nat}{x:Str}(hN:X.N[s]?=some x) (hv:Vis X.env.scope x) (hm:mp[s]?=some i) (hd:(x==("__debug__" :Str))=false) (hcd:(x==("__classdict__" :Str))=false) (hl:SA X XP mp es fl) (hst:starEach (.Name x pos::es) X.env=(false,eval (.Name x pos) X.env)::starEach es X.env) :
  SA X XP mp (.Name x pos::es) (aIo i fl):=fun M0 F Γ ν σ H Q rs hs hp=>by
 unfold aIo at hp
 split at hp
 ·rename_i o q
  obtain⟨v,e1,r⟩:=rs.at' i _ q
  exact (zp (qq hN hv hd hcd) qG hst).wp ⟨v,hs s i v hm e1,hl M0 F Γ ν σ H _ rs hs (hp.tail.mono fun F2 Γ2 ν2 H2 as rs2 hn s2 h2 vs oks=>h2 (v::vs) (.io (by
   obtain⟨t,rfl⟩:=hn
   rw[List.getElem?_append_left (List.getElem?_eq_some_iff.mp e1).1]; exact e1) oks))⟩
 ·exact hp.elim
theorem zc7 (h:SN X XP mp a na) (hst:starEach [a] X.env= [(false,eval a X.env)]):SA X XP mp [a] (zdT na):=fun M0 F Γ ν σ H Q rs hs hp=>
 (zp zf pa_nil hst).wp (h M0 F Γ ν σ H _ rs hs (hp.seq.mono fun F1 Γ1 H1 ds rs1 s1 h1 vs p r n=>by
  obtain⟨r2,s2⟩:=rs1.newO n r
  exact h1 _ _ _ r2 (List.prefix_append _ _) s2 _ (.io (by rw[<- rs1.len]; simp) .nil)))
inductive RF where
 | ok (r:OV) (outs:List (Option OV))
 | exc (x:Exc) (outs:List (Option OV))
 | bad
noncomputable def spX (mg:Str->Option Value) (n:Nat) (run:List OV->RF):Sp:=fun vs H Q E=>vs.length=n/\∃ (M0:Addr->Prop) (F:Fp) (args:List OV),RS M0 F (args.map some) (vs.map some) H/\match run args with
 | .ok r outs=>∀ F' v H',RS M0 F' (outs++ [some r]) (vs.map some++ [some v]) H'->Stp F H F' H'->Q v H'
 | .exc x outs=>∀ C,mg x.cls=some (.ref C)->∀ F' H',RS M0 F' (outs++ [some (.d .none)]) (vs.map some++ [some .non]) H'->Stp F H F' H'->E (.ref C) none H'
 | .bad=>False
noncomputable def PxOk (X:Cx) (XP:XPT):Prop:=∀ (σ:St) (pins:List (Addr×Obj)) (H:Hp) (e:Value) (s:Shared) (x:Exc) (Γ:Gv) (F:Fp) (ν:Nu) (C:Addr),X.mg x.cls=some (.ref C)->XP x Γ F ν σ H->Up X pins σ H C e s->X.xe e s
theorem zaQ {X:Cx}:PxOk X XP0:=fun σ pins H e s x Γ F ν C h z=>z.elim
theorem PxOk.call {X:Cx}{XP:XPT}(px:PxOk X XP) (σ:St) (pins:List (Addr×Obj)) (H:Hp) (s:Shared) (e:Value) (s':Shared) (E:XK) (h:∀ c H',E c none H'->∃ (x:Exc) (Γ:Gv) (F:Fp) (ν:Nu) (C:Addr),X.mg x.cls=some (.ref C)/\c=.ref C/\XP x Γ F ν σ H')
  (I:Inv X pins σ H s) (hc:CX1 X.prog X.w X.stack H s E e s'):X.xe e s':=I.up hc fun c H' q u=>by
 obtain⟨x,Γ,F,ν,C,h1,rfl,h2⟩:=h c H' q
 exact px σ pins H' e s' x Γ F ν C h1 h2 (u C rfl)
theorem zaP {X:Cx}{XP:XPT}{σ:St}{N':List Str}{scope:Scope}{cl:List (Str×Addr)}{C:Addr}{s2:Shared}{H2:Hp}{fp:List Addr}(px:PxOk X XP) (sk:Sk X) (cat:Cat X σ C s2 H2 fp):PxOk (X.comp N' scope cl C s2 H2 fp) (XPc XP σ) :=
 fun σ' pins' H e s x _ _ _ C0 h ⟨Γ,F,ν,hx⟩ u=>u.comp sk cat fun pins s' u'=>px σ pins H e s' x Γ F ν C0 h hx u'
noncomputable abbrev EX (X:Cx) (XP:XPT) (σ:St):XK:=fun c _ H'=>∃ (x:Exc) (Γ:Gv) (F:Fp) (ν:Nu) (C:Addr),X.mg x.cls=some (.ref C)/\c=.ref C/\XP x Γ F ν σ H'
noncomputable def toArg (Γ:Gv):AV->Option OV
 | .v u=>(derS Γ u).map .d
 | .io i=>match Γ[i]? with
  | some (some o)=>some o
  | _=>none
noncomputable def toArgs (Γ:Gv):List AV->Option (List OV)
 | []=>some []
 | a::as=>match toArg Γ a,toArgs Γ as with
  | some o,some os=>some (o::os)
  | _,_=>none
noncomputable def ios:List AV->List Nat
 | []=> []
 | .v _::as=>ios as
 | .io i::as=>i::ios as
noncomputable def putBack:List AV->List (Option OV)->Gv->Option Gv
 | [],_,Γ=>some Γ
 | .v _::as,_::os,Γ=>putBack as os Γ
 | .io i::as,some o::os,Γ=>if i<Γ.length then putBack as os (Γ.set i (some o)) else none
 | _,_,_=>none
theorem mem_ios {as:List AV}{i:Nat}:i∈ios as↔∃ j:Nat,as[j]?=some (.io i):=by
 induction as with
 | nil=>simp[ios]
 | cons a as ih=>
  cases a with
  | v u=>
   rw[ios,ih]
   constructor
   ·rintro⟨j,h⟩; exact⟨j+1,by simpa using h⟩
   ·rintro⟨j,h⟩
    cases j with
    | zero=>simp at h
    | succ j=>exact⟨j,by simpa using h⟩
  | io k=>
   rw[ios,List.mem_cons,ih]
   constructor
   ·rintro (rfl | ⟨j,h⟩)
    ·exact⟨0,rfl⟩
    ·exact⟨j+1,by simpa using h⟩
   ·rintro⟨j,h⟩
    cases j with
    | zero=>simp at h; exact .inl h.symm
    | succ j=>exact .inr ⟨j,by simpa using h⟩
theorem Z6:∀ {as:List AV}{i j k:Nat},(ios as).Nodup->as[j]?=some (.io i)->as[k]?=some (.io i)->j=k
 | [],_,_,_,_,h,_=>by simp at h
 | .v u::as,i,j,k,nd,h1,h2=>by
  cases j with
  | zero=>simp at h1
  | succ j=>
   cases k with
   | zero=>simp at h2
   | succ k=>exact congrArg (·+1) (Z6 (as:=as) (i:=i) (by rw[ios] at nd; exact nd) (by simpa using h1) (by simpa using h2))
 | .io m::as,i,j,k,nd,h1,h2=>by
  rw[ios,List.nodup_cons] at nd
  cases j with
  | zero=>
   cases k with
   | zero=>rfl
   | succ k=>
    simp at h1; subst h1
    exact absurd (mem_ios.mpr ⟨k,by simpa using h2⟩) nd.1
  | succ j=>
   cases k with
   | zero=>
    simp at h2; subst h2
    exact absurd (mem_ios.mpr ⟨j,by simpa using h1⟩) nd.1
   | succ k=>exact congrArg (·+1) (Z6 (as:=as) (i:=i) nd.2 (by simpa using h1) (by simpa using h2))
section
variable {M0:Addr->Prop} {F:Fp} {Γ:Gv} {ν:Nu} {H:Hp}
theorem AOks.get:∀ {vs:List V}{as:List AV}{args:List OV}{j:Nat}{o:OV},AOks M0 F ν H vs as->toArgs Γ as=some args->args[j]?=some o ->
  ∃ v,vs[j]?=some v/\((∃ u x,as[j]?=some (.v u)/\derS Γ u=some x/\o=.d x/\FOk M0 F ν H v u)∨∃ i,as[j]?=some (.io i)/\ν[i]?=some (some v)/\Γ[i]?=some (some o))
 | _,_,_,j,o,.nil,e,h=>by cases e; simp at h
 | _,_,_,j,o,.v (u:=u) (as:=as) h1 t,e,h=>by
  unfold toArgs at e
  split at e
  ·rename_i o' os e1 e2
   cases e
   cases j with
   | zero=>
    simp at h; subst h
    simp only[toArg,Option.map_eq_some_iff] at e1
    obtain⟨x,ex,rfl⟩:=e1
    exact⟨_,rfl,.inl ⟨u,x,rfl,ex,rfl,h1⟩⟩
   | succ j=>
    obtain⟨v,ev,q⟩:=AOks.get (j:=j) t e2 (by simpa using h)
    exact⟨v,by simpa using ev,by simpa using q⟩
  ·cases e
 | _,_,_,j,o,.io (i:=i) (as:=as) h1 t,e,h=>by
  unfold toArgs at e
  split at e
  ·rename_i o' os e1 e2
   cases e
   cases j with
   | zero=>
    simp at h; subst h
    simp only[toArg] at e1
    split at e1
    ·rename_i q
     cases e1
     exact⟨_,rfl,.inr ⟨i,rfl,h1,q⟩⟩
    ·cases e1
   | succ j=>
    obtain⟨v,ev,q⟩:=AOks.get (j:=j) t e2 (by simpa using h)
    exact⟨v,by simpa using ev,by simpa using q⟩
  ·cases e
theorem AOks.len:∀ {vs:List V}{as:List AV},AOks M0 F ν H vs as->vs.length=as.length
 | _,_,.nil=>rfl
 | _,_,.v _ t=>by rw[List.length_cons,List.length_cons,AOks.len t]
 | _,_,.io _ t=>by rw[List.length_cons,List.length_cons,AOks.len t]
theorem qx:∀ {as:List AV}{args:List OV},toArgs Γ as=some args->args.length=as.length
 | [],_,e=>by cases e; rfl
 | a::as,_,e=>by
  unfold toArgs at e
  split at e
  ·rename_i e1 e2
   cases e
   rw[List.length_cons,List.length_cons,qx e2]
  ·cases e
noncomputable def cM (M0:Addr->Prop) (F:Fp) (as:List AV):Addr->Prop:=fun a=>M0 a∨∃ i,i∉ios as/\a∈F i
noncomputable def cF (F:Fp) (as:List AV):Fp:=fun j=>match as[j]? with
 | some (.io i)=>F i
 | _=> []
theorem zbD {as:List AV}{j i:Nat}(h:as[j]?=some (.io i)):cF F as j=F i:=by unfold cF; rw[h]
theorem ZB {as:List AV}{j:Nat}{a:Addr}(h:a∈cF F as j):∃ i,as[j]?=some (.io i)/\a∈F i:=by
 unfold cF at h
 split at h
 ·rename_i i e; exact⟨i,e,h⟩
 ·cases h
theorem cMM {as:List AV}:MM (cM M0 F as) (cF F as)=MM M0 F:=by
 funext a
 apply propext
 constructor
 ·rintro ((h | ⟨i,_,h⟩) | ⟨j,h⟩)
  ·exact .inl h
  ·exact .inr ⟨i,h⟩
  ·obtain⟨i,_,h⟩:=ZB h; exact .inr ⟨i,h⟩
 ·rintro (h | ⟨i,h⟩)
  ·exact .inl (.inl h)
  ·by_cases hi:i∈ios as
   ·obtain⟨j,hj⟩:=mem_ios.mp hi
    exact .inr ⟨j,by rw[zbD hj]; exact h⟩
   ·exact .inl (.inr ⟨i,hi,h⟩)
theorem vL {vs:List V}{as:List AV}{args:List OV}(rs:RS M0 F Γ ν H) (oks:AOks M0 F ν H vs as) (e:toArgs Γ as=some args) (nd:(ios as).Nodup):RS (cM M0 F as) (cF F as) (args.map some) (vs.map some) H where
 al0 a h:=by
  rcases h with h | ⟨i,_,h⟩
  ·exact rs.al0 a h
  ·exact rs.al a (.inr ⟨i,h⟩)
 dis0 j a h:=by
  obtain⟨i,hi,ha⟩:=ZB h
  rintro (h0 | ⟨i',hi',ha'⟩)
  ·exact rs.dis0 i a ha h0
  ·have:=rs.dis _ _ a ha ha'
   subst this
   exact hi' (mem_ios.mpr ⟨j,hi⟩)
 nd j:=by
  unfold cF
  split
  ·exact rs.nd _
  ·exact .nil
 dis j k a h1 h2:=by
  obtain⟨i,hi,ha⟩:=ZB h1
  obtain⟨i',hi',ha'⟩:=ZB h2
  have:=rs.dis _ _ a ha ha'
  subst this
  exact Z6 nd hi hi'
 at' j o ej:=by
  rw[List.getElem?_map] at ej
  cases q:args[j]? with
  | none=>rw[q] at ej; cases ej
  | some o'=>
   rw[q] at ej
   have eo:o'=o:=by simpa using ej
   subst eo
   obtain⟨v,ev,h⟩:=oks.get e q
   refine⟨v,by rw[List.getElem?_map,ev]; rfl,?_⟩
   rw[cMM]
   rcases h with ⟨u,x,ea,ex,rfl,ok⟩ | ⟨i,ea,en,eg⟩
   ·have:cF F as j= []:=by unfold cF; rw[ea]
    rw[this]
    exact .d (ok.strong rs ex)
   ·rw[zbD ea]
    obtain⟨v',ev',r⟩:=rs.at' i o' eg
    rw[en] at ev'; cases ev'
    exact r
 emp j h:=by
  unfold cF
  split
  ·rename_i i ea
   exfalso
   have hj:j<args.length:=by rw[qx e]; exact (List.getElem?_eq_some_iff.mp ea).1
   exact h args[j] (by rw[List.getElem?_map,List.getElem?_eq_getElem hj]; rfl)
  ·rfl
 len:=by rw[List.length_map,List.length_map,oks.len,qx e]
theorem jr:∀ {as:List AV}{outs:List (Option OV)}{Γ Γ2:Gv},putBack as outs Γ=some Γ2->(ios as).Nodup->Γ2.length=Γ.length/\(∀ i:Nat,i∉ios as->Γ2[i]?=Γ[i]?)/\∀ j i:Nat,as[j]?=some (.io i)->∃ o,outs[j]?=some (some o)/\Γ2[i]?=some (some o)/\i<Γ.length
 | [],_,Γ,_,e,_=>by
  have:some Γ=some _:=e
  cases this
  exact⟨rfl,fun _ _=>rfl,fun j i h=>by simp at h⟩
 | .v u::as,[],Γ,_,e,_=>by cases e
 | .v u::as,x::os,Γ,Γ2,e,nd=>by
  obtain⟨h0,h1,h2⟩:=jr (as:=as) (outs:=os) (Γ:=Γ) (Γ2:=Γ2) e (by rw[ios] at nd; exact nd)
  refine⟨h0,fun i hi=>h1 i (by rw[ios] at hi; exact hi),fun j i hj=>?_⟩
  cases j with
  | zero=>simp at hj
  | succ j=>
   obtain⟨o,a,b⟩:=h2 j i (by simpa using hj)
   exact⟨o,by simpa using a,b⟩
 | .io k::as,[],Γ,_,e,_=>by cases e
 | .io k::as,none::os,Γ,_,e,_=>by cases e
 | .io k::as,some o::os,Γ,Γ2,e,nd=>by
  rw[putBack] at e
  split at e
  ·rename_i hk
   rw[ios,List.nodup_cons] at nd
   obtain⟨h0,h1,h2⟩:=jr (as:=as) (outs:=os) e nd.2
   rw[List.length_set] at h0
   refine⟨h0,fun i hi=>?_,fun j i hj=>?_⟩
   ·rw[ios,List.mem_cons] at hi
    rw[h1 i (fun z=>hi (.inr z)),List.getElem?_set_ne (fun z=>hi (.inl z.symm))]
   ·cases j with
    | zero=>
     have:k=i:=by simpa using hj
     subst this
     refine⟨o,rfl,?_,hk⟩
     rw[h1 k nd.1,List.getElem?_set_self hk]
    | succ j=>
     obtain⟨o',a,b,c⟩:=h2 j i (by simpa using hj)
     exact⟨o',by simpa using a,b,by simpa using c⟩
  ·cases e
open Classical in
theorem JS {vs:List V}{as:List AV}{args:List OV}{outs:List (Option OV)}{r:OV}{v:V}{Γ2:Gv}{ν0:Nu}{Fc':Fp}{H':Hp}{n:Nat}(rs:RS M0 F Γ ν H) (oks:AOks M0 F ν H vs as) (e:toArgs Γ as=some args) (nd:(ios as).Nodup)
  (rc:RS (cM M0 F as) Fc' (outs++ [some r]) (vs.map some++ [some v]) H') (sc:Stp (cF F as) H Fc' H') (pb:putBack as outs Γ=some Γ2) (hν:ν0 <+: ν) (hn:ν0.length=n) :
  ∃ F',RS M0 F' (Γ2.take n++ [some r]) (ν0++ [some v]) H'/\Stp F H F' H':=by
 obtain⟨p0,p1,p2⟩:=jr pb nd
 have hol:outs.length=as.length:=by have:=rc.len; simp[oks.len] at this; omega
 obtain⟨tl,rfl⟩:=hν
 have hnl:n<=Γ.length:=by have:=rs.len; simp at this; omega
 have htl:(Γ2.take n).length=n:=by rw[List.length_take]; omega
 let F':Fp:=fun i=>if i<n then (if h:∃ j:Nat,as[j]?=some (.io i) then Fc' (Classical.choose h) else F i) else if i=n then Fc' as.length else []
 have f1:∀ (i j:Nat),i<n->as[j]?=some (.io i)->F' i=Fc' j:=fun i j hi hj=>by
  show (if i<n then _ else _)=_
  rw[if_pos hi]
  have hex:∃ j:Nat,as[j]?=some (.io i):=⟨j,hj⟩
  rw[dif_pos hex,Z6 nd (Classical.choose_spec hex) hj]
 have f2:∀ (i:Nat),i<n->i∉ios as->F' i=F i:=fun i hi hj=>by
  show (if i<n then _ else _)=_
  rw[if_pos hi,dif_neg]
  rintro hex
  exact hj (mem_ios.mpr hex)
 have f3:F' n=Fc' as.length:=by show (if n<n then _ else _)=_; rw[if_neg (Nat.lt_irrefl _),if_pos rfl]
 have f4:∀ i,n<i->F' i= []:=fun i hi=>by show (if i<n then _ else _)=_; rw[if_neg (by omega),if_neg (by omega)]
 have cls:∀ i a,a∈F' i->(∃ j,i<n/\as[j]?=some (.io i)/\a∈Fc' j)∨(i<n/\i∉ios as/\a∈F i)∨(i=n/\a∈Fc' as.length):=fun i a h=>by
  by_cases hi:i<n
  ·by_cases hj:i∈ios as
   ·obtain⟨j,hj⟩:=mem_ios.mp hj
    rw[f1 i j hi hj] at h
    exact .inl ⟨j,hi,hj,h⟩
   ·rw[f2 i hi hj] at h; exact .inr (.inl ⟨hi,hj,h⟩)
  ·by_cases hj:i=n
   ·subst hj; rw[f3] at h; exact .inr (.inr ⟨rfl,h⟩)
   ·rw[f4 i (by omega)] at h; cases h
 have keepF:∀ i,i∉ios as->∀ a∈F i,H' a=H a:=fun i hi a ha=>by
  obtain⟨us,ea⟩:=rs.laidF ha
  rw[ea]
  refine (sc.keep a _ ea fun j hj=>?_).1
  obtain⟨i',hi',ha'⟩:=ZB hj
  have:=rs.dis _ _ a ha ha'
  subst this
  exact hi (mem_ios.mpr ⟨j,hi'⟩)
 have st:Stp F H F' H':=⟨fun b o eb nb=>by
  obtain⟨e1,n1⟩:=sc.keep b o eb fun j hj=>let ⟨i,_,ha⟩:=ZB hj; nb i ha
  refine⟨e1,fun i hi=>?_⟩
  rcases cls i b hi with ⟨j,_,_,h⟩ | ⟨_,_,h⟩ | ⟨_,h⟩
  ·exact n1 j h
  ·exact nb i h
  ·exact n1 _ h,sc.tups,sc.stay⟩
 have sub:∀ b,MM M0 F' b->MM (cM M0 F as) Fc' b:=fun b hb=>by
  rcases hb with hb | ⟨i,hb⟩
  ·exact .inl (.inl hb)
  ·rcases cls i b hb with ⟨j,_,_,h⟩ | ⟨_,hi,h⟩ | ⟨_,h⟩
   ·exact .inr ⟨j,h⟩
   ·exact .inl (.inr ⟨i,hi,h⟩)
   ·exact .inr ⟨_,h⟩
 have conv:∀ {w:V} {o:OV} {A:List Addr},OR (MM (cM M0 F as) Fc') H' w o A->OR (MM M0 F') H' w o A:=fun {w o A} q=>q.go (fun v d x=>x.less fun b hb _=>sub b hb) (fun _ _ e=>e) fun _ _=>rfl
 have out:∀ (j:Nat) (a:Addr),a∈Fc' j->¬ M0 a/\∀ i,i∉ios as->a∉F i:=fun j a ha=>by
  have h:=rc.dis0 j a ha
  exact⟨fun z=>h (.inl z),fun i hi z=>h (.inr ⟨i,hi,z⟩)⟩
 refine⟨F',⟨fun a ha=>sc.stay a (rs.al0 a ha),fun i a ha=>?_,fun i=>?_,fun i k a h1 h2=>?_,fun i o ei=>?_,fun i hi=>?_,by simp[htl,hn]⟩,st⟩
 ·rcases cls i a ha with ⟨j,_,_,h⟩ | ⟨_,hi,h⟩ | ⟨_,h⟩
  ·exact (out j a h).1
  ·exact rs.dis0 i a h
  ·exact (out _ a h).1
 ·by_cases hi:i<n
  ·by_cases hj:i∈ios as
   ·obtain⟨j,hj⟩:=mem_ios.mp hj
    rw[f1 i j hi hj]; exact rc.nd j
   ·rw[f2 i hi hj]; exact rs.nd i
  ·by_cases hj:i=n
   ·subst hj; rw[f3]; exact rc.nd _
   ·rw[f4 i (by omega)]; exact .nil
 ·rcases cls i a h1 with ⟨j,hi,ej,z1⟩ | ⟨hi,ni,z1⟩ | ⟨rfl,z1⟩
  ·rcases cls k a h2 with ⟨j',hk,ej',z2⟩ | ⟨hk,nk,z2⟩ | ⟨rfl,z2⟩
   ·have:=rc.dis _ _ a z1 z2
    subst this
    rw[ej] at ej'; cases ej'; rfl
   ·exact absurd z2 ((out j a z1).2 k nk)
   ·have:=rc.dis _ _ a z1 z2
    subst this
    rw[List.getElem?_eq_none (Nat.le_refl _)] at ej; cases ej
  ·rcases cls k a h2 with ⟨j',hk,ej',z2⟩ | ⟨hk,nk,z2⟩ | ⟨rfl,z2⟩
   ·exact absurd z1 ((out j' a z2).2 i ni)
   ·exact rs.dis _ _ a z1 z2
   ·exact absurd z1 ((out _ a z2).2 i ni)
  ·rcases cls k a h2 with ⟨j',hk,ej',z2⟩ | ⟨hk,nk,z2⟩ | ⟨rfl,z2⟩
   ·have:=rc.dis _ _ a z1 z2
    subst this
    rw[List.getElem?_eq_none (Nat.le_refl _)] at ej'; cases ej'
   ·exact absurd z2 ((out _ a z1).2 k nk)
   ·rfl
 ·by_cases hi:i<n
  ·rw[List.getElem?_append_left (by omega),List.getElem?_take_of_lt hi] at ei
   rw[List.getElem?_append_left (by omega)]
   by_cases hj:i∈ios as
   ·obtain⟨j,hj⟩:=mem_ios.mp hj
    obtain⟨o',eo,eg,_⟩:=p2 j i hj
    rw[eg] at ei
    have eoo:o'=o:=by simpa using ei
    subst eoo
    have hjl:j<as.length:=(List.getElem?_eq_some_iff.mp hj).1
    obtain⟨w,ew,q⟩:=rc.at' j o' (by rw[List.getElem?_append_left (by omega)]; exact eo)
    rw[List.getElem?_append_left (by rw[List.length_map,oks.len]; exact hjl),List.getElem?_map] at ew
    have hal:j<args.length:=by rw[qx e]; exact hjl
    obtain⟨v',ev',hh⟩:=oks.get e (List.getElem?_eq_getElem hal)
    rw[ev'] at ew
    have ew':v'=w:=by simpa using ew
    subst ew'
    rcases hh with ⟨u,x,ea,_⟩ | ⟨i',ea,en,_⟩
    ·rw[hj] at ea; cases ea
    ·rw[hj] at ea; cases ea
     rw[List.getElem?_append_left (by omega)] at en
     exact⟨v',en,by rw[f1 i j hi hj]; exact conv q⟩
   ·rw[p1 i hj] at ei
    obtain⟨w,ew,q⟩:=rs.at' i o ei
    rw[List.getElem?_append_left (by omega)] at ew
    refine⟨w,ew,?_⟩
    rw[f2 i hi hj]
    exact q.go (fun v d x=>zq st rs.al0 x) st.tups (keepF i hj)
  ·have hin:i=n:=by
    have:=(List.getElem?_eq_some_iff.mp ei).1
    simp[htl] at this; omega
   subst hin
   rw[List.getElem?_append_right (by omega),htl] at ei
   have:r=o:=by simpa using ei
   subst this
   refine⟨v,by rw[List.getElem?_append_right (by omega),hn]; simp,?_⟩
   rw[f3]
   obtain⟨w,ew,q⟩:=rc.at' as.length r (by rw[List.getElem?_append_right (by omega),hol]; simp)
   rw[List.getElem?_append_right (by rw[List.length_map,oks.len]; exact Nat.le_refl _),List.length_map,oks.len] at ew
   have:v=w:=by simpa using ew
   subst this
   exact conv q
 ·by_cases hlt:i<n
  ·have nj:i∉ios as:=fun hj=>by
    obtain⟨j,hj⟩:=mem_ios.mp hj
    obtain⟨o',eo,eg,_⟩:=p2 j i hj
    exact hi o' (by rw[List.getElem?_append_left (by omega),List.getElem?_take_of_lt hlt]; exact eg)
   rw[f2 i hlt nj]
   refine rs.emp i fun o eo=>hi o ?_
   rw[List.getElem?_append_left (by omega),List.getElem?_take_of_lt hlt,p1 i nj]; exact eo
  ·by_cases hin:i=n
   ·subst hin
    exact absurd (by rw[List.getElem?_append_right (by omega),htl]; simp) (hi r)
   ·exact f4 i (by omega)
end
noncomputable def fCall (run:List OV->RF) (fl:EM (List AV)):EM OV:=fun Γ=>(fl Γ).bind fun (as,Γ1)=>match toArgs Γ1 as with
 | none=>.bad
 | some args=>if (ios as).Nodup then match run args with
  | .ok r outs=>match putBack as outs Γ1 with
   | some Γ2=>.ok (r,Γ2.take Γ.length)
   | none=>.bad
  | .exc x outs=>match putBack as outs Γ1 with
   | some Γ2=>.exc x (Γ2.take Γ.length)
   | none=>.bad
  | .bad=>.bad
  else .bad
theorem JU {M0:Addr->Prop}{F:Fp}{Γ:Gv}{ν:Nu}{σ:St}{H:Hp}{run:List OV->RF}{n:Nat}{Q:VK}(rs:RS M0 F Γ ν H) (hrun:∀ args,run args≠ .bad->args.length=n)
  (hp:OPost M0 F ν σ H XP (fun F' Γ' H' o v=>Q v H') (fCall run fl Γ)):APost M0 F ν σ H XP (fun F1 Γ1 ν1 H1 as=>∀ vs,AOks M0 F1 ν1 H1 vs as->spX X.mg n run vs H1 Q (EX X XP σ)) (fl Γ):=by
 unfold fCall at hp
 generalize fl Γ=ra at hp
 cases ra with
 | bad=>exact hp
 | exc x y=>exact hp
 | ok z=>
  obtain⟨as,Γ1⟩:=z
  intro F1 ν1 H1 rs1 hn s1 vs oks
  simp only[R.bind] at hp
  split at hp
  ·exact hp.elim
  ·rename_i args ea
   split at hp
   ·rename_i nd
    have hl:vs.length=n:=by
     rw[oks.len,<- qx ea]
     refine hrun args fun z=>?_
     rw[z] at hp; exact hp.elim
    refine⟨hl,cM M0 F1 as,cF F1 as,args,vL rs1 oks ea nd,?_⟩
    split at hp
    ·rename_i r outs er
     split at hp
     ·rename_i Γ2 eb
      intro F' v H' rc sc
      obtain⟨F2,rs2,s2⟩:=JS (n:=Γ.length) rs1 oks ea nd rc sc eb hn rs.len
      exact hp F2 H' v rs2 (s1.trans s2)
     ·exact hp.elim
    ·rename_i x outs er
     split at hp
     ·rename_i Γ2 eb
      intro C hC F' H' rc sc
      obtain⟨F2,rs2,s2⟩:=JS (n:=Γ.length) rs1 oks ea nd rc sc eb hn rs.len
      obtain⟨F3,rs3,s3,_⟩:=rs2.dropD
      exact⟨x,_,F3,ν,C,hC,rfl,hp F3 H' rs3 ((s1.trans s2).trans s3)⟩
     ·exact hp.elim
    ·exact hp.elim
   ·exact hp.elim
theorem zbf {x:Str}{k n:Nat}{run:List OV->RF}(px:PxOk X XP) (kn:Kn X.prog X.w X.K X.mg X.base (CX1 X.prog X.w) x k (spX X.mg n run)) (hr:Room k X.A) (hg:Gl X x) (hrun:∀ args,run args≠ .bad->args.length=n) (hl:SA X XP mp (a::es) fl)
  (hdb:(x==("__debug__" :Str))=false) (he:starEach (a::es) X.env=(false,eval a X.env)::starEach es X.env) (hpl:(backTo pos (starEach es X.env)).any (·.1)=false):SO X XP mp (.Call (.Name x p) (a::es) [] pos) (fCall run fl):=fun M0 F Γ ν σ H Q rs hs hp=>
 KY (E:=EX X XP σ) kn hr hg (fun pins H1 s1 e s' I hx=>px.call σ pins H1 s1 e s' _ (fun c H' q=>q) I hx) (hl M0 F Γ ν σ H _ rs hs (JU rs hrun hp)) hdb he hpl
theorem Kk {x:Str}{k n:Nat}{run:List OV->RF}(px:PxOk X XP) (kn:Kn X.prog X.w X.K X.mg X.base (CX1 X.prog X.w) x k (spX X.mg n run)) (hr:Room k X.A) (hg:Gl X x) (hrun:∀ args,run args≠ .bad->args.length=n)
  (hdb:(x==("__debug__" :Str))=false):SO X XP mp (.Call (.Name x p) [] [] pos) (fCall run aNil):=fun M0 F Γ ν σ H Q rs hs hp=>by
 have h:=JU (X:=X) (n:=n) rs hrun hp F ν H rs (List.prefix_refl _) (.refl _ _) [] .nil
 exact Yq kn hr hg (fun pins H1 s1 e s' I hx=>px.call σ pins H1 s1 e s' _ (fun c H' q=>q) I hx) h hdb
end
end L3
namespace L3
open PySem PySem.Spec PyProof.Rows L2
variable [Cs]
inductive FL where
 | next
 | ret (o:OV)
 | brk
 | cnt
noncomputable abbrev SM:=Gv->R (FL×Gv)
noncomputable def SPost (M0:Addr->Prop) (F:Fp) (ν:Nu) (H:Hp) (XP:XPT) (mp:List Nat) (N:Nat) (io:List Nat) (D:qy) (r:R (FL×Gv)):Prop:=match r with
 | .ok (.next,Γ')=>∀ F' ν' σ' H',RS M0 F' Γ' ν' H'->Stp F H F' H'->Sees mp ν' σ'->σ'.length=N->(∀ i∈io,ν'[i]?=ν[i]?)->D.nx σ' H'
 | .ok (.brk,Γ')=>∀ F' ν' σ' H',RS M0 F' Γ' ν' H'->Stp F H F' H'->Sees mp ν' σ'->σ'.length=N->(∀ i∈io,ν'[i]?=ν[i]?)->D.bk σ' H'
 | .ok (.cnt,Γ')=>∀ F' ν' σ' H',RS M0 F' Γ' ν' H'->Stp F H F' H'->Sees mp ν' σ'->σ'.length=N->(∀ i∈io,ν'[i]?=ν[i]?)->D.ct σ' H'
 | .ok (.ret o,Γ')=>∀ F' ν' v H',RS M0 F' (Γ'++ [some o]) (ν'++ [some v]) H'->Stp F H F' H'->(∀ i∈io,ν'[i]?=ν[i]?)->D.rt v H'
 | .exc x Γ'=>∀ F' ν' σ' H',RS M0 F' Γ' ν' H'->Stp F H F' H'->Sees mp ν' σ'->σ'.length=N->(∀ i∈io,ν'[i]?=ν[i]?)->XP x Γ' F' ν' σ' H'
 | .bad=>False
noncomputable def SS (X:Cx) (XP:XPT) (mp:List Nat) (io:List Nat) (st:Stmt) (f:SM):Prop:=∀ (M0:Addr->Prop) (F:Fp) (Γ:Gv) (ν:Nu) (σ:St) (H:Hp) (D:qy),RS M0 F Γ ν H->Sees mp ν σ->σ.length=X.N.length ->
 SPost M0 F ν H XP mp X.N.length io D (f Γ)->wpS X st D σ H
noncomputable def SB (X:Cx) (XP:XPT) (mp:List Nat) (io:List Nat) (sts:List Stmt) (f:SM):Prop:=∀ (M0:Addr->Prop) (F:Fp) (Γ:Gv) (ν:Nu) (σ:St) (H:Hp) (D:qy),RS M0 F Γ ν H->Sees mp ν σ->σ.length=X.N.length ->
 SPost M0 F ν H XP mp X.N.length io D (f Γ)->wpB X sts D σ H
section
variable {M0:Addr->Prop} {F F1:Fp} {Γ:Gv} {ν ν1:Nu} {σ:St} {H H1:Hp} {XP:XPT} {mp:List Nat} {N:Nat} {io:List Nat} {D D':qy} {r:R (FL×Gv)}
theorem SPost.step (h:SPost M0 F ν H XP mp N io D r) (s1:Stp F H F1 H1) (hn:∀ i∈io,ν1[i]?=ν[i]?):SPost M0 F1 ν1 H1 XP mp N io D r:=by
 cases r with
 | ok z=>
  obtain⟨fl,Γ'⟩:=z
  cases fl with
  | next=>exact fun F' ν' σ' H' a b c d e=>h F' ν' σ' H' a (s1.trans b) c d fun i hi=>(e i hi).trans (hn i hi)
  | brk=>exact fun F' ν' σ' H' a b c d e=>h F' ν' σ' H' a (s1.trans b) c d fun i hi=>(e i hi).trans (hn i hi)
  | cnt=>exact fun F' ν' σ' H' a b c d e=>h F' ν' σ' H' a (s1.trans b) c d fun i hi=>(e i hi).trans (hn i hi)
  | ret o=>exact fun F' ν' v H' a b e=>h F' ν' v H' a (s1.trans b) fun i hi=>(e i hi).trans (hn i hi)
 | exc x Γ'=>exact fun F' ν' σ' H' a b c d e=>h F' ν' σ' H' a (s1.trans b) c d fun i hi=>(e i hi).trans (hn i hi)
 | bad=>exact h
theorem SPost.seq {α:Type}{r:R (α×Gv)}{k:α×Gv->R (FL×Gv)}(hs:Sees mp ν σ) (hl:σ.length=N) (h:SPost M0 F ν H XP mp N io D (r.bind k)):EPost M0 F ν σ H XP (fun F1 Γ1 H1 a=>SPost M0 F1 ν H1 XP mp N io D (k (a,Γ1))) r:=by
 cases r with
 | ok z=>
  obtain⟨a,Γ1⟩:=z
  intro F1 H1 rs1 s1
  have h':SPost M0 F ν H XP mp N io D (k (a,Γ1)):=h
  exact h'.step s1 fun _ _=>rfl
 | exc x Γ'=>exact fun F' H' rs s=>h F' ν σ H' rs s hs hl fun _ _=>rfl
 | bad=>exact h
theorem SPost.seqO {r:R (OV×Gv)}{k:OV×Gv->R (FL×Gv)}(hs:Sees mp ν σ) (hl:σ.length=N) (h:SPost M0 F ν H XP mp N io D (r.bind k)):OPost M0 F ν σ H XP (fun F1 Γ1 H1 o v=>SPost M0 F1 ν H1 XP mp N io D (k (o,Γ1))) r:=by
 cases r with
 | ok z=>
  obtain⟨a,Γ1⟩:=z
  intro F1 H1 v rs1 s1
  have h':SPost M0 F ν H XP mp N io D (k (a,Γ1)):=h
  exact h'.step s1 fun _ _=>rfl
 | exc x Γ'=>exact fun F' H' rs s=>h F' ν σ H' rs s hs hl fun _ _=>rfl
 | bad=>exact h
end
noncomputable def sNext:SM:=fun Γ=>.ok (.next,Γ)
noncomputable def sSeq (f g:SM):SM:=fun Γ=>match f Γ with
 | .ok (.next,Γ1)=>g Γ1
 | r=>r
section
variable {X:Cx} {XP:XPT} {mp io:List Nat} {a b c e tg iter:Expr} {es:List Expr} {pos p p2 pos':Pos} {fa fb fc:EM FV} {ta tb:EM Bool} {na nb:EM (List PyData)} {fo:EM OV} {st:Stmt} {sts body els:List Stmt} {f g:SM}
theorem zc8:SB X XP mp io [] sNext:=fun M0 F Γ ν σ H D rs hs hl hp=>pss_nil.wp (hp F ν σ H rs (.refl _ _) hs hl fun _ _=>rfl)
theorem Ke {M0:Addr->Prop}{F:Fp}{Γ:Gv}{ν:Nu}{H:Hp}{N:Nat}{D:qy}{nx:St->Hp->Prop}(hp:SPost M0 F ν H XP mp N io D (sSeq f g Γ))
  (hn:∀ F1 Γ1 ν1 σ1 H1,RS M0 F1 Γ1 ν1 H1->Sees mp ν1 σ1->σ1.length=N->SPost M0 F1 ν1 H1 XP mp N io D (g Γ1)->nx σ1 H1):SPost M0 F ν H XP mp N io { D with nx:=nx } (f Γ):=by
 unfold sSeq at hp
 generalize f Γ=r at hp
 cases r with
 | ok z=>
  obtain⟨fl,Γ'⟩:=z
  cases fl with
  | next=>exact fun F' ν' σ' H' a b c d e=>hn F' Γ' ν' σ' H' a c d (hp.step b e)
  | brk=>exact hp
  | cnt=>exact hp
  | ret o=>exact hp
 | exc x Γ'=>exact hp
 | bad=>exact hp
theorem zaV (h1:SS X XP mp io st f) (h2:SB X XP mp io sts g):SB X XP mp io (st::sts) (sSeq f g):=fun M0 F Γ ν σ H D rs hs hl hp=>
 (Zu V2 qm).wp (h1 M0 F Γ ν σ H _ rs hs hl (Ke hp fun F1 Γ1 ν1 σ1 H1 rs1 hs1 hl1 h=>h2 M0 F1 Γ1 ν1 σ1 H1 D rs1 hs1 hl1 h))
theorem zbj:SS X XP mp io (.Pass pos) sNext:=fun M0 F Γ ν σ H D rs hs hl hp=>ps_pass.wp (hp F ν σ H rs (.refl _ _) hs hl fun _ _=>rfl)
noncomputable def zez:SM:=fun _=>.bad
theorem zdv:SS X XP mp io st zez:=fun M0 F Γ ν σ H D rs hs hl hp=>hp.elim
noncomputable def fD (fa:EM FV):EM OV:=fun Γ=>(fa Γ).bind fun (u,Γ1)=>match derS Γ1 u with
 | some x=>.ok (.d x,Γ1)
 | none=>.bad
theorem RS.newD {M0:Addr->Prop}{F:Fp}{Γ:Gv}{ν:Nu}{H:Hp}{v:V}{x:PyData}(r:RS M0 F Γ ν H) (q:Rep (MM M0 F) H v x):RS M0 F (Γ++ [some (.d x)]) (ν++ [some v]) H:=by
 have he:F Γ.length= []:=r.emp _ fun o e=>by
  rw[List.getElem?_eq_none (Nat.le_refl _)] at e; cases e
 refine⟨r.al0,r.dis0,r.nd,r.dis,fun j o e=>?_,fun j h=>?_,by simp[r.len]⟩
 ·by_cases hj:j<Γ.length
  ·rw[List.getElem?_append_left hj] at e
   obtain⟨w,e1,z⟩:=r.at' j o e
   exact⟨w,by rw[List.getElem?_append_left (by rw[r.len]; exact hj)]; exact e1,z⟩
  ·have hj':j=Γ.length:=by
    have:=(List.getElem?_eq_some_iff.mp e).1
    simp at this; omega
   subst hj'
   rw[List.getElem?_append_right (Nat.le_refl _)] at e
   have:(OV.d x)=o:=by simpa using e
   subst this
   refine⟨v,by rw[List.getElem?_append_right (by rw[r.len]; exact Nat.le_refl _),r.len]; simp,?_⟩
   rw[he]; exact .d q
 ·refine r.emp j fun o e=>h o ?_
  rw[List.getElem?_append_left (List.getElem?_eq_some_iff.mp e).1]; exact e
theorem SE.so (h:SE X XP mp a fa):SO X XP mp a (fD fa):=fun M0 F Γ ν σ H Q rs hs hp=>
 h M0 F Γ ν σ H Q rs hs (hp.seq.mono fun F1 Γ1 H1 u rs1 s1 h1 v hv=>by
  dsimp only at h1
  split at h1
  ·rename_i x e
   exact h1 F1 H1 v (rs1.newD (hv.strong rs1 e)) (.refl _ _)
  ·exact h1.elim)
noncomputable def fMove (i:Nat):EM OV:=fun Γ=>match Γ[i]? with
 | some (some o)=>.ok (o,Γ.set i none)
 | _=>.bad
theorem RS.take {M0:Addr->Prop}{F:Fp}{Γ:Gv}{ν:Nu}{H:Hp}{i:Nat}{o:OV}(r:RS M0 F Γ ν H) (e:Γ[i]?=some (some o)):∃ F' v,ν[i]?=some (some v)/\RS M0 F' (Γ.set i none++ [some o]) (ν++ [some v]) H/\Stp F H F' H:=by
 obtain⟨v,ev,q⟩:=r.at' i o e
 have hi:=(List.getElem?_eq_some_iff.mp e).1
 let F':Fp:=fun j=>if j=i then [] else if j=Γ.length then F i else F j
 have g1:F' i= []:=by show (if i=i then _ else _)=_; rw[if_pos rfl]
 have g2:F' Γ.length=F i:=by show (if Γ.length=i then _ else _)=_; rw[if_neg (by omega),if_pos rfl]
 have g3:∀ j,j≠i->j≠Γ.length->F' j=F j:=fun j h1 h2=>by show (if j=i then _ else _)=_; rw[if_neg h1,if_neg h2]
 have cls:∀ j a,a∈F' j->(j=Γ.length/\a∈F i)∨(j≠i/\j≠Γ.length/\a∈F j):=fun j a h=>by
  by_cases h1:j=i
  ·subst h1; rw[g1] at h; cases h
  ·by_cases h2:j=Γ.length
   ·subst h2; rw[g2] at h; exact .inl ⟨rfl,h⟩
   ·rw[g3 j h1 h2] at h; exact .inr ⟨h1,h2,h⟩
 have st:Stp F H F' H:=jy fun j a h=>by
  rcases cls j a h with ⟨_,h⟩ | ⟨_,_,h⟩
  ·exact⟨_,h⟩
  ·exact⟨_,h⟩
 refine⟨F',v,ev,⟨r.al0,fun j a h=>?_,fun j=>?_,fun j k a h1 h2=>?_,fun j p ej=>?_,fun j h=>?_,by simp[r.len]⟩,st⟩
 ·rcases cls j a h with ⟨_,h⟩ | ⟨_,_,h⟩
  ·exact r.dis0 _ a h
  ·exact r.dis0 _ a h
 ·by_cases h1:j=i
  ·subst h1; rw[g1]; exact .nil
  ·by_cases h2:j=Γ.length
   ·subst h2; rw[g2]; exact r.nd _
   ·rw[g3 j h1 h2]; exact r.nd _
 ·rcases cls j a h1 with ⟨e1,z1⟩ | ⟨n1,m1,z1⟩
  ·rcases cls k a h2 with ⟨e2,z2⟩ | ⟨n2,m2,z2⟩
   ·rw[e1,e2]
   ·exact absurd (r.dis _ _ a z2 z1) n2
  ·rcases cls k a h2 with ⟨e2,z2⟩ | ⟨n2,m2,z2⟩
   ·exact absurd (r.dis _ _ a z1 z2) n1
   ·exact r.dis _ _ a z1 z2
 ·have hsl:(Γ.set i none).length=Γ.length:=by simp
  by_cases hj:j<Γ.length
  ·rw[List.getElem?_append_left (by omega)] at ej
   by_cases hji:j=i
   ·subst hji; rw[List.getElem?_set_self hi] at ej; cases ej
   ·rw[List.getElem?_set_ne (Ne.symm hji)] at ej
    obtain⟨w,ew,z⟩:=r.at' j p ej
    refine⟨w,by rw[List.getElem?_append_left (by rw[r.len]; exact hj)]; exact ew,?_⟩
    rw[g3 j hji (by omega)]
    exact z.go (fun _ _ x=>zq st r.al0 x) st.tups fun _ _=>rfl
  ·have hj':j=Γ.length:=by
    have:=(List.getElem?_eq_some_iff.mp ej).1
    simp at this; omega
   subst hj'
   rw[List.getElem?_append_right (by omega),hsl] at ej
   have:o=p:=by simpa using ej
   subst this
   refine⟨v,by rw[List.getElem?_append_right (by rw[r.len]; exact Nat.le_refl _),r.len]; simp,?_⟩
   rw[g2]
   exact q.go (fun _ _ x=>zq st r.al0 x) st.tups fun _ _=>rfl
 ·by_cases h1:j=i
  ·subst h1; exact g1
  ·by_cases h2:j=Γ.length
   ·subst h2
    exact absurd (by rw[List.getElem?_append_right (by simp)]; simp) (h o)
   ·rw[g3 j h1 h2]
    refine r.emp j fun p ep=>h p ?_
    rw[List.getElem?_append_left (by simpa using (List.getElem?_eq_some_iff.mp ep).1),List.getElem?_set_ne (Ne.symm h1)]; exact ep
theorem zbg {s i:Nat}{x:Str}(hN:X.N[s]?=some x) (hv:Vis X.env.scope x) (hm:mp[s]?=some i) (hd:(x==("__debug__" :Str))=false) (hcd:(x==("__classdict__" :Str))=false) :
  SO X XP mp (.Name x pos) (fMove i):=fun M0 F Γ ν σ H Q rs hs hp=>by
 unfold fMove at hp
 split at hp
 ·rename_i o q
  obtain⟨F',v,e1,rs1,s1⟩:=rs.take q
  exact (qq hN hv hd hcd).wp ⟨v,hs s i v hm e1,hp F' H v rs1 s1⟩
 ·exact hp.elim
noncomputable def sRet (fo:EM OV):SM:=fun Γ=>(fo Γ).bind fun (o,Γ1)=>.ok (.ret o,Γ1)
theorem zdx (h:SO X XP mp e fo):SS X XP mp io (.Return (some e) pos) (sRet fo):=fun M0 F Γ ν σ H D rs hs hl hp=>
 (kQ zf).wp (h M0 F Γ ν σ H _ rs hs ((SPost.seqO hs hl hp).mono fun F1 Γ1 H1 o v rs1 s1 h1=>h1 F1 ν v H1 rs1 (.refl _ _) fun _ _=>rfl))
noncomputable def sRetN:SM:=fun Γ=>.ok (.ret (.d .none),Γ)
noncomputable def SOt (XP:XPT) (mp:List Nat) (t:TE) (f:EM OV):Prop:=∀ (M0:Addr->Prop) (F:Fp) (Γ:Gv) (ν:Nu) (σ:St) (H:Hp) (Q:VK),RS M0 F Γ ν H->Sees mp ν σ ->
 OPost M0 F ν σ H XP (fun F' Γ' H' o v=>Q v H') (f Γ)->t σ H Q
theorem SNt.so {t:TE}(h:SNt XP mp t na):SOt XP mp t (fOwn na):=fun M0 F Γ ν σ H Q rs hs hp=>
 h M0 F Γ ν σ H Q rs hs (hp.seq.mono fun F1 Γ1 H1 ds rs1 s1 h1 vs p r n=>by
  obtain⟨r2,s2⟩:=rs1.newO n r
  exact h1 _ _ _ r2 s2)
theorem SNt.sd {t:TE}(h:SNt XP mp t na):SOt XP mp t (fD (fNew na)):=fun M0 F Γ ν σ H Q rs hs hp=>
 h M0 F Γ ν σ H Q rs hs (by
  have hp':OPost M0 F ν σ H XP (fun F' Γ' H' o v=>Q v H') ((na Γ).bind fun (ds,Γ1)=>.ok (.d (.list ds),Γ1)):=by
   have e:fD (fNew na) Γ=(na Γ).bind fun (ds,Γ1)=>.ok (.d (.list ds),Γ1):=by
    unfold fD fNew
    cases na Γ <;> rfl
   rw[<- e]; exact hp
  exact hp'.seq.mono fun F1 Γ1 H1 ds rs1 s1 h1 vs p r n=>by
   have s2:Same H1 (upd H1 p (.lst vs)):=zv n
   exact h1 F1 _ _ ((rs1.same s2).newD (Rep.list zi (fun z=>rs1.al p z n) (r.grow s2.grow))) (.same s2))
noncomputable def sAsg (io:List Nat) (i:Nat) (fo:EM OV):SM:=fun Γ=>(fo Γ).bind fun (o,Γ1)=>if i<Γ1.length/\i∉io then .ok (.next,Γ1.set i (some o)) else .bad
theorem Wa {s i:Nat}{t:TE}(hps:PS X st (Wc t (Q6 s))) (hn:mp.Nodup) (hm:mp[s]?=some i) (hsl:s<X.N.length) (h:SOt XP mp t fo):SS X XP mp io st (sAsg io i fo):=fun M0 F Γ ν σ H D rs hs hl hp=>
 hps.wp (h M0 F Γ ν σ H _ rs hs ((SPost.seqO hs hl hp).mono fun F1 Γ1 H1 o v rs1 s1 h1=>by
  dsimp only at h1
  split at h1
  ·rename_i hh
   obtain⟨F2,rs2,s2⟩:=rs1.move hh.1
   exact h1 F2 _ _ H1 rs2 s2 (hs.set hn hm (by rw[hl]; exact hsl)) (by simpa using hl) fun j hj=>by
    rw[List.getElem?_set_ne (fun z=>hh.2 (by rw[z]; exact hj))]
  ·exact h1.elim))
theorem zdu {s i:Nat}{x:Str}(hN:X.N.Nodup) (hi:X.N[s]?=some x) (hx:Loc X.env.scope x) (hf:X.fn x=true∨X.env.scope.names.lookup x=some .local) (hn:mp.Nodup) (hm:mp[s]?=some i) (h:SO X XP mp e fo)
  (hsw:swapsWith e (some (.Name x pos')) pos.line X.env=pure false):SS X XP mp io (.Assign [.Name x pos'] e pos) (sAsg io i fo) :=
 Wa (w4 hN hi hx zf hsw hf) hn hm (List.getElem?_eq_some_iff.mp hi).1 h
noncomputable def sAsgT (t:IT) (fa:EM FV):SM:=fun Γ=>(fa Γ).bind fun (u,Γ1)=>match derS Γ1 u with
 | some x=>match tgF t x Γ1 with
  | some Γ2=>.ok (.next,Γ2)
  | none=>.bad
 | none=>.bad
theorem Km {t:IT}(ha:SE X XP mp e fa) (hg:SG X mp (·∈io) tg t) (hsw:swapsWithSole [tg] e pos.line X.env=pure false) (hw:swappedStores [tg] e X.env=pure none)
  (hps:PS X (.Assign [tg] e pos) (Wc (wpE X e) (wpG X tg))):SS X XP mp io (.Assign [tg] e pos) (sAsgT t fa):=fun M0 F Γ ν σ H D rs hs hl hp=>
 hps.wp (ha M0 F Γ ν σ H _ rs hs ((SPost.seq hs hl hp).mono fun F1 Γ1 H1 u rs1 s1 h1 v hv=>by
  dsimp only at h1
  split at h1
  ·rename_i x ex
   split at h1
   ·rename_i Γ2 et
    exact hg M0 F1 Γ1 Γ2 ν σ H1 v x _ rs1 hs hl (hv.strong rs1 ex) et fun F2 ν2 σ2 rs2 s2 hs2 hl2 n2 m2=>h1 F2 ν2 σ2 H1 rs2 s2 hs2 hl2 n2
   ·exact h1.elim
  ·exact h1.elim))
noncomputable def sExpr (fa:EM FV):SM:=fun Γ=>(fa Γ).bind fun (_,Γ1)=>.ok (.next,Γ1)
noncomputable def sIf (t:EM Bool) (f g:SM):SM:=fun Γ=>(t Γ).bind fun (b,Γ1)=>if b then f Γ1 else g Γ1
theorem zeI (hc:ST X XP mp c ta) (ha:SB X XP mp io body f) (hb:SB X XP mp io els g):SS X XP mp io (.If c body els pos) (sIf ta f g):=fun M0 F Γ ν σ H D rs hs hl hp=>
 (zes qH qm qm).wp (hc M0 F Γ ν σ H _ rs hs ((SPost.seq hs hl hp).mono fun F1 Γ1 H1 b rs1 s1 h1=>by
  cases b with
  | true=>exact WS (ha M0 F1 Γ1 ν σ H1 D rs1 hs hl h1)
  | false=>exact WR (hb M0 F1 Γ1 ν σ H1 D rs1 hs hl h1)))
noncomputable def qO (t:IT) (body:SM):List PyData->Gv->R (FL×Gv)
 | [],Γ=>.ok (.next,Γ)
 | d::ds,Γ=>match tgF t d Γ with
  | none=>.bad
  | some Γ1=>match body Γ1 with
   | .ok (.next,Γ2)=>qO t body ds Γ2
   | .ok (.cnt,Γ2)=>qO t body ds Γ2
   | .ok (.brk,Γ2)=>.ok (.next,Γ2)
   | r=>r
noncomputable def sFor (t:IT) (src:EM (List PyData)) (body:SM):SM:=fun Γ=>(src Γ).bind fun (ds,Γ1)=>qO t body ds Γ1
theorem zdw {t:IT}{src:EM (List PyData)}(hpo:PassesOwn (model X.prog X.w) X.A X.env X.xe) (hc:X.calm=true) (hi:SI X XP mp tg iter src) (hg:SG X mp (·∈io) tg t) (hb:SB X XP mp io body f)
  (hf:∀ x,foldedSetIterable iter X.env x=pure x):SS X XP mp io (.For tg iter body [] pos) (sFor t src f):=fun M0 F Γ ν σ H D rs hs hl hp=>by
 refine (kP hpo hc Zt wX qm hf).wp (hi M0 F Γ ν σ H _ rs hs ((SPost.seq hs hl hp).mono fun F1 Γ1 H1 ds rs1 s1 h1 J hJ=>?_))
 dsimp only at h1
 refine⟨fun i m σ' H'=>m=ds.length-i/\i<=ds.length/\∃ F' Γ' ν',RS M0 F' Γ' ν' H'/\Stp F1 H1 F' H'/\Sees mp ν' σ'/\σ'.length=X.N.length/\SPost M0 F' ν' H' XP mp X.N.length io D (qO t f (ds.drop i) Γ'),⟨ds.length,by simp,Nat.zero_le _,F1,Γ1,ν,rs1,.refl _ _,hs,hl,h1⟩,?_⟩
 rintro i m σ' H' ⟨rfl,hil,F',Γ',ν',rs',st',hs',hl',hp'⟩
 obtain⟨jgo,jst⟩:=hJ i F' H' st' rs1.al0
 by_cases hlt:i<ds.length
 ·obtain⟨go,yl⟩:=jgo ds[i] (by simp[hlt])
  rw[List.drop_eq_getElem_cons hlt,qO] at hp'
  refine .inr ⟨go,fun σ2 H2=>∃ F2 Γ2 ν2,RS M0 F2 Γ2 ν2 H2/\Stp F1 H1 F2 H2/\Sees mp ν2 σ2/\σ2.length=X.N.length/\SPost M0 F2 ν2 H2 XP mp X.N.length io D (qO t f (ds.drop (i+1)) Γ2),fun σ2 H2 h=>⟨ds.length-(i+1),by omega,rfl,hlt,h⟩,fun x H2 hy=>?_⟩
  obtain⟨s2,rx⟩:=yl x H2 hy
  cases et:tgF t ds[i] Γ' with
  | none=>rw[et] at hp'; exact hp'.elim
  | some Γ2=>
   rw[et] at hp'
   dsimp only at hp'
   refine hg M0 F' Γ' Γ2 ν' σ' H2 x ds[i] _ (rs'.same s2) hs' hl' rx et fun F3 ν3 σ3 rs3 s3 hs3 hl3 n3 m3=>?_
   have sA:Stp F' H' F3 H2:=(Stp.same s2).trans s3
   refine hb M0 F3 Γ2 ν3 σ3 H2 _ rs3 hs3 hl3 ?_
   cases ef:f Γ2 with
   | bad=>rw[ef] at hp'; exact hp'.elim
   | exc xx yy=>
    rw[ef] at hp'
    exact hp'.step sA n3
   | ok z=>
    obtain⟨fl,Γ4⟩:=z
    rw[ef] at hp'
    cases fl with
    | next=>exact fun F4 ν4 σ4 H4 a b c d e=>⟨F4,Γ4,ν4,a,(st'.trans sA).trans b,c,d,hp'.step (sA.trans b) fun i hi=>(e i hi).trans (n3 i hi)⟩
    | cnt=>exact fun F4 ν4 σ4 H4 a b c d e=>⟨F4,Γ4,ν4,a,(st'.trans sA).trans b,c,d,hp'.step (sA.trans b) fun i hi=>(e i hi).trans (n3 i hi)⟩
    | brk=>exact fun F4 ν4 σ4 H4 a b c d e=>hp' F4 ν4 σ4 H4 a (sA.trans b) c d fun i hi=>(e i hi).trans (n3 i hi)
    | ret o=>exact fun F4 ν4 v4 H4 a b e=>hp' F4 ν4 v4 H4 a (sA.trans b) fun i hi=>(e i hi).trans (n3 i hi)
 ·have e:i=ds.length:=by omega
  subst e
  rw[List.drop_length,qO] at hp'
  exact .inl ⟨jst (Nat.le_refl _),hp' F' ν' σ' H' rs' (.refl _ _) hs' hl' fun _ _=>rfl⟩
theorem Jf {M0:Addr->Prop}{F:Fp}{Γ:Gv}{ν:Nu}{H:Hp}{i:Nat}{xs:List OV}(rs:RS M0 F Γ ν H) (e:Γ[i]?=some (some (.l xs))):∃ a vs A,ν[i]?=some (some (.ref a))/\H a=some (.lst vs)/\ORL (MM M0 F) H vs xs A/\F i=a::A/\A.Nodup:=by
 obtain⟨v,ev,q⟩:=rs.at' i _ e
 have nd:=rs.nd i
 generalize hA:F i=A at q
 rw[hA] at nd
 cases q with
 | l ea qa=>exact⟨_,_,_,ev,ea,qa,rfl,(List.nodup_cons.mp nd).2⟩
theorem kr {M0:Addr->Prop}{F:Fp}{Γ:Gv}{ν:Nu}{H:Hp}{i:Nat}{xs xs':List OV}{a:Addr}{vs vs':List V}(rs:RS M0 F Γ ν H) (e:Γ[i]?=some (some (.l xs))) (en:ν[i]?=some (some (.ref a))) (eh:H a=some (.lst vs))
  (h:∀ A,ORL (MM M0 F) H vs xs A->ORL (MM M0 F) H vs' xs' A):∃ F',RS M0 F' (Γ.set i (some (.l xs'))) ν (upd H a (.lst vs'))/\Stp F H F' (upd H a (.lst vs')) :=
 rs.mut (xs':=xs') (vs:=vs') e en fun us A eu qa eF=>by
  rw[eh] at eu; cases eu
  have nd:=rs.nd i
  rw[eF] at nd
  exact⟨A,fun _ h=>h,(List.nodup_cons.mp nd).2,h A qa⟩
noncomputable def isOwn (Γ:Gv) (i:Nat):Bool:=match Γ[i]? with
 | some (some (.l _))=>true
 | _=>false
theorem WQ {Γ:Gv}{i:Nat}(h:isOwn Γ i=true):∃ xs,Γ[i]?=some (some (.l xs)):=by
 unfold isOwn at h
 split at h
 ·rename_i xs e; exact⟨xs,e⟩
 ·cases h
structure NmK (X:Cx) (mp:List Nat) (s i:Nat) (x:Str):Prop where
 hN:X.N[s]?=some x
 hv:Vis X.env.scope x
 hm:mp[s]?=some i
 hd:(x==("__debug__" :Str))=false
 hcd:(x==("__classdict__" :Str))=false
noncomputable def sApp (i:Nat) (fa:EM FV):SM:=fun Γ=>if isOwn Γ i then (fa Γ).bind fun (u,Γ1)=>match derS Γ1 u,Γ1[i]? with
 | some x,some (some (.l xs))=>if xs.length<1000000 then .ok (.next,Γ1.set i (some (.l (xs++ [.d x])))) else .bad
 | _,_=>.bad
 else .bad
theorem zdt {s i:Nat}{x:Str}(n:NmK X mp s i x) (ha:SE X XP mp a fa) (hst:starEach [a] X.env= [(false,eval a X.env)]) (hline:(p2.endLine==pos.line)=true) :
  SS X XP mp io (.Expr (.Call (.Attribute (.Name x p) "append" p2) [a] [] pos) pos') (sApp i fa):=fun M0 F Γ ν σ H D rs hs hl hp=>by
 unfold sApp at hp
 split at hp
 ·rename_i hw
  obtain⟨xs0,e0⟩:=WQ hw
  obtain⟨a0,vs0,A0,en0,eh0,q0,_,_⟩:=Jf rs e0
  refine (zaJ (zep PySem.F.plainAttrs_list PySem.F.slot_list_append PySem.F.type_list_append yR (qq n.hN n.hv n.hd n.hcd) (zp zf pa_nil hst) rfl (by rw[hst]; rfl) hline hst rfl) rfl).wp ⟨.ref a0,hs s i _ n.hm en0,.inl ⟨rfl,_,SqL.of eh0⟩,?_⟩
  refine ha M0 F Γ ν σ H _ rs hs ((SPost.seq hs hl hp).mono fun F1 Γ1 H1 u rs1 s1 h1 v hv=>?_)
  dsimp only at h1
  split at h1
  ·rename_i y xs ey ex
   split at h1
   ·rename_i hz
    obtain⟨a1,vs1,A1,en1,eh1,q1,_,_⟩:=Jf rs1 ex
    rw[en0] at en1
    cases en1
    refine⟨a0,vs1,v,rfl,rfl,eh1,by have:=sizeLine_eq; rw[q1.length]; omega,?_⟩
    obtain⟨F2,rs2,s2⟩:=kr rs1 ex en0 eh1 fun A qa=>qa.snoc (hv.strong rs1 ey)
    exact h1 F2 ν σ _ rs2 s2 hs hl fun _ _=>rfl
   ·exact h1.elim
  ·exact h1.elim
 ·exact hp.elim
noncomputable def sSet (i:Nat) (fi fv:EM FV):SM:=fun Γ=>(fv Γ).bind fun (u,Γ1)=>if isOwn Γ1 i then (fi Γ1).bind fun (w,Γ2)=>match derS Γ2 u,derf Γ2 w,Γ2[i]? with
 | some x,some (.int k),some (some (.l xs))=>match ixN xs.length k with
  | some j=>match xs[j]? with
   | some (.d _)=>.ok (.next,Γ2.set i (some (.l (xs.set j (.d x)))))
   | _=>.bad
  | none=>.bad
 | _,_,_=>.bad
 else .bad
theorem zdy {s i:Nat}{x:Str}(n:NmK X mp s i x) (hi:SE X XP mp b fb) (hv:SE X XP mp a fa) (hsw:swapsWithSole [.Subscript (.Name x p) b p2] a pos.line X.env=pure false) (hw:swappedStores [.Subscript (.Name x p) b p2] a X.env=pure none)
  (hps:∀ {te:TE} {g:TG},PE X a te->PG X (.Subscript (.Name x p) b p2) g->PS X (.Assign [.Subscript (.Name x p) b p2] a pos) (Wc te g)) (hpg:∀ {to ti:TE} {t:K2},PE X (.Name x p) to->PE X b ti->zb2 X t->PG X (.Subscript (.Name x p) b p2) (zd8 to ti t)) :
  SS X XP mp io (.Assign [.Subscript (.Name x p) b p2] a pos) (sSet i fb fa):=fun M0 F Γ ν σ H D rs hs hl hp=>by
 refine (hps zf (hpg (qq n.hN n.hv n.hd n.hcd) zf Kf)).wp (hv M0 F Γ ν σ H _ rs hs ((SPost.seq hs hl hp).mono fun F1 Γ1 H1 u rs1 s1 h1 v ov=>?_))
 dsimp only at h1
 split at h1
 ·rename_i hw
  obtain⟨xs0,e0⟩:=WQ hw
  obtain⟨a0,vs0,A0,en0,eh0,q0,_,_⟩:=Jf rs1 e0
  refine⟨.ref a0,hs s i _ n.hm en0,?_⟩
  refine hi M0 F1 Γ1 ν σ H1 _ rs1 hs ((SPost.seq hs hl h1).mono fun F2 Γ2 H2 w rs2 s2 h2 vi oi=>?_)
  dsimp only at h2
  split at h2
  ·rename_i y k xs ey ek ex
   split at h2
   ·rename_i j ej
    split at h2
    ·rename_i z ez
     obtain⟨a1,vs1,A1,en1,eh1,q1,_,_⟩:=Jf rs2 ex
     rw[en0] at en1
     cases en1
     cases oi.weak rs2 ek
     refine⟨a0,vs1,k,j,rfl,rfl,eh1,by rw[q1.length]; exact ej,?_⟩
     obtain⟨F3,rs3,s3⟩:=kr rs2 ex en0 eh1 fun A qa=>qa.setD ((ov.stp s2 rs1.al0).strong rs2 ey) ez
     exact h2 F3 ν σ _ rs3 s3 hs hl fun _ _=>rfl
    ·exact h2.elim
   ·exact h2.elim
  ·exact h2.elim
 ·exact h1.elim
noncomputable def derfs (Γ:Gv):List FV->Option (List PyData)
 | []=>some []
 | u::us=>match derf Γ u,derfs Γ us with
  | some x,some xs=>some (x::xs)
  | _,_=>none
theorem FOks.weak {M0:Addr->Prop}{F:Fp}{Γ:Gv}{ν:Nu}{H:Hp}(rs:RS M0 F Γ ν H):∀ {vs:List V}{us:List FV}{ds:List PyData},FOks M0 F ν H vs us->derfs Γ us=some ds->RepL zu H vs ds
 | _,_,_,.nil,e=>by cases e; exact .nil
 | _,_,_,.cons h t,e=>by
  unfold derfs at e
  split at e
  ·rename_i e1 e2
   cases e
   exact .cons (h.weak rs e1) (FOks.weak rs t e2)
  ·cases e
noncomputable def fCallW (run:List OV->RF) (fl:EM (List FV)):EM FV:=fun Γ=>(fl Γ).bind fun (us,Γ1)=>match derfs Γ1 us with
 | none=>.bad
 | some ds=>match run (ds.map .d) with
  | .ok (.d x) _=>if noL x then .ok (.dat x,Γ1) else .bad
  | _=>.bad
end
end L3
namespace L2
open PySem PySem.Spec PyProof.Rows
variable [Cs]
section
variable {X:Cx} {pins:List (Addr×Obj)} {σ:List (Option V)} {H:Hp} {s:Shared} {h':Heap}
theorem Inv.turnedL {t':Nat}{ch:List Addr}(I:Inv X pins σ H s) (k:∀ b o,b∉ch->s.heap.get? b=some o->h'.get? b=some o) (there:∀ b o,b∈ch->s.heap.get? b=some o->∃ o',h'.get? b=some o') (hf:∀ b∈ch,jA X pins H b):Inv X pins σ H { s with heap:=h',toks:=t' }:=by
 have nit:∀ b u,H b=some u->b∉ch:=fun b u e z=>by rw[(hf b z).1] at e; cases e
 refine I.step (g':=s.gens) (d':=s.drawn) (ch:=ch) (fun b hb=>?_) (fun b o _ _ hc e _=>k b o hc e) (fun b o _ _ hc e _=>⟨o.slots,k b o hc e⟩) (fun _ _ _ _ n=>n)
  (fun b o hc e=>⟨o,k b o hc e⟩) (fun _ _ e=>e) (fun _ _ _ e=>e) (fun b ps e=>⟨#[],by rw[e]; simp⟩) (fun m hm=>?_) (fun b u e=>?_) I.bare
 ·obtain⟨f0,f1,f2,f3,f4,f5⟩:=hf b hb
  exact⟨f3,f1,f4,f5⟩
 ·obtain⟨o,es,ep,ho,r⟩:=hm
  exact⟨o,es,ep,k _ o (fun z=>(hf _ z).2.1 rfl) ho,r⟩
 ·refine (I.hok b u e).stay (fun c v hc q=>k c v ?_ q) (fun _ q=>q) fun _ _ q=>q
  rcases hc with z | z
  ·rw[z]; exact nit b u e
  ·exact nit c _ z
end
noncomputable def Ite (K:PySem.W.Frag) (a:Addr):It :=
 ⟨fun i H=>∃ xs x,SqL K H a xs/\xs[i]?=some x,fun i H x H'=>∃ p y,H p=none/\H'=upd H p (.tup [.int i,y])/\x=.ref p/\∀ xs,SqL K H a xs->xs[i]?=some y,fun i H=>∃ xs,SqL K H a xs/\xs.length<=i⟩
theorem Yc {P:Program}{w:World}{K:PySem.W.Frag}{elts:List Expr}{x1:Nat}{pos:Pos}(a e it:Addr) (hei:e≠it):Wj P w K (.Tuple elts x1 pos) (Ite K a) [e,it] e (fun i h=>(∃ old,IsEnum h e it i old)/\h.IsListIter it a i) where
 mem:=by simp
 obj:=fun i h st b hb=>by
  obtain⟨⟨old,he⟩,hit⟩:=st
  rcases List.mem_cons.mp hb with rfl | hb
  ·exact⟨_,he,fun v z=>by cases z⟩
  ·have eb:b=it:=by simpa using hb
   subst eb
   obtain⟨o,e,c,d⟩:=hit
   exact⟨o,e,fun v z=>by rw[d] at z; cases z⟩
 keep:=fun i h h' st k=>by
  obtain⟨⟨old,he⟩,hit⟩:=st
  exact⟨⟨old,k e (by simp) _ he⟩,hit.at fun o q=>k it (by simp) o q⟩
 item:=by
  intro X hP hw hK hc i pins s σ H E I hf st hg
  subst hP hw hK
  obtain⟨⟨old,he⟩,hit⟩:=st
  obtain⟨xs,x,hq,hx⟩:=hg
  obtain⟨its,rv,p,hz⟩:=I.list hq
  obtain⟨u,hu,ru⟩:=rv.get hx
  have helt:e<s.heap.objs.size:=Heap.lt_size he
  have hilt:it<s.heap.objs.size:=by obtain⟨_,q,_⟩:=hit; exact Heap.lt_size q
  refine wpAny_pyNext_enum_item he hit p.isList (x:=u) (by simpa using hu) hei fun h1 ho hit1 hT hsz hk=>⟨.ref s.heap.objs.size,rfl,wpAny_letOwnedTupleGo_enum ho fun h2 he2 hs2=>?_⟩
  have keep2:∀ b o,b≠e->b≠it->s.heap.get? b=some o->h2.get? b=some o:=fun b o h1' h2' q=>(hs2.2 b h1').trans (hk b o h1' h2' q)
  have hit2:h2.IsListIter it a (i+1):=hit1.at fun o q=>(hs2.2 it (Ne.symm hei)).trans q
  have I1:Inv X pins σ H { s with heap:=h2,toks:=s.toks+1 }:=I.turnedL (ch:= [e,it]) (fun b o hb q=>keep2 b o (fun z=>hb (by simp[z])) (fun z=>hb (by simp[z])) q) (fun b o hb q=>by
   rcases List.mem_cons.mp hb with rfl | hb
   ·exact⟨_,he2⟩
   ·have eb:b=it:=by simpa using hb
    subst eb
    obtain⟨o',q',_⟩:=hit2
    exact⟨o',q'⟩) hf
  have hTn:H s.heap.objs.size=none:=I.hok.fresh (Nat.le_refl _)
  have hT2:h2.get? s.heap.objs.size=some { cls:=.type "tuple",data:=.seq #[.int i s.toks,u] }:=(hs2.2 _ (Nat.ne_of_gt helt)).trans hT
  have I2:Inv X pins σ (upd H s.heap.objs.size (.tup [.int i,x])) { s with heap:=h2,toks:=s.toks+1 }:=I1.track I.sz hTn (Ne.symm (Nat.ne_of_lt I.lt)) (fun y c q=>by
    obtain⟨v,ob,hob,_⟩:=I.cell y c q
    exact Nat.ne_of_lt (Heap.lt_size hob)) (fun q hq'=>Nat.ne_of_lt (Heap.lt_size (I.pin q hq').1))
   ⟨by show 2<=sizeLine; decide,[.int i s.toks,u],.cons ⟨_,rfl⟩ (.cons ru .nil),⟨_,hT2,rfl,_,rfl⟩⟩
  refine⟨.ref s.heap.objs.size,_,I2,rfl,⟨_,x,hTn,rfl,rfl,fun ys hy=>by rw[I.list_inj hy hq]; exact hx⟩,⟨⟨u,by simpa using he2⟩,hit2⟩,fun b hb=>?_⟩
  rw[ze]
  ·exact (hf b hb).1
  ·rcases List.mem_cons.mp hb with rfl | hb
   ·exact Nat.ne_of_lt helt
   ·have eb:b=it:=by simpa using hb
    subst eb; exact Nat.ne_of_lt hilt
 done:=by
  intro X hP hw hK hc i pins s σ H E I hf st hg
  subst hP hw hK
  obtain⟨⟨old,he⟩,hit⟩:=st
  obtain⟨xs,hq,hx⟩:=hg
  obtain⟨its,rv,p,hz⟩:=I.list hq
  obtain⟨f0,f1,f2,f3,f4,f5⟩:=hf it (by simp)
  have hl:=rv.length
  exact wpAny_pyNext_enum_end (I.ok.hd hc) he hit p.isList (by simp; omega) fun h1 eb=>⟨rfl,I.turned (t':=s.toks) (fun b o hb q=>eb b o hb q) f0 f1 f3 f4 f5⟩
 self:=fun _ _ _ _ _ st h=>by
  obtain⟨⟨old,he⟩,_⟩:=st
  exact wpAny_pyIter_enum he h
theorem boot_enumW:bootBuiltins "enumerate" =some (.type "enumerate"):=by decide +kernel
section
variable {X:Cx}
noncomputable def zea (K:PySem.W.Frag) (tl:TE):TI:=fun σ H R=>tl σ H fun x H1=>∃ a,x=.ref a/\(∃ xs,SqL K H1 a xs)/\R (Ite K a) H1
theorem zaI {elts:List Expr}{x1:Nat}{pt:Pos}{l:Expr}{p pos:Pos}(hg:Gl X "enumerate") (hm:X.mg "enumerate" =none) (hst:starEach [l] X.env= [(false,eval l X.env)]) :
  PI X (.Tuple elts x1 pt) (.Call (.Name "enumerate" p) [l] [] pos) (zea X.K (wpE X l)):=by
 intro pins s σ H R I h
 have h':Kt (wpE X l) zdE σ H (fun vs H1=>∃ v,vs= [v]/\∃ a,v=.ref a/\(∃ xs,SqL X.K H1 a xs)/\R (Ite X.K a) H1):=wpE.mono h fun v H1 q=>⟨v,rfl,q⟩
 refine Call_ (jQ I hg hm boot_enumW (PyProof.Rows.callWith_type1 (thn ((zp zf pa_nil hst) pos pins s σ H _ I h') fun us s1 ⟨vs,H1,I1,r1,q1⟩=>?_) hst rfl))
 obtain⟨v,rfl,a,rfl,⟨xs,hq⟩,q⟩:=q1
 obtain⟨u,rfl,ru⟩:=jE r1
 cases ru
 obtain⟨its,rv,pl,hz⟩:=I1.list hq
 refine call_enumerate_list pl.isList fun h1 he hit hsz hk=>?_
 refine wpAny_pyIter_enum he ?_
 have I2:Inv X pins σ H1 { s1 with heap:=h1 }:=I1.kept (t':=s1.toks) hk
 refine⟨s1.heap.objs.size+1,[s1.heap.objs.size+1,s1.heap.objs.size],_,_,H1,rfl,I2,Yc a _ _ (Nat.succ_ne_self _),⟨⟨_,he⟩,hit⟩,fun b hb=>?_,q⟩
 rcases List.mem_cons.mp hb with rfl | hb
 ·exact I1.fpOk (Nat.le_succ _) (I1.hok.fresh (Nat.le_succ _))
 ·have eb:b=s1.heap.objs.size:=by simpa using hb
  subst eb
  exact I1.fpOk (Nat.le_refl _) (I1.hok.fresh (Nat.le_refl _))
end
end L2
namespace L3
open PySem PySem.Spec PyProof.Rows L2
variable [Cs]
noncomputable def ZT (ds:List PyData):List PyData:=ds.zipIdx.map fun p=>PyData.tuple [.int p.2,p.1]
theorem J1 {ds:List PyData}{i:Nat}{d:PyData}(h:(ZT ds)[i]?=some d):∃ x,ds[i]?=some x/\d=.tuple [.int i,x]:=by
 unfold ZT at h
 rw[List.getElem?_map,List.getElem?_zipIdx] at h
 cases e:ds[i]? with
 | none=>rw[e] at h; cases h
 | some x=>rw[e] at h; simp at h; exact⟨x,rfl,h.symm⟩
theorem ZD (ds:List PyData):(ZT ds).length=ds.length:=by simp[ZT]
noncomputable def fEnum (fa:EM FV):EM (List PyData):=fun Γ=>(fa Γ).bind fun (u,Γ1)=>match derS Γ1 u with
 | some (.list ds)=>.ok (ZT ds,Γ1)
 | _=>.bad
theorem zaq {M0:Addr->Prop}{F:Fp}{K:PySem.W.Frag}{H1:Hp}{l:Addr}{ds:List PyData}{vs:List V}(e:H1 l=some (.lst vs)) (n:¬ MM M0 F l) (r:RepL (MM M0 F) H1 vs ds):JI M0 F (Ite K l) (ZT ds) H1:=fun i F' H' s h0=>by
 have e':H' l=some (.lst vs):=(s.keep l _ e fun j hj=>n (.inr ⟨j,hj⟩)).1
 refine⟨fun d hd=>?_,fun hl=>⟨vs,SqL.of e',by rw[ZD] at hl; rw[r.length]; exact hl⟩⟩
 obtain⟨x,hx,rfl⟩:=J1 hd
 obtain⟨v,hv,rv⟩:=r.get' hx
 refine⟨⟨vs,v,SqL.of e',hv⟩,fun z H2 ⟨p,y,np,e2,ez,hy⟩=>?_⟩
 subst e2 ez
 have:=hy vs (SqL.of e')
 rw[hv] at this; cases this
 exact⟨zv np,.tuple zi (.cons (.int _) (.cons ((zq s h0 rv).grow (zv np).grow) .nil))⟩
section
variable {X:Cx} {XP:XPT} {mp:List Nat} {a:Expr} {p pos:Pos} {fa:EM FV}
theorem za7 {x:Str}{elts:List Expr}{x1:Nat}{pt:Pos}(B:BiK X x (.type "enumerate")) (ex:x= "enumerate") (ha:SE X XP mp a fa) (hst:starEach [a] X.env= [(false,eval a X.env)]):SI X XP mp (.Tuple elts x1 pt) (.Call (.Name x p) [a] [] pos) (fEnum fa):=fun M0 F Γ ν σ H R rs hs hp=>by
 subst ex
 exact (zaI B.gl B.mg hst).wp (ha.run rs hs hp fun F1 Γ1 H1 u v rs1 s1 o1 h1=>by
  dsimp only at h1
  split at h1
  ·rename_i ds eu
   obtain⟨l,vs,rfl,e,n,r⟩:=(o1.strong rs1 eu).lst_inv
   exact⟨l,rfl,⟨vs,SqL.of e⟩,h1 F1 H1 rs1 (.refl _ _) _ (zaq e n r)⟩
  ·exact h1.elim)
end
end L3
namespace L2
open PySem PySem.Spec PyProof.Rows
variable [Cs]
structure zdN (M:Addr->Prop) (H:Hp) (b c:Addr) (cells:List Int) (i l t s:Int):Prop where
 mb:M b
 hb:H b=some (.lst [.ref c,.int i,.int l,.int t,.int s])
 hc:Rep M H (.ref c) (.list (cells.map PyData.int))
 hi:0<=i
noncomputable def BoxAt (M:Addr->Prop) (H:Hp) (b:Addr):Prop:=∃ c cells i l t s,zdN M H b c cells i l t s
theorem BoxAt.mem {M:Addr->Prop}{H:Hp}{b:Addr}(B:BoxAt M H b):M b:=let ⟨_,_,_,_,_,_,B⟩:=B; B.mb
theorem BoxAt.lst {M:Addr->Prop}{H:Hp}{b:Addr}(B:BoxAt M H b):∃ xs,H b=some (.lst xs):=let ⟨_,_,_,_,_,_,B⟩:=B; ⟨_,B.hb⟩
noncomputable def Kl (K:PySem.W.Frag):Sp:=fun vs H Q _=>∃ (a:Addr) (ns:List Int),vs= [.ref a]/\SqL K H a (ns.map V.int)/\ns.length<=63/\∀ b H',Same H H'->H b=none->H' b≠none->BoxAt (fun a=>a=b) H' b->Q (.ref b) H'
theorem RepL.intsInv {M:Addr->Prop}{H:Hp}:∀ {vs:List V}{ns:List Int},RepL M H vs (ns.map PyData.int)->vs=ns.map V.int
 | _,[],.nil=>rfl
 | _,n::ns,.cons q t=>by cases q; rw[List.map_cons,<- RepL.intsInv t]
section
variable {X:Cx} {M:Addr->Prop} {Γ:Ge} {σ:St} {H:Hp} {D:qy} {sts:List Stmt} {e e1:Expr} {p pos pos':Pos} {x:Str} {k:Nat} {b:Addr} {n:Int} {Q:VK}
end
theorem JP {n i:Nat}{z:Ent}(e:(List.replicate n none:Ge)[i]?=some (some z)):False:=by
 rw[List.getElem?_replicate] at e
 split at e
 ·cases e
 ·cases e
theorem RS.blank {M:Addr->Prop}{σ:St}{H:Hp}(n:Nat) (al:Al M H):RS M (List.replicate n none) σ H:=⟨al,fun i d e=>(JP e).elim,fun i d e=>(JP e).elim⟩
section
variable {X:Cx} {H:Hp} {D:qy} {sts:List Stmt} {p pos pos' p2:Pos} {x:Str} {k:Nat} {Q:VK}
theorem zdK {a:Addr}{ns:List Int}{N:List Str}(hN:X.N.Nodup) (kb:Kn X.prog X.w X.K X.mg X.base CX0 "_law_box" k (Kl X.K)) (hr:Room k X.A) (hS:SqL X.K H a (ns.map V.int)) (hlen:ns.length<=63)
  (kk:∀ b σ' H',Same H H'->H b=none->BoxAt (fun a=>a=b) H' b->RS (fun a=>a=b) ((List.replicate X.N.length none).set 1 (some (.v (.ref b)))) σ' H'->σ'.length=X.N.length->wpB X sts D σ' H')
  (hNe:X.N=N) (h0:N[0]?=some ("_law_script" :Str)) (hi:X.N[1]?=some x:=by rfl) (hv0:Vis X.env.scope "_law_script" :=by first | exact Or.inl rfl | exact Or.inr (Or.inl rfl) | exact Or.inr (Or.inr rfl)) (hx:Loc X.env.scope x:=by first | exact Or.inl rfl | exact Or.inr rfl)
  (hf:X.fn x=true∨X.env.scope.names.lookup x=some .local:=by first | exact .inl rfl | exact .inr rfl | assumption) (hg:Gl X "_law_box" :=by rfl)
  (hs:starEach [.Name "_law_script" p2] X.env= [(false,eval (.Name "_law_script" p2) X.env)]:=by rfl) (hpl:(backTo p (starEach [] X.env)).any (·.1)=false:=by rfl) {p3:Pos} :
  wpB X (.Assign [.Name x pos'] (.Call (.Name "_law_box" p3) [.Name "_law_script" p2] [] p) pos::sts) D (start N [.ref a]) H:=by
 have hl:1<N.length:=by rw[<- hNe]; exact (List.getElem?_eq_some_iff.mp hi).1
 have hst:(start N [V.ref a]).length=N.length:=Wb (by simp; omega)
 refine zeR 1 (Q:=fun v H'=>∃ b,v=.ref b/\Same H H'/\H b=none/\BoxAt (fun a=>a=b) H' b) hN (zby kb hr hg zeo ((zp (qq (by rw[hNe]; exact h0) hv0) pa_nil hs).wp ⟨.ref a,by simp[start],a,ns,rfl,hS,hlen,fun b H' s' nb _ hB=>⟨b,rfl,s',nb,hB⟩⟩) (by decide) hs hpl) (fun v H1 ⟨b,ev,s1,nb,hB⟩=>?_) hi hx rfl hf
 subst ev
 refine kk b _ H1 s1 nb hB ((RS.blank X.N.length (fun c hc=>?_)).setV (by rw[hst]; exact hl)) (by rw[List.length_set,hst,hNe])
 subst hc
 obtain⟨xs,hx⟩:=hB.lst
 rw[hx]
 exact fun z=>nomatch z
end
end L2
set_option maxHeartbeats 4000000
namespace L2
open PySem PySem.Spec PyProof.Rows
variable [Cs]
noncomputable def Jn (ns:List Int):List Int:=ns.mergeSort fun a b=>decide (a<=b)
theorem Jo (ns:List Int):(Jn ns).Perm ns:=List.mergeSort_perm _ _
theorem vf (ns:List Int):(Jn ns).Pairwise (·<=·):=by
 have h:=List.pairwise_mergeSort (le:=fun a b:Int=>decide (a<=b)) (by intro a b c h1 h2; simp at *; omega) (by intro a b; simp; omega) ns
 exact h.imp fun {a b} h=>by simpa using h
theorem vd {ns ms:List Int}(hp:ms.Perm ns) (hs:ms.Pairwise (·<=·)):ms=Jn ns :=
 List.Perm.eq_of_pairwise (le:=fun a b:Int=>a<=b) (fun a b _ _ h1 h2=>Int.le_antisymm h1 h2) hs (vf ns) (hp.trans (Jo ns).symm)
theorem IntsAre.of:∀ {ns:List Int}{us:List Value},Vals (ns.map V.int) us->IntsAre us ns
 | [],_,.nil=>.nil
 | n::ns,_,.cons ⟨t,e⟩ r=>by subst e; exact .cons n t (IntsAre.of r)
theorem Vals.ofInts:∀ {us:List Value}{ns:List Int},IntsAre us ns->Vals (ns.map V.int) us
 | _,_,.nil=>.nil
 | _,_,.cons n t r=>.cons ⟨t,rfl⟩ (Vals.ofInts r)
section
variable {X:Cx}
end
end L2
namespace L3
open PySem PySem.Spec PyProof.Rows L2
variable [Cs]
noncomputable def zO:List PyData->Option (List Int)
 | []=>some []
 | .int b::r=>(zO r).map (b::·)
 | _=>none
theorem vX (ns:List Int):zO (ns.map .int)=some ns:=by
 induction ns with
 | nil=>rfl
 | cons b r ih=>simp[zO,ih]
theorem J6:∀ {ds:List PyData}{ns:List Int},zO ds=some ns->ds=ns.map .int
 | [],bs,e=>by cases e; rfl
 | .int b::r,bs,e=>by
  unfold zO at e
  cases q:zO r with
  | none=>rw[q] at e; cases e
  | some l=>rw[q] at e; cases e; rw[J6 q]; rfl
 | .none::r,bs,e=>by cases e
 | .bool _::r,bs,e=>by cases e
 | .str _::r,bs,e=>by cases e
 | .list _::r,bs,e=>by cases e
 | .tuple _::r,bs,e=>by cases e
 | .dict _::r,bs,e=>by cases e
section
variable {X:Cx} {XP:XPT} {mp:List Nat} {a:Expr} {p pos:Pos} {fa:EM FV}
end
end L3
set_option maxHeartbeats 4000000
namespace L3
open PySem PySem.Spec PyProof.Rows L2
variable [Cs]
section
variable {X:Cx} {XP:XPT} {mp:List Nat} {a b:Expr} {p p2 pos:Pos} {fa fb:EM FV}
end
end L3
set_option maxHeartbeats 4000000
namespace Tab
open PySem PySem.SetTable
noncomputable def stp (m i:Nat):Nat:=(i*5+1) % (m+1)
noncomputable def orb (m:Nat):Nat->Nat->List Nat
 | 0,_=> []
 | n+1,i=>i::orb m n (stp m i)
noncomputable def jU (m:Nat):Prop:=∀ i,i<=m->∀ j,j<=m->j∈orb m (m+1) i
noncomputable def it (m:Nat):Nat->Nat->Nat
 | 0,i=>i
 | n+1,i=>it m n (stp m i)
theorem wQ (m:Nat):∀ a b i,it m (a+b) i=it m b (it m a i)
 | 0,b,i=>by rw[Nat.zero_add]; rfl
 | a+1,b,i=>by rw[show a+1+b=(a+b)+1 by omega,it,wQ m a b,it]
theorem wT (m:Nat):∀ n i t,t<n->it m t i∈orb m n i
 | 0,_,_,h=>by omega
 | n+1,i,0,_=>by simp[orb,it]
 | n+1,i,t+1,h=>by rw[orb,it]; exact List.mem_cons_of_mem _ (wT m n (stp m i) t (by omega))
theorem VY (m:Nat):∀ n i j,j∈orb m n i->∃ t,t<n/\it m t i=j
 | 0,_,_,h=>by cases h
 | n+1,i,j,h=>by
  rcases List.mem_cons.mp h with rfl | h
  ·exact⟨0,by omega,rfl⟩
  ·obtain⟨t,h1,h2⟩:=VY m n _ j h
   exact⟨t+1,by omega,h2⟩
noncomputable def zbN (m:Nat):Bool:=decide (it m (m+1) 0=0)&&(List.range (m+1)).all fun j=>(orb m (m+1) 0).contains j
theorem Zm {m:Nat}(h:zbN m=true):jU m:=fun i hi j hj=>by
 unfold zbN at h
 rw[Bool.and_eq_true,decide_eq_true_eq,List.all_eq_true] at h
 obtain⟨hper,hall⟩:=h
 have hc:∀ x,x<=m->∃ t,t<m+1/\it m t 0=x:=fun x hx=>VY m _ _ _ (by simpa using hall x (List.mem_range.mpr (by omega)))
 obtain⟨p,hp,ep⟩:=hc i hi
 obtain⟨q,hq,eq⟩:=hc j hj
 by_cases hpq:p<=q
 ·have:it m (q-p) i=j:=by rw[<- ep,<- wQ,show p+(q-p)=q by omega,eq]
  rw[<- this]; exact wT m _ _ _ (by omega)
 ·have:it m (q+(m+1)-p) i=j:=by rw[<- ep,<- wQ,show p+(q+(m+1)-p)=(m+1)+q by omega,wQ,hper,eq]
  rw[<- this]; exact wT m _ _ _ (by omega)
theorem zbM:jU 7:=Zm (by decide +kernel)
theorem zct:jU 15:=Zm (by decide +kernel)
theorem YU:jU 31:=Zm (by decide +kernel)
theorem zcu:jU 63:=Zm (by decide +kernel)
theorem VP:jU 127:=Zm (by decide +kernel)
theorem y7 (m i:Nat):i<=runEnd m i:=by unfold runEnd; split <;> omega
theorem WM {m:Nat}{owner:Array (Option Nat)}(hs:owner.size=m+1){i k:Nat}(h:(List.range (runEnd m i+1-i)).find? (fun k=>(owner.getD (i+k) (some 0)).isNone)=some k):i+k<=m/\owner.getD (i+k) (some 0)=none:=by
 have h1:=List.find?_some h
 have h2:owner.getD (i+k) (some 0)=none:=by simpa using h1
 refine⟨?_,h2⟩
 by_cases hb:i+k<owner.size
 ·omega
 ·rw[Array.getD_eq_getD_getElem?,Array.getElem?_eq_none (by omega)] at h2
  cases h2
theorem yH {m:Nat}{owner:Array (Option Nat)}{i:Nat}(h:(List.range (runEnd m i+1-i)).find? (fun k=>(owner.getD (i+k) (some 0)).isNone)=none):owner.getD i (some 0)≠none:=by
 have:=List.find?_eq_none.mp h 0 (List.mem_range.mpr (by have:=y7 m i; omega))
 intro e
 rw[Nat.add_zero,e] at this
 exact this rfl
theorem J4 {m:Nat}{owner:Array (Option Nat)}(hs:owner.size=m+1):∀ (n fuel i j:Nat),j∈orb m n i->owner.getD j (some 0)=none->n<=fuel->∃ r,layClean.free m owner fuel i 0=some r/\r<=m/\owner.getD r (some 0)=none
 | 0,_,_,_,h,_,_=>by cases h
 | n+1,0,_,_,_,_,h=>by omega
 | n+1,fuel+1,i,j,h,hj,hf=>by
  rw[layClean.free]
  split
  ·rename_i k hk
   obtain⟨h1,h2⟩:=WM hs hk
   exact⟨_,rfl,h1,h2⟩
  ·rename_i hk
   have hne:=yH hk
   rcases List.mem_cons.mp h with rfl | h
   ·exact absurd hj hne
   ·have e:leap m i 0=(stp m i,0):=by unfold leap stp; simp
    rw[e]
    exact J4 hs n fuel (stp m i) j h hj (by omega)
theorem ZG {m:Nat}(hfull:jU m){owner:Array (Option Nat)}(hs:owner.size=m+1){j:Nat}(hj:j<=m) (ho:owner.getD j (some 0)=none):∀ (k fuel i p:Nat),p<32 ^ k->i<=m->k+(m+1)<=fuel->∃ r,layClean.free m owner fuel i p=some r/\r<=m/\owner.getD r (some 0)=none
 | 0,fuel,i,p,hp,hi,hf=>by
  have:p=0:=by simpa using hp
  subst this
  exact J4 hs (m+1) fuel i j (hfull i hi j hj) ho (by omega)
 | k+1,0,i,p,hp,hi,hf=>by omega
 | k+1,fuel+1,i,p,hp,hi,hf=>by
  rw[layClean.free]
  split
  ·rename_i q hk
   obtain⟨h1,h2⟩:=WM hs hk
   exact⟨_,rfl,h1,h2⟩
  ·have e:leap m i p=((i*5+1+p / 32) % (m+1),p / 32):=rfl
   rw[e]
   refine ZG hfull hs hj ho k fuel _ _ ?_ ?_ (by omega)
   ·rw[Nat.pow_succ] at hp
    exact Nat.div_lt_of_lt_mul (by rw[Nat.mul_comm]; exact hp)
   ·have:=Nat.mod_lt (i*5+1+p / 32) (Nat.succ_pos m)
    exact Nat.le_of_lt_succ this
theorem VI (h:Int):bits h<32 ^ 13:=by
 unfold bits
 have h1:=Int.emod_lt_of_pos h (by decide:(0:Int)<2 ^ 64)
 have h2:=Int.emod_nonneg h (by decide:(2 ^ 64:Int)≠0)
 have:((h % 2 ^ 64).toNat:Int)<2 ^ 64:=by omega
 have h3:(h % 2 ^ 64).toNat<2 ^ 64:=by exact_mod_cast this
 exact Nat.lt_of_lt_of_le h3 (by decide)
noncomputable def live (m:Nat) (owner:Array (Option Nat)):List Nat:=(List.range (m+1)).filterMap fun j=>owner.getD j none
theorem qL {f g:Nat->Option Nat}:∀ {l:List Nat},(∀ x∈l,f x=g x)->l.filterMap f=l.filterMap g
 | [],_=>rfl
 | x::l,h=>by
  rw[List.filterMap_cons,List.filterMap_cons,h x (by simp),qL fun y hy=>h y (by simp[hy])]
theorem W9 {f g:Nat->Option Nat}{j k:Nat}(hj:f j=none) (hg:g j=some k) (he:∀ x,x≠j->g x=f x):∀ {l:List Nat},l.Nodup->j∈l->(l.filterMap g).Perm (k::l.filterMap f)
 | [],_,h=>by cases h
 | x::l,nd,h=>by
  obtain⟨hx,nd⟩:=List.nodup_cons.mp nd
  rcases List.mem_cons.mp h with rfl | h
  ·rw[List.filterMap_cons,List.filterMap_cons,hg,hj]
   dsimp only
   rw[qL fun y hy=>he y fun e=>hx (e ▸ hy)]
  ·have hne:x≠j:=fun e=>hx (e ▸ h)
   have ih:=W9 hj hg he nd h
   rw[List.filterMap_cons,List.filterMap_cons,he x hne]
   cases f x with
   | none=>exact ih
   | some y=>exact (ih.cons y).trans (.swap k y _)
theorem yP {m n:Nat}{owner:Array (Option Nat)}(hl:(live m owner).length=n) (hn:n<=m):∃ j,j<=m/\owner.getD j none=none:=by
 refine Classical.byContradiction fun hno=>?_
 have hall:∀ j∈List.range (m+1),(owner.getD j none).isSome=true:=fun j hj=>by
  have hj':j<=m:=by have:=List.mem_range.mp hj; omega
  cases e:owner.getD j none with
  | none=>exact absurd ⟨j,hj',e⟩ hno
  | some _=>rfl
 have:(live m owner).length=m+1:=by
  have h1:∀ {l:List Nat},(∀ j∈l,(owner.getD j none).isSome=true)->(l.filterMap fun j=>owner.getD j none).length=l.length:=by
   intro l
   induction l with
   | nil=>intro _; rfl
   | cons x l ih=>
    intro h
    obtain⟨y,ey⟩:=Option.isSome_iff_exists.mp (h x (by simp))
    rw[List.filterMap_cons,ey]
    dsimp only
    rw[List.length_cons,List.length_cons,ih fun j hj=>h j (List.mem_cons_of_mem _ hj)]
  unfold live
  rw[h1 hall,List.length_range]
 omega
theorem VR {m j:Nat}{owner:Array (Option Nat)}(hs:owner.size=m+1) (hj:j<=m) (d:Option Nat):owner.getD j d=owner.getD j none:=by
 rw[Array.getD_eq_getD_getElem?,Array.getD_eq_getD_getElem?,Array.getElem?_eq_getElem (by omega)]; rfl
theorem kg {m:Nat}(hfull:jU m):∀ (hs:List Int) (owner:Array (Option Nat)) (k:Nat),owner.size=m+1->(live m owner).Perm (List.range k)->k+hs.length<=m+1 ->
  ∃ owner',(hs.foldl (init:=some (owner,k)) fun acc h=>do
   let (owner,k)<-acc
   let j<-layClean.free m owner (turns m) (bits h % (m+1)) (bits h)
   pure (owner.setIfInBounds j (some k),k+1))=some (owner',k+hs.length)/\owner'.size=m+1/\(live m owner').Perm (List.range (k+hs.length))
 | [],owner,k,h1,h2,_=>⟨owner,rfl,h1,h2⟩
 | h::hs,owner,k,h1,h2,h3=>by
  rw[List.length_cons] at h3
  obtain⟨j0,hj0,ej0⟩:=yP (n:=k) (by rw[h2.length_eq,List.length_range]) (by omega)
  obtain⟨j,ej,hj,oj⟩:=ZG hfull h1 hj0 (by rw[VR h1 hj0]; exact ej0) 13 (turns m) (bits h % (m+1)) (bits h) (VI h) (Nat.le_of_lt_succ (Nat.mod_lt _ (Nat.succ_pos m))) (by unfold turns; omega)
  have hjs:j<owner.size:=by omega
  have oj':owner.getD j none=none:=by rw[<- VR h1 hj (some 0)]; exact oj
  have hp:(live m (owner.setIfInBounds j (some k))).Perm (k::live m owner):=by
   refine W9 (f:=fun x=>owner.getD x none) (g:=fun x=>(owner.setIfInBounds j (some k)).getD x none) oj' ?_ (fun x hx=>?_) List.nodup_range (List.mem_range.mpr (by omega))
   ·simp[Array.getD_eq_getD_getElem?,Array.getElem?_setIfInBounds,hjs]
   ·simp[Array.getD_eq_getD_getElem?,Array.getElem?_setIfInBounds,Ne.symm hx]
  have hp2:(live m (owner.setIfInBounds j (some k))).Perm (List.range (k+1)):=by
   rw[List.range_succ]
   exact hp.trans ((h2.cons k).trans (List.perm_append_singleton k _).symm)
  obtain⟨owner',e1,e2,e3⟩:=kg hfull hs (owner.setIfInBounds j (some k)) (k+1) (by rw[Array.size_setIfInBounds]; exact h1) hp2 (by omega)
  refine⟨owner',?_,e2,?_⟩
  ·rw[List.foldl_cons]
   rw[List.length_cons,show k+(hs.length+1)=k+1+hs.length by omega,<- e1]
   congr 1
   show (do let j<-layClean.free m owner (turns m) (bits h % (m+1)) (bits h); pure (owner.setIfInBounds j (some k),k+1):Option _)=_
   rw[ej]; rfl
  ·rw[List.length_cons,show k+(hs.length+1)=k+1+hs.length by omega]; exact e3
theorem kh (m:Nat):live m (Array.replicate (m+1) none)= []:=by
 unfold live
 rw[List.filterMap_eq_nil_iff]
 intro x _
 rw[Array.getD_eq_getD_getElem?,Array.getElem?_replicate]
 split <;> rfl
theorem WT {m:Nat}(hfull:jU m) (hashes:Array Int) (hn:hashes.size<=m+1):∃ owner,layClean m hashes=some owner/\owner.size=m+1/\(live m owner).Perm (List.range hashes.size):=by
 obtain⟨owner,e1,e2,e3⟩:=kg hfull hashes.toList (Array.replicate (m+1) none) 0 (by simp) (by rw[kh]; exact .refl _) (by simpa using hn)
 refine⟨owner,?_,e2,by simpa using e3⟩
 unfold layClean
 rw[<- Array.foldl_toList,e1]; rfl
theorem wS {m finger moves:Nat}{led plain:Bool}(hfull:jU m) (hashes:Array Int) (hn:hashes.size<=m) :
  ∃ t order,laid m finger moves led plain hashes=some (t,order)/\order.toList.Perm (List.range hashes.size)/\t.place.size=hashes.size/\t.dummies=#[]/\t.mask=m/\t.led=led/\t.plain=plain:=by
 obtain⟨owner,e1,e2,e3⟩:=WT hfull hashes (by omega)
 have hl:(((List.range (m+1)).filterMap fun j=>(owner.getD j none).map (j,·)).map (·.2))=live m owner:=by
  unfold live
  rw[List.map_filterMap]
  congr 1
  funext j
  cases owner.getD j none <;> rfl
 unfold laid
 rw[e1]
 refine⟨_,_,rfl,?_,?_,rfl,rfl,rfl,rfl⟩
 ·simp only[List.toList_toArray]
  rw[hl]; exact e3
 ·have:=e3.length_eq
  rw[<- hl,List.length_map,List.length_range] at this
  show (List.map _ _).toArray.size=_
  rw[List.size_toArray,List.length_map]; exact this
end Tab
set_option maxHeartbeats 4000000
namespace Tab
open PySem PySem.SetTable
theorem qX {α:Type}(es:Array α) (i:Nat):(eraseAt es i).toList=es.toList.eraseIdx i:=by
 unfold eraseAt
 rw[List.eraseIdx_eq_take_drop_succ]
 simp[Array.toList_extract]
 exact List.take_of_length_le (by simp)
theorem jh (xs:Array Nat) (j:Nat):below xs j<=xs.size:=by
 unfold below
 have H:∀ fuel lo hi,lo<=hi->hi<=xs.size->below.go xs j fuel lo hi<=xs.size:=by
  intro fuel
  induction fuel with
  | zero=>intro lo hi h1 h2; rw[below.go]; omega
  | succ fuel ih=>
   intro lo hi h1 h2
   rw[below.go]
   split
   ·dsimp only
    split
    ·exact ih _ _ (by omega) h2
    ·exact ih _ _ (by omega) (by omega)
   ·omega
 exact H _ _ _ (Nat.zero_le _) (Nat.le_refl _)
noncomputable def Rise (xs:Array Nat):Prop:=xs.toList.Pairwise (·<·)
theorem Rise.lt {xs:Array Nat}(h:Rise xs){i j:Nat}(hij:i<j) (hj:j<xs.size):xs[i]'(by omega)<xs[j]:=by
 have:=List.pairwise_iff_getElem.mp h i j (by simp; omega) (by simpa using hj) hij
 simpa using this
theorem Wo {xs:Array Nat}(h:Rise xs) (j:Nat):(∀ i (hi:i<xs.size),i<below xs j->xs[i]<j)/\(∀ i (hi:i<xs.size),below xs j<=i->j<=xs[i]):=by
 unfold below
 have H:∀ fuel lo hi,lo<=hi->hi<=xs.size->hi-lo<=fuel->(∀ i (q:i<xs.size),i<lo->xs[i]<j)->(∀ i (q:i<xs.size),hi<=i->j<=xs[i]) ->
   (∀ i (q:i<xs.size),i<below.go xs j fuel lo hi->xs[i]<j)/\(∀ i (q:i<xs.size),below.go xs j fuel lo hi<=i->j<=xs[i]):=by
  intro fuel
  induction fuel with
  | zero=>intro lo hi h1 h2 h3 a b; rw[below.go]; exact⟨a,fun i q hz=>b i q (by omega)⟩
  | succ fuel ih=>
   intro lo hi h1 h2 h3 a b
   rw[below.go]
   split
   ·rename_i hlt
    dsimp only
    have hm:(lo+hi) / 2<xs.size:=by omega
    have eg:xs.getD ((lo+hi) / 2) j=xs[(lo+hi) / 2]:=by simp[Array.getD,hm]
    rw[eg]
    split
    ·rename_i hx
     refine ih _ _ (by omega) h2 (by omega) (fun i q hz=>?_) b
     rcases Nat.lt_or_ge i ((lo+hi) / 2) with z | z
     ·exact Nat.lt_trans (h.lt z hm) hx
     ·have:i=(lo+hi) / 2:=by omega
      subst this; exact hx
    ·rename_i hx
     refine ih _ _ (by omega) (by omega) (by omega) a (fun i q hz=>?_)
     rcases Nat.eq_or_lt_of_le hz with z | z
     ·subst z; omega
     ·have:=h.lt z q; omega
   ·exact⟨a,fun i q hz=>b i q (by omega)⟩
 exact H _ _ _ (Nat.zero_le _) (Nat.le_refl _) (by omega) (fun i _ z=>absurd z (by omega)) (fun i q z=>absurd q (by omega))
theorem jp {α:Type}(xs:Array α) (p:Nat) (x:α):(insertAt xs p x).toList=xs.toList.take p++x::xs.toList.drop p:=by
 unfold insertAt
 simp[Array.toList_extract]
 exact List.take_of_length_le (by simp)
theorem Rise.insert {xs:Array Nat}(h:Rise xs){j:Nat}(hj:xs[below xs j]?≠some j):Rise (insertAt xs (below xs j) j):=by
 obtain⟨a,b⟩:=Wo h j
 have hle:=jh xs j
 generalize below xs j=p at *
 unfold Rise
 rw[jp]
 have hp:(xs.toList.take p++xs.toList.drop p).Pairwise (·<·):=by rw[List.take_append_drop]; exact h
 rw[List.pairwise_append] at hp |-
 have h1:∀ x∈xs.toList.take p,x<j:=fun x hx=>by
  obtain⟨i,hi,e⟩:=List.mem_iff_getElem.mp hx
  rw[List.length_take] at hi
  simp only[Array.length_toList] at hi
  rw[List.getElem_take] at e
  have:=a i (by omega) (by omega)
  simp only[Array.getElem_toList] at e
  omega
 have h2:∀ x∈xs.toList.drop p,j<x:=fun x hx=>by
  obtain⟨i,hi,e⟩:=List.mem_iff_getElem.mp hx
  rw[List.length_drop] at hi
  simp only[Array.length_toList] at hi
  rw[List.getElem_drop] at e
  simp only[Array.getElem_toList] at e
  have hb:=b (p+i) (by omega) (by omega)
  rcases Nat.eq_or_lt_of_le hb with z | z
  ·exfalso
   cases i with
   | zero=>
    apply hj
    rw[Array.getElem?_eq_getElem (by omega)]
    exact congrArg some z.symm
   | succ i=>
    have hb0:=b p (by omega) (by omega)
    have hlt:=h.lt (i:=p) (j:=p+(i+1)) (by omega) (by omega)
    omega
  ·omega
 refine⟨hp.1,List.pairwise_cons.mpr ⟨h2,hp.2.1⟩,fun x hx y hy=>?_⟩
 rcases List.mem_cons.mp hy with rfl | hy
 ·exact h1 x hx
 ·exact hp.2.2 x hx y hy
theorem Rise.erase {xs:Array Nat}(h:Rise xs) (i:Nat):Rise (eraseAt xs i):=by
 unfold Rise
 rw[qX]
 exact h.sublist (List.eraseIdx_sublist ..)
structure Neat (w:World) (t:SetTable):Prop where
 led:w.params.followText "set-order" =true∨t.led=true
 plain:t.plain=true
 up:Rise t.place
theorem Neat.drop {w:World}{t:SetTable}(h:Neat w t) (i:Nat):Neat w (t.drop i):=by
 unfold SetTable.drop; split
 ·exact⟨h.led,h.plain,h.up.erase i⟩
 ·exact h
theorem zbb {t:SetTable}{j:Nat}(h:∀ i,t.slot j≠ .live i):t.place[below t.place j]?≠some j:=fun e=>by
 apply h (below t.place j)
 unfold SetTable.slot
 simp[e]
theorem jS {t:SetTable}{ha:Nat->Int}{h:Int}:∀ (fuel:Nat) (p:Probe){j:Nat}{d:Option Nat},(∀ d,p.dummy=some d->∀ i,t.slot d≠ .live i)->probe.go t ha h fuel p=some (.empty j d)->∀ i,t.slot (d.getD j)≠ .live i
 | 0,p,j,d,hd,e=>by rw[probe.go] at e; cases e
 | fuel+1,p,j,d,hd,e=>by
  rw[probe.go] at e
  have adv:∀ q:Probe,(t.advance q).dummy=q.dummy:=fun q=>by unfold SetTable.advance; split <;> rfl
  split at e
  ·rename_i hs
   injection e with e; injection e with e1 e2
   subst e1; subst e2
   cases hq:p.dummy with
   | none=>intro i z; rw[Option.getD_none,hs] at z; cases z
   | some d=>exact hd d hq
  ·rename_i hs
   refine jS fuel _ (fun d hq=>?_) e
   rw[adv] at hq
   injection hq with hq
   subst hq
   intro i z; rw[hs] at z; cases z
  ·split at e
   ·cases e
   ·exact jS fuel _ (fun d hq=>hd d (by rw[adv] at hq; exact hq)) e
section
variable {t:SetTable} {ha:Nat->Int} {h:Int}
theorem va (hd:t.dummies=#[]) (j:Nat):t.slot j=.empty∨∃ i,t.slot j=.live i:=by
 unfold SetTable.slot
 dsimp only
 split
 ·exact .inr ⟨_,rfl⟩
 ·rw[hd]
  left
  have:has #[] j=false:=by unfold has; simp
  rw[this]; rfl
theorem zam (hh:∀ i,ha i≠h){q:Probe}{i:Nat}(e:t.slot q.j=.live i) (f:Nat):probe.go t ha h (f+1) q=probe.go t ha h f (t.advance q):=by
 rw[probe.go,e]
 dsimp only
 rw[if_neg (by simpa using hh i)]
theorem k4 (hd:t.dummies=#[]) (hh:∀ i,ha i≠h):∀ (mo:Nat) (q:Probe),q.more=mo->q.dummy=none->∀ f,mo+1<=f->(∃ j,probe.go t ha h f q=some (.empty j none)) ∨
  ((∀ k,k<=mo->t.slot (q.j+k)≠ .empty)/\∃ q':Probe,probe.go t ha h f q=probe.go t ha h (f-(mo+1)) q'/\q'.dummy=none/\q'.j=q'.i/\q'.i=(leap t.mask q.i q.perturb).1/\q'.perturb=(leap t.mask q.i q.perturb).2/\q'.more=runEnd t.mask q'.i-q'.i)
 | mo,q,hm,hq,0,hf=>absurd hf (by omega)
 | mo,q,hm,hq,f+1,hf=>by
  rcases va hd q.j with e | ⟨i,e⟩
  ·left
   rw[probe.go,e]
   exact⟨q.j,by rw[hq]⟩
  ·rw[zam hh e]
   have e0:t.slot q.j≠ .empty:=fun z=>by rw[e] at z; cases z
   cases mo with
   | zero=>
    right
    refine⟨fun k hk=>?_,t.advance q,rfl,?_⟩
    ·have:k=0:=by omega
     subst this; exact e0
    ·unfold SetTable.advance
     rw[if_neg (by omega)]
     exact⟨hq,rfl,rfl,rfl,rfl⟩
   | succ mo=>
    have ea:t.advance q={ q with j:=q.j+1,more:=q.more-1 }:=by unfold SetTable.advance; rw[if_pos (by omega)]
    rw[ea]
    rcases k4 hd hh mo { q with j:=q.j+1,more:=q.more-1 } (by show q.more-1=mo; omega) hq f (by omega) with z | ⟨z1,q',z2,z3⟩
    ·exact .inl z
    ·refine .inr ⟨fun k hk=>?_,q',?_,z3⟩
     ·cases k with
      | zero=>exact e0
      | succ k=>
       have:=z1 k (by omega)
       have ek:q.j+1+k=q.j+(k+1):=by omega
       rw[<- ek]; exact this
     ·rw[z2]; congr 1; omega
theorem VO (hd:t.dummies=#[]) (hh:∀ i,ha i≠h){owner:Array (Option Nat)}(ho:∀ j,owner.getD j (some 0)=none->t.slot j=.empty):∀ (fuel i p:Nat){r:Nat},layClean.free t.mask owner fuel i p=some r ->
  ∀ (q:Probe) (f:Nat),q.i=i->q.j=i->q.more=runEnd t.mask i-i->q.perturb=p->q.dummy=none->10*fuel<=f->∃ j,probe.go t ha h f q=some (.empty j none)
 | 0,i,p,r,e=>by rw[layClean.free] at e; cases e
 | fuel+1,i,p,r,e=>fun q f h1 h2 h3 h4 h5 h6=>by
  rw[layClean.free] at e
  have hr:runEnd t.mask i-i<=9/\i<=runEnd t.mask i:=by unfold runEnd; split <;> omega
  rcases k4 hd hh (runEnd t.mask i-i) q h3 h5 f (by omega) with z | ⟨z1,q',z2,z3,z4,z5,z6,z7⟩
  ·exact z
  ·split at e
   ·rename_i k hk
    exfalso
    have hk1:=List.find?_some hk
    have hk2:=List.mem_of_find?_eq_some hk
    rw[List.mem_range] at hk2
    refine z1 k (by omega) ?_
    rw[h2]
    exact ho _ (by simpa using hk1)
   ·dsimp only at e
    rw[h1,h4] at z5 z6
    rw[z2]
    exact VO hd hh ho fuel _ _ e q' _ z5 (by rw[z4]; exact z5) (by rw[z7,z5]) z6 z3 (by omega)
theorem W4:∀ {fm ks:List Nat},fm.Nodup->(∀ x∈fm,x∈ks)->fm.length<=ks.length
 | [],_,_,_=>Nat.zero_le _
 | x::r,ks,h,hs=>by
  obtain⟨h1,h2⟩:=List.nodup_cons.mp h
  have hx:=hs x List.mem_cons_self
  have:=W4 (ks:=ks.erase x) h2 fun y hy=>(List.mem_erase_of_ne (a:=y) (b:=x) fun e=>h1 (by rw[<- e]; exact hy)).mpr (hs y (List.mem_cons_of_mem _ hy))
  rw[List.length_erase_of_mem hx] at this
  have:=List.length_pos_of_mem hx
  simp only[List.length_cons]
  omega
theorem zaw {m:Nat}{xs:List Nat}(hl:xs.length<=m):∃ j,j<=m/\j∉xs:=by
 apply Classical.byContradiction
 intro hc
 have hall:∀ j,j<=m->j∈xs:=fun j hj=>Classical.byContradiction fun z=>hc ⟨j,hj,z⟩
 have h1:(List.range (m+1)).Nodup:=List.nodup_range
 have h2:(List.range (m+1)).length<=xs.length:=W4 h1 fun j hj=>hall j (by have:=List.mem_range.mp hj; omega)
 rw[List.length_range] at h2
 omega
theorem yI (hd:t.dummies=#[]) (hfull:jU t.mask) (hl:t.place.size<=t.mask) (k:Int):∃ j,t.freeSlot k=some (j,false)/\∀ i,t.slot j≠ .live i:=by
 obtain⟨j0,h1,h2⟩:=zaw (m:=t.mask) (xs:=t.place.toList) (by simpa using hl)
 have e0:t.slot j0=.empty:=by
  rcases va hd j0 with e | ⟨i,e⟩
  ·exact e
  ·exfalso
   unfold SetTable.slot at e
   dsimp only at e
   split at e
   ·rename_i hz
    apply h2
    have hz':t.place[below t.place j0]?=some j0:=by simpa using hz
    obtain⟨hlt,hv⟩:=Array.getElem?_eq_some_iff.mp hz'
    rw[<- hv]
    exact (Array.getElem_mem_toList hlt)
   ·split at e <;> cases e
 have hsz:(((Array.range (t.mask+1)).map fun j=>if t.slot j=.empty then none else some 0):Array (Option Nat)).size=t.mask+1:=by simp
 have hget:∀ j,(((Array.range (t.mask+1)).map fun j=>if t.slot j=.empty then none else some 0):Array (Option Nat)).getD j (some 0)=none->t.slot j=.empty:=fun j hj=>by
  by_cases hlt:j<t.mask+1
  ·rw[Array.getD,dif_pos (by simpa using hlt)] at hj
   simp at hj
   exact hj
  ·rw[Array.getD,dif_neg (by simpa using hlt)] at hj
   cases hj
 have ho:(((Array.range (t.mask+1)).map fun j=>if t.slot j=.empty then none else some 0):Array (Option Nat)).getD j0 (some 0)=none:=by
  rw[Array.getD,dif_pos (by simp; omega)]
  simp[e0]
 obtain⟨r,er,_,_⟩:=ZG hfull hsz h1 ho 13 (turns t.mask) (bits k % (t.mask+1)) (bits k) (VI k) (by have:=Nat.mod_lt (bits k) (show t.mask+1>0 by omega); omega) (by unfold turns; omega)
 obtain⟨j,ej⟩:=VO (ha:=fun _=>k+1) (h:=k) hd (fun _=>by omega) hget (turns t.mask) _ _ er (t.probeStart k) (10*turns t.mask) rfl rfl rfl rfl rfl (Nat.le_refl _)
 refine⟨j,?_,jS (h:=k) (ha:=fun _=>k+1) _ _ (fun d hd=>by cases hd) ej⟩
 unfold SetTable.freeSlot SetTable.probe
 rw[ej]
 rfl
end
noncomputable def zJ (n:Nat):Nat:=if n<=4 then 7 else if n<=18 then 31 else 127
theorem J5 (n:Nat):jU (zJ n):=by
 unfold zJ; split
 ·exact zbM
 ·split
  ·exact YU
  ·exact VP
theorem VW {n:Nat}(h:n<=60):n+1<=zJ n:=by
 unfold zJ
 split
 ·omega
 ·split <;> omega
structure Room (t:SetTable) (n:Nat):Prop where
 dm:t.dummies=#[]
 sz:t.place.size=n
 msk:t.mask=zJ n
theorem WU {w:World}{t:SetTable}{n:Nat}{es:Array (Int×Value)}(hN:Neat w t) (hR:Room t n) (hes:es.size=n) (hn:n+1<=60) (k:Int) (x:Value) :
  ∃ es',layNew t es k x=(es',(layNew t es k x).2.1,false,false)/\Neat w (layNew t es k x).2.1/\(layNew t es k x).2.1.dummies=#[]/\(layNew t es k x).2.1.place.size=n+1/\(layNew t es k x).2.1.mask=zJ n:=by
 have hge:=VW (n:=n) (by omega)
 obtain⟨j,e,hj⟩:=yI hR.dm (by rw[hR.msk]; exact J5 n) (by rw[hR.sz,hR.msk]; omega) k
 have hz:(insertAt t.place (below t.place j) j).size=n+1:=by
  rw[<- Array.length_toList,jp,List.length_append,List.length_cons,List.length_take,List.length_drop,Array.length_toList,hR.sz]
  have:=jh t.place j
  rw[hR.sz] at this
  omega
 have hz2:(insertAt es (below t.place j) (k,x)).size=n+1:=by
  rw[<- Array.length_toList,jp,List.length_append,List.length_cons,List.length_take,List.length_drop,Array.length_toList,hes]
  have:=jh t.place j
  rw[hR.sz] at this
  omega
 have hp:t.put j=({ t with place:=insertAt t.place (below t.place j) j },below t.place j):=by
  unfold SetTable.put
  dsimp only
  have:has t.dummies j=false:=by rw[hR.dm]; unfold has; simp
  rw[this]
  simp
 have hf:({ t with place:=insertAt t.place (below t.place j) j }:SetTable).fits (insertAt es (below t.place j) (k,x)).size=true:=by
  unfold SetTable.fits SetTable.fill
  rw[Bool.and_eq_true,beq_iff_eq,decide_eq_true_eq]
  dsimp only
  rw[hz,hz2,hR.dm,hR.msk]
  exact⟨rfl,by simpa using hge⟩
 have el:layNew t es k x=(insertAt es (below t.place j) (k,x),{ t with place:=insertAt t.place (below t.place j) j },false,false):=by
  unfold PySem.layNew
  rw[e]
  dsimp only
  rw[hp]
  dsimp only
  unfold SetTable.orStandIn
  rw[hf]
  rfl
 rw[el]
 exact⟨_,rfl,⟨hN.led,hN.plain,hN.up.insert (zbb hj)⟩,hR.dm,hz,hR.msk⟩
theorem Z0 {f:Nat->Option Nat}:∀ {l:List Nat},l.Pairwise (·<·)->((l.filterMap fun j=>(f j).map (j,·)).map (·.1)).Pairwise (·<·)
 | [],_=>by simp
 | x::l,h=>by
  obtain⟨h1,h2⟩:=List.pairwise_cons.mp h
  have ih:=Z0 (f:=f) h2
  cases e:f x with
  | none=>simpa [List.filterMap_cons,e] using ih
  | some y=>
   simp only[List.filterMap_cons,e,Option.map_some,List.map_cons]
   refine List.pairwise_cons.mpr ⟨fun z hz=>?_,ih⟩
   simp only[List.mem_map,List.mem_filterMap] at hz
   obtain⟨a,⟨b,hb,hab⟩,rfl⟩:=hz
   cases eb:f b with
   | none=>rw[eb] at hab; cases hab
   | some c=>rw[eb] at hab; cases hab; exact h1 _ hb
theorem ZH {w:World}{m finger moves:Nat}{led:Bool}{hs:Array Int}{t:SetTable}{order:Array Nat}(hl:w.params.followText "set-order" =true∨led=true) (e:laid m finger moves led true hs=some (t,order)):Neat w t:=by
 unfold laid at e
 cases ho:layClean m hs with
 | none=>rw[ho] at e; cases e
 | some owner=>
  rw[ho] at e
  injection e with e; injection e with e1 e2
  subst e1
  exact⟨hl,rfl,by unfold Rise; simp only[List.toList_toArray]; exact Z0 List.pairwise_lt_range⟩
theorem Vb {w:World}{t:SetTable}{n:Nat}{es:Array (Int×Value)}(hN:Neat w t) (hes:es.size=n) (hm:sizeAbove (grown n)-1=zJ n) (hn:n<=60) :
  Neat w (relayAll t es (grown n)).2.1/\Room (relayAll t es (grown n)).2.1 n:=by
 have hge:=VW hn
 obtain⟨t2,order,el,hp,hps,hdm,hmk,_,_⟩:=wS (finger:=t.finger) (moves:=t.movedTo (zJ n)) (led:=t.led) (plain:=true) (J5 n) (es.map (·.1)) (by rw[Array.size_map]; omega)
 rw[Array.size_map,hes] at hp hps
 have e1:t.relaid (es.map (·.1)) (grown n)=some (t2,order):=by unfold SetTable.relaid; rw[hm,hN.plain]; exact el
 have hc:coversAll order es.size=true:=by unfold coversAll; rw[hes]; exact List.isPerm_iff.mpr hp
 have hos:(order.filterMap (es[·]?)).size=n:=by
  have h1:(order.filterMap (es[·]?)).toList.Perm es.toList:=by
   rw[Array.toList_filterMap]
   refine (hp.filterMap _).trans ?_
   rw[<- hes,filterMap_getElem?_range]
  rw[<- Array.length_toList,h1.length_eq,Array.length_toList,hes]
 have hf:t2.fits (order.filterMap (es[·]?)).size=true:=by
  unfold SetTable.fits SetTable.fill
  rw[hps,hdm,hmk,hos]
  simp
  omega
 have er:relayAll t es (grown n)=(order.filterMap (es[·]?),t2,false):=by
  unfold PySem.relayAll
  rw[e1]
  dsimp only
  rw[hc,hf]
  rfl
 rw[er]
 exact⟨ZH hN.led el,⟨hdm,hps,hmk⟩⟩
end Tab
set_option maxHeartbeats 4000000
namespace Tab
open PySem PySem.SetTable
section
variable {prog:Program} {w:World} {A:Around} {E:Value->Shared->Prop} {s:Shared}
noncomputable def NSet (prog:Program) (w:World) (h:Heap) (a:Addr) (S:Int->Bool) (n:Nat):Prop :=
 ∃ o es ep t,h.get? a=some o/\o.ExactSet/\o.data=.set es ep t/\ElemsOf (intKind prog w) es.toList/\(∀ k,S k=true↔∃ e∈es.toList,(intKind prog w).is k e.2=true)/\es.size<scanBound/\t.fits es.size=true/\es.size=n/\Neat w t
theorem NSet.setOf {h:Heap}{a:Addr}{S:Int->Bool}{n:Nat}(x:NSet prog w h a S n):h.SetOf (intKind prog w) a S n:=by
 obtain⟨o,es,ep,t,h1,h2,h3,h4,h5,h6,h7,h8,_⟩:=x
 exact⟨o,es,ep,t,h1,h2,h3,h4,h5,h6,h7,h8⟩
noncomputable def GSet (prog:Program) (w:World) (h:Heap) (a:Addr) (S:Int->Bool) (n:Nat):Prop :=
 ∃ o es ep t,h.get? a=some o/\o.ExactSet/\o.data=.set es ep t/\ElemsOf (intKind prog w) es.toList/\(∀ k,S k=true↔∃ e∈es.toList,(intKind prog w).is k e.2=true)/\es.size<scanBound/\t.fits es.size=true/\es.size=n/\Neat w t/\Room t n
theorem GSet.nset {h:Heap}{a:Addr}{S:Int->Bool}{n:Nat}(x:GSet prog w h a S n):NSet prog w h a S n:=by
 obtain⟨o,es,ep,t,h1,h2,h3,h4,h5,h6,h7,h8,h9,_⟩:=x
 exact⟨o,es,ep,t,h1,h2,h3,h4,h5,h6,h7,h8,h9⟩
theorem NSet.same {h h':Heap}{a:Addr}{S:Int->Bool}{n:Nat}(x:NSet prog w h a S n) (e:∀ o,h.get? a=some o->h'.get? a=some o):NSet prog w h' a S n:=by
 obtain⟨o,es,ep,t,h1,rest⟩:=x
 exact⟨o,es,ep,t,e o h1,rest⟩
theorem GSet.congr {h:Heap}{a:Addr}{S S':Int->Bool}{n n':Nat}(x:GSet prog w h a S n) (e:∀ k,S k=S' k) (en:n=n'):GSet prog w h a S' n':=by
 have:S=S':=funext e
 subst this; subst en; exact x
theorem GSet.store {h:Heap}{a:Addr}{o:Obj}{es:Array (Int×Value)}{ep:Nat}{t:SetTable}(ho:h.get? a=some o) (hex:o.ExactSet) (hd:o.data=.set es ep t)
  {es':Array (Int×Value)} {t':SetTable} {S':Int->Bool} {n:Nat} (hel:ElemsOf (intKind prog w) es'.toList) (hmem:∀ k,S' k=true↔∃ e∈es'.toList,(intKind prog w).is k e.2=true) (hn:es'.size=n) (hb:n<=60) (hf:t'.fits es'.size=true) :
  (h.update a (Obj.putSet es' t')).get? a=some { o with data:=.set es' (ep+1) t' }/\(Neat w t'->Room t' n->GSet prog w (h.update a (Obj.putSet es' t')) a S' n):=by
 have hb':es'.size<scanBound:=by have:scanBound=4096:=rfl; omega
 obtain⟨hg,_⟩:=SetOf_store (knd:=intKind prog w) ho hex hd hel hmem hb' hf
 exact⟨hg,fun h1 h2=>⟨_,es',ep+1,t',hg,hex,rfl,hel,hmem,hb',hf,hn,h1,h2⟩⟩
theorem YV {n m:Nat}(hm:m=zJ n) (hn:n+1<=60):((n+1)*5≥m*3->sizeAbove (grown (n+1))-1=zJ (n+1))/\(¬ (n+1)*5≥m*3->m=zJ (n+1)):=by
 subst hm
 have H:∀ n,n<60->((n+1)*5≥zJ n*3->sizeAbove (grown (n+1))-1=zJ (n+1))/\(¬ (n+1)*5≥zJ n*3->zJ n=zJ (n+1)):=by decide +kernel
 exact H n (by omega)
theorem K7 {g:Bool->Sem Unit}(hg:∀ (b:Bool) (s₁:Shared) (Q':Unit->Shared->Prop),Q' () s₁->wpAny (model prog w) A (g b) Q' E s₁)
  {a:Addr} {o:Obj} {es:Array (Int×Value)} {ep:Nat} {t:SetTable} (ho:s.heap.get? a=some o) (hex:o.ExactSet) (hd:o.data=.set es ep t)
  {es1:Array (Int×Value)} {t2:SetTable} {S':Int->Bool} (hel1:ElemsOf (intKind prog w) es1.toList) (hmem1:∀ k',S' k'=true↔∃ e∈es1.toList,(intKind prog w).is k' e.2=true)
  {n:Nat} (hsz1:es1.size=n+1) (hb1:n+1<=60) (hf2:t2.fits es1.size=true) (hn2:Neat w t2) (hd2:t2.dummies=#[]) (hp2:t2.place.size=n+1) (hm2:t2.mask=zJ n) {R:Option Bool->Shared->Prop}
  (h:∀ h',Heap.SameBut a s.heap h'->GSet prog w h' a S' (n+1)->R (some true) { s with heap:=h' }) :
  wpAny (model prog w) A (do
    storeSet a es1 t2
    if (!false&&t2.tooFull)=true then do
      g (relayAll t2 es1 (SetTable.grown es1.size)).2.2
      storeSet a (relayAll t2 es1 (SetTable.grown es1.size)).1 (relayAll t2 es1 (SetTable.grown es1.size)).2.1
      pure (some true)
     else pure (some true)) R E s:=by
 have hbb:es1.size<scanBound:=by have:scanBound=4096:=rfl; omega
 refine wpAny_bind (wpAny_storeSet_of ho hd ?_ (fits_of_scanBound hbb))
 obtain⟨ho1,hS1⟩:=GSet.store (S':=S') ho hex hd hel1 hmem1 hsz1 hb1 hf2
 have hsb1:=Heap.SameBut.update s.heap a (Obj.putSet es1 t2)
 have hfl:t2.fill=n+1:=by unfold SetTable.fill; rw[hd2,hp2]; rfl
 obtain⟨f1,f2⟩:=YV hm2 hb1
 split
 ·rename_i hc
  have hc':(n+1)*5≥t2.mask*3:=by
   simp only[Bool.not_false,Bool.true_and] at hc
   unfold SetTable.tooFull at hc
   rw[hfl] at hc
   simpa using hc
  have hp:=relayAll_perm t2 es1 (SetTable.grown es1.size)
  have hfr:=relayAll_fits t2 es1 (SetTable.grown es1.size)
  rw[hsz1] at hp hfr |-
  obtain⟨hnr,hrr⟩:=Vb hn2 hsz1 (f1 hc') hb1
  generalize relayAll t2 es1 (SetTable.grown (n+1))=Rl at hp hfr hnr hrr |-
  obtain⟨es2,t3,gave2⟩:=Rl
  dsimp only at hp hfr hnr hrr |-
  have hsz:es2.size=n+1:=by rw[<- Array.length_toList,hp.length_eq,Array.length_toList,hsz1]
  have hb2:es2.size<scanBound:=by have:scanBound=4096:=rfl; omega
  refine wpAny_bind (hg _ _ _ ?_)
  refine wpAny_bind (wpAny_storeSet_of ho1 rfl ?_ (fits_of_scanBound hb2))
  obtain⟨_,hS2⟩:=GSet.store (S':=S') (w:=w) (prog:=prog) ho1 hex rfl (hel1.perm hp) (fun k'=>(hmem1 k').trans ⟨fun ⟨e,he,q⟩=>⟨e,hp.mem_iff.mpr he,q⟩,fun ⟨e,he,q⟩=>⟨e,hp.mem_iff.mp he,q⟩⟩) hsz hb1 hfr
  exact wpAny_pure (h _ (hsb1.trans (Heap.SameBut.update _ a _)) (hS2 hnr hrr))
 ·rename_i hc
  have hc':¬ (n+1)*5≥t2.mask*3:=by
   simp only[Bool.not_false,Bool.true_and] at hc
   unfold SetTable.tooFull at hc
   rw[hfl] at hc
   simpa using hc
  exact wpAny_pure (h _ hsb1 (hS1 hn2 ⟨hd2,hp2,f2 hc'⟩))
theorem add_of {a:Addr}{S:Int->Bool}{n:Nat}{k:Int}{tok:Tok}{Q:Bool->Shared->Prop}(hS:GSet prog w s.heap a S n) (hroom:n+1<=60)
  (h:∀ h',Heap.SameBut a s.heap h'->GSet prog w h' a (fun k'=>S k'||decide (k'=k)) (if S k then n else n+1)->Q (!S k) { s with heap:=h' }) :
  wpAny (model prog w) A (setAddHashed a (.int k tok) ((intKind prog w).hash k)) Q E s:=by
 have hkey:(intKind prog w).is k (.int k tok)=true:=intKind_is _ _ _ _
 obtain⟨o,es,ep,t,ho,hex,hd,hel,hmem,hb,hf,hn,hN,hR⟩:=hS
 unfold setAddHashed setAddHashedIn
 refine wpAny_holding (wpAny_bind (wpAny_setState_of ho hd hf ?_))
 dsimp only
 rw[byScan_of (knd:=intKind prog w) rfl hb hel]
 simp only[↓reduceIte]
 unfold setAddByScan
 refine wpAny_bind ?_
 refine wpAny_bind (wpAny_rule ?_)
 refine wpAny_bind (wpAny_setScan_of hkey ho hd hf hel ?_)
 cases hr:List.findIdx? (fun e=>(intKind prog w).is k e.2) es.toList with
 | some j=>
  dsimp only
  obtain⟨hj,hpj,_⟩:=List.findIdx?_eq_some_iff_getElem.mp hr
  have hSk:S k=true:=(hmem k).mpr ⟨es.toList[j],List.getElem_mem hj,hpj⟩
  refine wpAny_pure (wpAny_pure ?_)
  have e:s={ s with heap:=s.heap }:=by cases s; rfl
  have:=h s.heap (Heap.SameBut.refl a s.heap) ⟨o,es,ep,t,ho,hex,hd,hel,fun k'=>by
   rw[Bool.or_eq_true,decide_eq_true_eq,<- hmem k']
   exact⟨fun hk=>hk.elim id (fun e=>e ▸ hSk),.inl⟩,hb,hf,by rw[hSk]; exact hn,hN,by rw[hSk]; exact hR⟩
  rw[hSk] at this; rw[e]; exact this
 | none=>
  dsimp only
  have hSk:S k=false:=by
   cases hk:S k with
   | false=>rfl
   | true=>obtain⟨e,he,hp⟩:=(hmem k).mp hk; have:=List.findIdx?_eq_none_iff.mp hr e he; rw[hp] at this; exact Bool.noConfusion this
  have hperm:=layNew_perm t es ((intKind prog w).hash k) (.int k tok)
  have hfits:=layNew_fits t es ((intKind prog w).hash k) (.int k tok)
  obtain⟨es0,hl0,hneat,hdm,hpl,hmk⟩:=WU hN hR hn hroom ((intKind prog w).hash k) (.int k tok)
  generalize layNew t es ((intKind prog w).hash k) (.int k tok)=L at hperm hfits hneat hl0 hdm hpl hmk |-
  obtain⟨es1,t1,wasDummy,gave⟩:=L
  dsimp only at hperm hfits hneat hl0 hdm hpl hmk |-
  obtain⟨_,_,rfl,rfl⟩:es1=es0/\True/\wasDummy=false/\gave=false:=by injection hl0 with z1 z2; injection z2 with z2 z3; injection z3 with z3 z4; exact⟨z1,trivial,z3,z4⟩
  rw[Array.toList_push] at hperm
  have hel1:ElemsOf (intKind prog w) es1.toList:=(hel.push hkey rfl).perm hperm
  have hmem1:=mem_push_iff hkey hmem hperm
  have hsz1:es1.size=n+1:=by rw[<- Array.length_toList,hperm.length_eq,List.length_append,Array.length_toList,hn]; rfl
  refine wpAny_bind (wpAny_pure ?_)
  have hend:∀ h',Heap.SameBut a s.heap h'->GSet prog w h' a (fun k'=>S k'||decide (k'=k)) (n+1)->Q true { s with heap:=h' }:=by
   intro h' hsb hS'; have:=h h' hsb; rw[hSk] at this; exact this hS'
  rw[if_pos hneat.plain]
  refine wpAny_bind ?_
  rw[hashByValue_scannable 8 rfl]
  refine wpAny_pure ?_
  refine K7 ?_ ho hex hd hel1 hmem1 hsz1 hroom hfits hneat hdm hpl hmk ?_
  ·intro b s₁ Q' hq; cases b <;> first | exact wpAny_pure hq | exact wpAny_rule hq
  ·intro h' hsb hS'; dsimp only; exact wpAny_pure (hend h' hsb hS')
noncomputable def freshS (w:World):Obj:={ cls:=.type "set",dict:=none,data:=.set #[] 0 (.fresh 0 0 (!w.params.followText "set-order")) }
theorem Q5 (w:World):Neat w (.fresh 0 0 (!w.params.followText "set-order")):=⟨by cases w.params.followText "set-order" <;> simp[SetTable.fresh],rfl,List.Pairwise.nil⟩
theorem fresh_set {h:Heap}{a:Addr}(e:h.get? a=some (freshS w)):GSet prog w h a (fun _=>false) 0 :=
 ⟨_,#[],0,_,e,⟨rfl,rfl,rfl⟩,rfl,fun e he=>by simp at he,fun k=>by simp,by decide,by rfl,rfl,Q5 w,⟨rfl,rfl,rfl⟩⟩
theorem wa {Q:Value->Shared->Prop}(h:Q (.ref s.heap.objs.size) { s with heap:=s.heap.push (freshS w) }):wpAny (model prog w) A (newSet (.type "set")) Q E s:=by
 unfold newSet setsByText
 refine wpAny_bind (wpAny_bind (wpAny_askSetting (wpAny_pure ?_)))
 dsimp only
 simp only[newObj]
 exact wpAny_bind (wpAny_alloc (wpAny_pure h))
end
end Tab
set_option maxHeartbeats 4000000
namespace PyProof.Rows
open PySem
section
variable {prog:Program} {w:World} {A:Around} {R:Result->Shared->Prop} {I:Addr} {fp wr:List Addr} {G:Array GenState->Array GenState->Prop} {n:Nat} {P:Nat->Value->Prop} {St:Nat->Shared->Prop}
theorem loopN (W:WalksS prog w A.in1 I fp wr G n P St) (S:Addr) (hSf:S∉fp)
  (val:Nat->Int) (hval:∀ i v,P i v->∃ t,v=.int (val i) t) (hb:n<=60) :
  ∀ (k i:Nat) (s:Shared),n-i=k->i<=n->St i s ->
   Tab.GSet prog w s.heap S (fun k'=>(firstMet val i).any (·==k')) (firstMet val i).length ->
   (∀ s',Moved (S::wr) G s s'->Tab.GSet prog w s'.heap S (fun k'=>(firstMet val n).any (·==k')) (firstMet val n).length->R (.ok (.ret .none)) s') ->
   codeAny (model prog w) A (.builtin "set.update.loop" ⟨[.ref S,.ref I],[]⟩) R s:=by
 have hSw:S∉wr:=fun h=>hSf (W.sub _ h)
 have hsub:∀ b∈wr,b∈S::wr:=fun b hb=>List.mem_cons_of_mem _ hb
 intro k
 induction k with
 | zero=>
  intro i s hk hi hst hS hR
  have hin:i=n:=by omega
  subst hin
  refine codeAny_builtin F.entry_set_update_loop ?_
  rw[Around.under_plainId F.plain_set_update_loop _]
  show wpAny _ A.in1 (pyNext (.ref I) >>= _) _ _ s
  refine wpAny_bind (W.done s _ _ hst fun s' hm=>?_)
  show wpAny _ A.in1 (ret Value.none) _ _ s'
  exact wpAny_pure (hR s' (hm.mono hsub) (by
   obtain⟨o,es,ep,t,ho,rest⟩:=hS
   exact⟨o,es,ep,t,hm.heap S _ hSw ho,rest⟩))
 | succ k ih=>
  intro i s hk hi hst hS hR
  have hlt:i<n:=by omega
  refine codeAny_builtin F.entry_set_update_loop ?_
  rw[Around.under_plainId F.plain_set_update_loop _]
  show wpAny _ A.in1 (pyNext (.ref I) >>= _) _ _ s
  refine wpAny_bind (W.item i s _ _ hlt hst fun v s' hP hst' hm=>?_)
  obtain⟨t,rfl⟩:=hval i v hP
  have hS':Tab.GSet prog w s'.heap S (fun k'=>(firstMet val i).any (·==k')) (firstMet val i).length:=by
   obtain⟨o,es,ep,tb,ho,rest⟩:=hS
   exact⟨o,es,ep,tb,hm.heap S _ hSw ho,rest⟩
  show wpAny _ A.in1 (holding [Value.int (val i) t] (setAdd S (.int (val i) t)) >>= _) _ _ s'
  refine wpAny_bind (wpAny_holding ?_)
  unfold setAdd
  refine wpAny_holding ?_
  refine wpAny_bind ((intKind prog w).pyHash (k:=val i) (intKind_is _ _ _ _) ?_)
  have hroom:(firstMet val i).length+1<=60:=by have:=firstMet_length_le val i; omega
  refine Tab.add_of (s:={ s' with toks:=s'.toks+1 }) hS' hroom fun h' hsb hS2=>?_
  have hSi:Tab.GSet prog w h' S (fun k'=>(firstMet val (i+1)).any (·==k')) (firstMet val (i+1)).length :=
   Tab.GSet.congr hS2 (fun k'=>by rw[firstMet_succ,step_any]) (by rw[firstMet_succ,step_length])
  refine wpAny_pure ⟨plainId_quiet F.plain_set_update_loop _,ih (i+1) _ (by omega) hlt (W.frame _ s' _ _ hst' (Nat.le_succ _) fun b hb o e=>?_) hSi fun s'' hm'' hS''=>?_⟩
  ·rw[hsb.2 b (fun h:b=S=>hSf (by rw[<- h]; exact hb))]; exact e
  ·refine hR s'' (Moved.trans W.gtrans ((hm.mono hsub).then_heap (Nat.le_succ _) fun b o hb e=>?_) hm'') hS''
   rw[hsb.2 b (fun h:b=S=>hb (by rw[h]; exact List.mem_cons_self))]; exact e
end
end PyProof.Rows
namespace PySem
section
variable {prog:Program} {w:World} {A:Around} {E:Value->Shared->Prop} {s:Shared}
theorem Jy (a:Value) {Q₁:Value->Shared->Prop}
  (h:Q₁ (.ref s.heap.objs.size) { s with heap:=s.heap.push (Tab.freshS w) }) :
  codeAny (model prog w) A (.call (.builtin "set.__new__") ⟨[.type "set",a],[]⟩) (wants Q₁ E) s:=by
 refine codeAny_of_tree ?_
 show wpAny _ A.in1 (do checkBuiltinCall "set.__new__" ⟨[.type "set",a],[]⟩; again (.builtin "set.__new__" ⟨[.type "set",a],[]⟩)) _ _ s
 refine wpAny_bind (wpAny_of_eq (F.newCall_set_1 a) (wpAny_pure ⟨plainId_quiet F.plain_set_new _,codeAny_builtin F.entry_set_new ?_⟩))
 rw[Around.under_plainId F.plain_set_new _]
 unfold Builtin.«set.__new__» Builtin.Frozenset.newClass
 have hsub:=sub_set_self
 obtain⟨hp,g,d,tk,os⟩:=s
 dsimp only
 wp_walk
 refine wpAny_askSetting (wpAny_pure ?_)
 dsimp only
 simp only[newObj]
 refine wpAny_bind (wpAny_alloc (wpAny_pure ?_))
 exact wpAny_pure h
theorem QW {l:Addr}{items:Array Value}{ns:List Int}{Q:Value->Shared->Prop}
  (hh:A.handled=none) (hl:s.heap.IsList l items) (hi:PyProof.Rows.IntsAre items.toList ns) (hb:items.size<=60)
  (h:∀ (h':Heap) (tk:Nat),Tab.GSet prog w h' s.heap.objs.size (fun k'=>(PyProof.Rows.firstMet (fun i=>ns.getD i 0) items.size).any (·==k')) (PyProof.Rows.firstMet (fun i=>ns.getD i 0) items.size).length ->
   (∀ b o,b<s.heap.objs.size->s.heap.get? b=some o->h'.get? b=some o)->Q (.ref s.heap.objs.size) { s with heap:=h',toks:=tk }) :
  wpAny (model prog w) A (call (.type "set") [.ref l]) Q E s:=by
 obtain⟨c,tl,hmro⟩:=F.called_set.mro
 have hmade:=F.called_set.made
 have hsub:=F.called_set.sub
 refine wpAny_call (codeAny_of_tree ?_)
 show wpAny _ _ (callAny (.type "set") _) _ _ _
 refine wpAny_pure ⟨Code.quiet_builtin _ (by decide +kernel),codeAny_builtin F.entry_type_call ?_⟩
 rw[Around.under_plain (weight_type_call_type "set" [.ref l] []) rfl]
 have h1:=F.called_set.notType
 have h2:=F.called_set.canCreate
 have hct:=F.typeCall_set_1 (.ref l)
 repeat (any_goals (first | assumption | wp_step))
 refine codeAny_mono (Jy (.ref l) (E:=E) (Q₁:=fun obj s₁=>obj=.ref s.heap.objs.size/\s₁={ s with heap:=s.heap.push (Tab.freshS w) }) ⟨rfl,rfl⟩) fun r s₁ hr=>?_
 cases r with
 | error e=>exact hr
 | ok fl=>
  cases fl with
  | ret obj=>
   obtain⟨rfl,rfl⟩:=hr
   have hS:(s.heap.push (Tab.freshS w)).get? s.heap.objs.size=some (Tab.freshS w):=Heap.get?_push_size _ rfl
   have hT:Shared.TypeIs { s with heap:=s.heap.push (Tab.freshS w) } (.ref s.heap.objs.size) "set" :=⟨_,hS,rfl⟩
   have hli:=F.called_set.init.lookup
   have hbi:=F.called_set.init.bind (.ref s.heap.objs.size)
   repeat (any_goals (first | assumption | wp_step))
   refine codeAny_mono (codeAny_call_builtin (R:=wants (fun r s₂=>r=.none/\∃ h' tk,s₂={ s with heap:=h',toks:=tk } /\
     Tab.GSet prog w h' s.heap.objs.size (fun k'=>(PyProof.Rows.firstMet (fun i=>ns.getD i 0) items.size).any (·==k')) (PyProof.Rows.firstMet (fun i=>ns.getD i 0) items.size).length /\
     (∀ b o,b<s.heap.objs.size->s.heap.get? b=some o->h'.get? b=some o)) E) F.called_set.init.plain F.entry_set_init (check_set_init_1 hT ?_)) fun r₂ s₂ hr₂=>?_
   ·obtain⟨ol,hol,hcl,nl,hdl⟩:=hl
    obtain⟨ocls,odict,odata,oslots⟩:=ol
    simp only at hcl hdl
    subst hcl; subst hdl
    have hol':(s.heap.push (Tab.freshS w)).get? l=some { cls:=.type "list",dict:=odict,data:=.seq items nl,slots:=oslots }:=Heap.get?_push_of_some _ hol
    have hsls:=F.sub_list_set
    have hslf:=F.sub_list_frozenset
    have hne:(Value.type "list" ==Value.type "dict")=false:=by decide
    have hl1:(s.heap.push (Tab.freshS w)).IsList l items:=⟨_,hol',rfl,nl,rfl⟩
    unfold Builtin.«set.__init__» noKeywords Builtin.Frozenset.updateFrom
    generalize hPI:pyIter=PI
    wp_walk
    subst hPI
    refine wpAny_pyIter_list hl1 ?_
    refine wpAny_bind (wpAny_runValue ?_)
    have hlS:l<s.heap.objs.size:=Heap.lt_size hol
    have hh3:A.in1.in1.in1.handled=none:=by simp[hh]
    have hneI:l≠(s.heap.push (Tab.freshS w)).objs.size:=by
     rw[Heap.size_push]; exact Nat.ne_of_lt (Nat.lt_succ_of_lt hlS)
    have hSf:s.heap.objs.size∉ [(s.heap.push (Tab.freshS w)).objs.size,l]:=by
     rw[Heap.size_push]; simp only[List.mem_cons,List.mem_singleton,List.not_mem_nil,or_false,not_or]
     exact⟨Nat.ne_of_lt (Nat.lt_succ_self _),Nat.ne_of_gt hlS⟩
    have hval:∀ (i:Nat) (v:Value),items[i]?=some v->∃ t,v=.int ((fun i=>ns.getD i 0) i) t:=fun i v hv=>
     PyProof.Rows.IntsAre.int_at hi i v (by rw[Array.getElem?_toList]; exact hv)
    refine PyProof.Rows.loopN ((Walks.list hh3 _ l hneI items).toS) s.heap.objs.size
     hSf (fun i=>ns.getD i 0) hval hb (items.size-0) 0 _ (by omega) (Nat.zero_le _)
     ⟨⟨_,Heap.get?_push_size _ rfl,rfl,rfl⟩,(hl1.push _)⟩ ?hS0 ?hR
    case hS0=>
     have hget:((s.heap.push (Tab.freshS w)).push { cls:=.type "list_iterator",data:=.fields #[.ref l,.int 0 0] }).get? s.heap.objs.size
       = some (Tab.freshS w):=Heap.get?_push_of_some _ hS
     exact Tab.GSet.congr (Tab.fresh_set hget) (fun _=>rfl) rfl
    case hR=>
     intro s' hm hS'
     obtain⟨h',g',d',tk',os'⟩:=s'
     have eg:g'=s.gens:=hm.gens
     have ed:d'=s.drawn:=hm.drawn
     have eo:os'=s.os:=hm.os
     subst eg; subst ed; subst eo
     show wpAny _ _ _ _ _ _
     refine wpAny_pure ?_
     show wpAny _ _ (ret Value.none) _ _ _
     refine wpAny_pure ⟨rfl,h',tk',rfl,hS',fun b o hb e=>?_⟩
     have hb1:b≠s.heap.objs.size:=Nat.ne_of_lt hb
     have hb2:b≠(s.heap.push (Tab.freshS w)).objs.size:=by
      rw[Heap.size_push]; exact Nat.ne_of_lt (Nat.lt_succ_of_lt hb)
     exact hm.heap b o (by simp only[List.mem_cons,List.mem_singleton,List.not_mem_nil,or_false,not_or]; exact⟨hb1,hb2⟩) (Heap.get?_push_of_some _ (Heap.get?_push_of_some _ e))
   ·cases r₂ with
    | error e=>exact hr₂
    | ok fl₂=>
     cases fl₂ with
     | ret r=>
      obtain⟨rfl,h',tk,rfl,hS',hk'⟩:=hr₂
      repeat (any_goals (first | assumption | wp_step))
      exact h _ _ hS' hk'
     | _=>exact hr₂.elim
  | _=>exact hr.elim
end
end PySem
set_option maxHeartbeats 4000000
namespace Tab
open PySem PySem.SetTable
theorem jO {α:Type}:∀ {l:List α}{n:Nat}(h:n<l.length),(l[n]::l.eraseIdx n).Perm l
 | x::l,0,_=>.refl _
 | x::l,n+1,h=>((List.Perm.swap x (l[n]'(by simpa using h)) _)).trans ((jO (l:=l) (n:=n) (by simpa using h)).cons x)
theorem V1 {α:Type}(next:Nat->Nat):∀ (fuel k:Nat) (left:List α) (out:Array α),left.length<=fuel->(pickOrder.go next fuel k left out).toList.Perm (out.toList++left)
 | 0,k,left,out,h=>by
  have:left= []:=List.length_eq_zero_iff.mp (by omega)
  subst this
  rw[pickOrder.go,List.append_nil]
 | fuel+1,k,left,out,h=>by
  rw[pickOrder.go]
  cases left with
  | nil=>simp
  | cons x l=>
   have hlt:next k % (x::l).length<(x::l).length:=Nat.mod_lt _ (by simp)
   rw[List.getElem?_eq_getElem hlt]
   dsimp only
   refine (V1 next fuel (k+1) _ _ ?_).trans ?_
   ·rw[List.length_eraseIdx_of_lt hlt]; omega
   ·rw[Array.toList_push,List.append_assoc]
    exact List.Perm.append_left _ (jO hlt)
theorem we {α:Type}(next:Nat->Nat) (xs:Array α):(pickOrder next xs).toList.Perm xs.toList:=by
 have:=V1 next xs.size 0 xs.toList #[] (by simp)
 simpa [pickOrder] using this
section
variable {prog:Program} {w:World} {A:Around} {E:Value->Shared->Prop} {s:Shared}
theorem zeg {es:Array (Int×Value)}(h:ElemsOf (intKind prog w) es.toList):∀ e∈es.toList,∃ n t,e.2=.int n t:=fun e he=>by
 obtain⟨⟨k,hk,_⟩,_⟩:=h e he
 obtain⟨t,ht⟩:=Value.isInt_shape hk
 exact⟨k,t,ht⟩
theorem kW {l:List Addr}{Q:Bool->Shared->Prop}(h:∀ b∈l,∃ S n,s.heap.SetOf (intKind prog w) b S n) (hQ:Q true s):wpAny (model prog w) A (setsQuiet l) Q E s:=by
 unfold setsQuiet
 refine wpAny_bind ?_
 refine wpAny_forIn_list _ (fun rest b s'=>b=(none,())/\s'=s/\∀ x∈rest,∃ S n,s.heap.SetOf (intKind prog w) x S n) _ ?_ ?_ l _ ⟨rfl,rfl,h⟩
 ·rintro a rest b s' ⟨rfl,rfl,hh⟩
  obtain⟨S,n,o,es,ep,t,ho,hex,hd,hel,hmem,hb,hf,hn⟩:=hh a List.mem_cons_self
  refine wpAny_bind (wpAny_setEntries_of ho hd hf ?_)
  refine wpAny_bind (wpAny_forIn_array' _ (fun (rest:List (Int×Value)) b s''=>b=(none,())/\s''=s'/\∀ e∈rest,∃ n t,e.2=.int n t) _ ?_ ?_ es _ ⟨rfl,rfl,zeg hel⟩)
  ·rintro⟨hh2,x⟩ rest b s'' ⟨rfl,rfl,hi⟩
   obtain⟨n,t,e⟩:=hi _ List.mem_cons_self
   dsimp only at e
   subst e
   exact wpAny_pure ⟨rfl,rfl,fun e he=>hi e (List.mem_cons_of_mem _ he)⟩
  ·rintro b s'' ⟨rfl,rfl,_⟩
   exact wpAny_pure ⟨rfl,rfl,fun x hx=>hh x (List.mem_cons_of_mem _ hx)⟩
 ·rintro b s' ⟨rfl,rfl,_⟩
  exact wpAny_pure hQ
theorem Jm {a:Addr}{o:Obj}{es:Array (Int×Value)}{ep:Nat}{t:SetTable}{Q':Array (Int×Value)->Shared->Prop}(ho:s.heap.get? a=some o) (hd:o.data=.set es ep t) (hf:t.fits es.size=true)
  (hc:(w.params.followText "set-order" ||(t.led&&t.plain)||decide (es.size<=1))=true) (hq:∀ es',es'.toList.Perm es.toList->Q' es' s):wpAny (model prog w) A (setWalk a) Q' E s:=by
 unfold setWalk setsByText
 refine wpAny_bind (wpAny_setState_of ho hd hf ?_)
 refine wpAny_bind (wpAny_bind (wpAny_askSetting (wpAny_pure ?_)))
 show wpAny _ _ (if w.params.followText "set-order" =true then _ else _) _ _ _
 by_cases hT:w.params.followText "set-order" =true
 ·rw[if_pos hT]
  exact wpAny_bind (wpAny_askSetting (wpAny_pure (hq _ (we _ _))))
 ·rw[if_neg hT]
  have hT':w.params.followText "set-order" =false:=by simpa using hT
  rw[hT',Bool.false_or,Bool.or_eq_true,Bool.and_eq_true,decide_eq_true_eq] at hc
  split
  ·rename_i hdr
   exfalso
   change (!t.plain&&decide (es.size>1))=true at hdr
   rw[Bool.and_eq_true,decide_eq_true_eq] at hdr
   rcases hc with ⟨_,hp⟩ | hz
   ·rw[hp] at hdr; exact absurd hdr.1 (by decide)
   ·omega
  ·show wpAny _ _ ((if (!t.led&&decide (es.size>1))=true then unsupported "set:maker-not-led" else pure PUnit.unit) >>= fun _=>pure es) _ _ _
   rw[if_neg]
   ·exact wpAny_bind (wpAny_pure (wpAny_pure (hq es (.refl _))))
   ·intro z
    rw[Bool.and_eq_true,decide_eq_true_eq] at z
    rcases hc with ⟨hl,_⟩ | hz
    ·rw[hl] at z; exact absurd z.1 (by decide)
    ·omega
theorem walk_of {a:Addr}{o:Obj}{es:Array (Int×Value)}{ep:Nat}{t:SetTable}{others:List Addr}{Q:Array (Int×Value)->Shared->Prop}(ho:s.heap.get? a=some o) (hd:o.data=.set es ep t) (hf:t.fits es.size=true)
  (hl:∀ b∈a::others,∃ S n,s.heap.SetOf (intKind prog w) b S n) (h:∀ es',es'.toList.Perm es.toList->Q es' s):wpAny (model prog w) A (setWalkUnseen a others none) Q E s:=by
 unfold setWalkUnseen setsByText
 refine wpAny_bind (wpAny_setState_of ho hd hf ?_)
 dsimp only
 refine wpAny_bind (wpAny_bind (wpAny_askSetting (wpAny_pure ?_)))
 show wpAny _ _ (if (w.params.followText "set-order" ||t.led&&t.plain||decide (es.size<=1))=true then _ else _) _ _ _
 split
 ·rename_i hc
  exact Jm ho hd hf hc h
 ·refine wpAny_bind (kW hl ?_)
  simp only[Bool.not_true,Bool.false_eq_true,if_false]
  exact wpAny_bind (wpAny_rule (wpAny_pure (h es (.refl _))))
theorem KP {a:Addr}{o:Obj}{es:Array (Int×Value)}{ep:Nat}{t:SetTable}{others:List Addr}{f:Option Addr}{Q:Array (Int×Value)->Shared->Prop}(ho:s.heap.get? a=some o) (hd:o.data=.set es ep t) (hf:t.fits es.size=true)
  (hN:Neat w t) (h:∀ es',es'.toList.Perm es.toList->Q es' s):wpAny (model prog w) A (setWalkUnseen a others f) Q E s:=by
 unfold setWalkUnseen setsByText
 refine wpAny_bind (wpAny_setState_of ho hd hf ?_)
 dsimp only
 refine wpAny_bind (wpAny_bind (wpAny_askSetting (wpAny_pure ?_)))
 have hc:(w.params.followText "set-order" ||t.led&&t.plain||decide (es.size<=1))=true:=by
  rcases hN.led with z | z
  ·rw[z]; rfl
  ·rw[z,hN.plain]; simp
 show wpAny _ _ (if (w.params.followText "set-order" ||t.led&&t.plain||decide (es.size<=1))=true then _ else _) _ _ _
 rw[if_pos hc]
 exact Jm ho hd hf hc h
inductive Keys (prog:Program) (w:World):List (Int×Value)->List Int->Prop
 | nil:Keys prog w [] []
 | cons {k:Int} {t:Tok} {es ks}:Keys prog w es ks->Keys prog w (((intKind prog w).hash k,.int k t)::es) (k::ks)
theorem keys_of:∀ {es:List (Int×Value)},ElemsOf (intKind prog w) es->∃ ks,Keys prog w es ks
 | [],_=>⟨[],.nil⟩
 | (hh,x)::es,h=>by
  obtain⟨⟨k,hk,e1⟩,_⟩:=h.head
  obtain⟨t,e2⟩:=Value.isInt_shape hk
  obtain⟨ks,hks⟩:=keys_of h.tail
  dsimp only at e1 e2
  subst e1 e2
  exact⟨k::ks,.cons hks⟩
theorem Keys.mem {es:List (Int×Value)}{ks:List Int}(h:Keys prog w es ks) (k:Int):(∃ e∈es,(intKind prog w).is k e.2=true)↔k∈ks:=by
 induction h with
 | nil=>simp
 | @cons k' t es ks _ ih=>
  constructor
  ·rintro⟨e,he,hk⟩
   rcases List.mem_cons.mp he with rfl | he
   ·have hk2:Value.isInt k (.int k' t)=true:=hk
    obtain⟨t2,e2⟩:=Value.isInt_shape hk2
    injection e2 with e3
    rw[<- e3]; exact List.mem_cons_self
   ·exact List.mem_cons_of_mem _ (ih.mp ⟨e,he,hk⟩)
  ·intro hk
   rcases List.mem_cons.mp hk with rfl | hk
   ·exact⟨_,List.mem_cons_self,intKind_is _ _ _ _⟩
   ·obtain⟨e,he,h2⟩:=ih.mpr hk
    exact⟨e,List.mem_cons_of_mem _ he,h2⟩
theorem Keys.length {es:List (Int×Value)}{ks:List Int}(h:Keys prog w es ks):es.length=ks.length:=by
 induction h with
 | nil=>rfl
 | cons _ ih=>simp[ih]
theorem Keys.perm {es es':List (Int×Value)}(p:es'.Perm es):∀ {ks},Keys prog w es ks->∃ ks',Keys prog w es' ks'/\ks'.Perm ks:=by
 induction p with
 | nil=>intro ks h; exact⟨ks,h,.refl _⟩
 | @cons x l1 l2 _ ih=>
  intro ks h
  cases h with
  | cons h=>
   obtain⟨ks',h1,h2⟩:=ih h
   exact⟨_,.cons h1,h2.cons _⟩
 | swap x y l=>
  intro ks h
  cases h with
  | cons h=>
   cases h with
   | cons h=>exact⟨_,.cons (.cons h),.swap _ _ _⟩
 | trans _ _ ih1 ih2=>
  intro ks h
  obtain⟨k2,h2,p2⟩:=ih2 h
  obtain⟨k1,h1,p1⟩:=ih1 h2
  exact⟨k1,h1,p1.trans p2⟩
theorem perm_of_sub:∀ {fm ks:List Int},fm.Nodup->(∀ x∈fm,x∈ks)->ks.length<=fm.length->ks.Perm fm
 | [],ks,_,_,h=>by
  have:ks= []:=List.length_eq_zero_iff.mp (by simpa using h)
  subst this; exact .refl _
 | x::fm,ks,nd,hs,hl=>by
  obtain⟨hx,nd⟩:=List.nodup_cons.mp nd
  have hm:=hs x (by simp)
  have p:=List.perm_cons_erase hm
  refine p.trans (List.Perm.cons x (perm_of_sub nd (fun y hy=>?_) ?_))
  ·exact (List.mem_erase_of_ne (fun e:y=x=>hx (e ▸ hy))).mpr (hs y (by simp[hy]))
  ·have:=p.length_eq
   simp at this hl
   omega
noncomputable def dedup (ks:List Int):List Int:=ks.foldl PyProof.Rows.step_dedup []
theorem vS (ks:List Int) (k:Int):dedup (ks++ [k])=PyProof.Rows.step_dedup (dedup ks) k:=by
 unfold dedup; rw[List.foldl_append]; rfl
theorem any_dedup (ks:List Int):∀ k,(dedup ks).any (·==k)=true↔k∈ks:=by
 suffices H:∀ (l acc:List Int) k,(l.foldl PyProof.Rows.step_dedup acc).any (·==k)=true↔(acc.any (·==k)=true∨k∈l) by
  intro k
  have:=H ks [] k
  simpa [dedup] using this
 intro l
 induction l with
 | nil=>intro acc k; simp
 | cons x l ih=>
  intro acc k
  rw[List.foldl_cons,ih,PyProof.Rows.step_any,Bool.or_eq_true,decide_eq_true_eq,List.mem_cons,or_assoc]
theorem nodup_dedup (ks:List Int):(dedup ks).Nodup:=by
 suffices H:∀ (l acc:List Int),acc.Nodup->(l.foldl PyProof.Rows.step_dedup acc).Nodup from H ks [] .nil
 intro l
 induction l with
 | nil=>intro acc h; exact h
 | cons x l ih=>
  intro acc h
  rw[List.foldl_cons]
  refine ih _ ?_
  unfold PyProof.Rows.step_dedup
  split
  ·exact h
  ·rename_i hx
   rw[List.nodup_append]
   refine⟨h,by simp,fun a ha b hb=>?_⟩
   have:b=x:=by simpa using hb
   subst this
   intro e
   subst e
   exact hx (by simp; exact ha)
theorem qw {h:Heap}{a:Addr}{S:Int->Bool}{n:Nat}(hS:s.heap.SetOf (intKind prog w) a S n):s.TypeIs (.ref a) "set" :=by
 obtain⟨o,es,ep,t,ho,hex,_⟩:=hS
 exact⟨o,ho,hex.1⟩
theorem qD {a:Addr}{S:Int->Bool}{n:Nat}{Q:Bool->Shared->Prop}(hS:s.heap.SetOf (intKind prog w) a S n) (h:Q true s):wpAny (model prog w) A (Builtin.Frozenset.isAnySet (.ref a)) Q E s:=by
 unfold Builtin.Frozenset.isAnySet
 simp only[orM]
 refine wpAny_bind (wpAny_isInstance (qw (h:=s.heap) hS) sub_set_self ?_)
 exact wpAny_pure h
theorem JK {a:Addr}{S:Int->Bool}{n:Nat}{Q:Value->Shared->Prop}(hS:s.heap.SetOf (intKind prog w) a S n) (h:Q (.type "set") s):wpAny (model prog w) A (Builtin.Frozenset.baseOf a) Q E s:=by
 unfold Builtin.Frozenset.baseOf
 exact wpAny_bind (wpAny_isInstance (qw (h:=s.heap) hS) sub_set_self (wpAny_pure h))
theorem jx {a:Addr}{S:Int->Bool}{n:Nat}{Q:Nat->Shared->Prop}(hS:s.heap.SetOf (intKind prog w) a S n) (h:Q n s):wpAny (model prog w) A (Builtin.Frozenset.sizeOf a) Q E s:=by
 obtain⟨o,es,ep,t,ho,hex,hd,hel,hmem,hb,hf,hn⟩:=hS
 unfold Builtin.Frozenset.sizeOf
 exact wpAny_bind (wpAny_setEntries_of ho hd hf (wpAny_pure (by rw[hn]; exact h)))
theorem vG {h h':Heap}{a r:Addr}{S:Int->Bool}{n:Nat}(hS:h.SetOf (intKind prog w) a S n) (e:Heap.SameBut r h h') (hne:a≠r):h'.SetOf (intKind prog w) a S n:=by
 obtain⟨o,es,ep,t,ho,rest⟩:=hS
 exact⟨o,es,ep,t,by rw[e.2 a hne]; exact ho,rest⟩
theorem zd2 {a o:Addr}{Sa So:Int->Bool}{na no:Nat}{nm:String}{Q:Value->Shared->Prop}(ha:NSet prog w s.heap a Sa na) (ho:s.heap.SetOf (intKind prog w) o So no) (hna:na<=60){r:Addr}
  (hr:GSet prog w s.heap r (fun _=>false) 0) (har:a≠r) (hor:o≠r)
  (h:∀ s' T n,Heap.SameBut r s.heap s'.heap->GSet prog w s'.heap r T n->(∀ k,T k=(Sa k&& !So k))->(∃ L:List Int,L.Nodup/\L.length=n/\∀ k,T k=true↔k∈L)->s'.gens=s.gens/\s'.os=s.os/\s'.drawn=s.drawn->Q (.ref r) s') :
  wpAny (model prog w) A (do
     let was<-setEpoch a
     holding [.ref r] do
       let __do_lift<-setWalkUnseen a [o,r] (some r)
       forIn __do_lift PUnit.unit fun x __s=>do
         holding [x.snd] do
           let __do_lift<-setFind o x.snd x.fst
           let there<-pure __do_lift.isSome
           if (!there)=true then do
             let _<-setAddHashed r x.snd x.fst
             pure ()
            else pure ()
         Builtin.Frozenset.unchanged nm a was
         pure (ForInStep.yield PUnit.unit)
       pure ()
     pure (.ref r)) Q E s:=by
 have ha0:=ha
 obtain⟨oa,ea,epa,ta,hoa,hexa,hda,hela,hmema,hba,hfa,hna',hNa⟩:=ha
 refine wpAny_bind (wpAny_setEpoch_of hoa hda hfa ?_)
 refine wpAny_bind (wpAny_holding ?_)
 refine wpAny_bind (KP hoa hda hfa hNa fun es' hp=>?_)
 ·obtain⟨ks0,hk0⟩:=keys_of hela
  obtain⟨ks,hks,hpk⟩:=hk0.perm hp
  have hlen:ks.length=na:=by rw[hpk.length_eq,<- hk0.length,<- hna']; simp
  refine wpAny_bind (wpAny_forIn_array' _ (fun (rest:List (Int×Value)) _ s'=>∃ done left,ks=done++left/\Keys prog w rest left/\Heap.SameBut r s.heap s'.heap /\
   GSet prog w s'.heap r (fun k=>(dedup (done.filter fun k=> !So k)).any (·==k)) (dedup (done.filter fun k=> !So k)).length/\s'.gens=s.gens/\s'.os=s.os/\s'.drawn=s.drawn) _ ?_ ?_ es' _ ⟨[],ks,rfl,hks,Heap.SameBut.refl _ _,hr,rfl,rfl,rfl⟩)
  ·rintro⟨hh,x⟩ rest u s' ⟨done,left,e1,hk,hs1,hS,g1,g2,g3⟩
   cases hk with
   | @cons k t _ left hk=>
    have hoo:=vG ho hs1 hor
    refine wpAny_bind (wpAny_holding ?_)
    refine wpAny_bind (wpAny_setFind_of (knd:=intKind prog w) (intKind_is _ _ _ _) rfl hoo fun rr hrr=>?_)
    have e2:ks=(done++ [k])++left:=by rw[e1]; simp
    have still:∀ (s'':Shared) {Q':PUnit->Shared->Prop},Heap.SameBut r s.heap s''.heap->Q' ⟨⟩ s''->wpAny (model prog w) A (Builtin.Frozenset.unchanged nm a epa) Q' E s'':=fun s'' Q' q1 q2=>by
     unfold Builtin.Frozenset.unchanged
     refine wpAny_bind (wpAny_setEpoch_of (by rw[q1.2 a har]; exact hoa) hda hfa ?_)
     simp only[bne_self_eq_false,Bool.false_eq_true,if_false]
     exact wpAny_pure q2
    refine wpAny_bind (wpAny_pure ?_)
    rw[hrr]
    cases hSo:So k with
    | true=>
     simp only[Bool.not_true,Bool.false_eq_true,if_false]
     refine wpAny_pure (wpAny_bind (still s' hs1 (wpAny_pure ⟨done++ [k],left,e2,hk,hs1,?_,g1,g2,g3⟩)))
     have ef:(done++ [k]).filter (fun k=> !So k)=done.filter fun k=> !So k:=by rw[List.filter_append]; simp[hSo]
     rw[ef]; exact hS
    | false=>
     simp only[Bool.not_false,if_true]
     have hdl:(dedup (done.filter fun k=> !So k)).length<=done.length:=by
      have h1:∀ (l acc:List Int),(l.foldl PyProof.Rows.step_dedup acc).length<=acc.length+l.length:=by
       intro l
       induction l with
       | nil=>intro acc; simp
       | cons x l ih=>
        intro acc
        rw[List.foldl_cons]
        refine Nat.le_trans (ih _) ?_
        rw[PyProof.Rows.step_length,List.length_cons]
        split <;> omega
      have h2:=h1 (done.filter fun k=> !So k) []
      have h3:=List.length_filter_le (fun k=> !So k) done
      simp only[List.length_nil,Nat.zero_add] at h2
      exact Nat.le_trans h2 h3
     have hks3:done.length+1<=na:=by rw[<- hlen,e2]; simp
     refine wpAny_bind (add_of hS (by omega) fun h2 hsb2 hS2=>?_)
     have q1:Heap.SameBut r s.heap h2:=hs1.trans hsb2
     refine wpAny_pure (wpAny_bind (still _ q1 (wpAny_pure ⟨done++ [k],left,e2,hk,q1,?_,g1,g2,g3⟩)))
     have ef:(done++ [k]).filter (fun k=> !So k)=(done.filter fun k=> !So k)++ [k]:=by rw[List.filter_append]; simp[hSo]
     rw[ef,vS]
     exact GSet.congr hS2 (fun k'=>by rw[PyProof.Rows.step_any]) (by rw[PyProof.Rows.step_length])
  ·rintro u s' ⟨done,left,e1,hk,hs1,hS,g1,g2,g3⟩
   cases hk
   rw[List.append_nil] at e1
   subst e1
   refine wpAny_pure (wpAny_pure (h s' _ _ hs1 hS (fun k=>?_) ?_ ⟨g1,g2,g3⟩))
   ·have h1:=any_dedup (ks.filter fun k=> !So k) k
    have h2:k∈ks↔Sa k=true:=by
     rw[hpk.mem_iff,<- hk0.mem k]
     exact (hmema k).symm
    rw[List.mem_filter,h2] at h1
    exact Bool.eq_iff_iff.mpr (h1.trans (by rw[Bool.and_eq_true]))
   ·refine⟨dedup (ks.filter fun k=> !So k),nodup_dedup _,rfl,fun k=>?_⟩
    rw[any_dedup,<- any_dedup]
    simp
end
end Tab
set_option maxHeartbeats 4000000
namespace Tab
open PySem PySem.SetTable
section
variable {prog:Program} {w:World} {A:Around} {E:Value->Shared->Prop} {s:Shared}
theorem wf {α:Type}:∀ (l:List α),(List.range l.length).filterMap (fun i=>l[i]?)=l
 | []=>rfl
 | x::l=>by
  rw[List.length_cons,List.range_succ_eq_map,List.filterMap_cons,List.filterMap_map]
  show x::_=_
  congr 1
  exact wf l
theorem v7 {α:Type}{es:Array α}{order:Array Nat}(h:order.toList.Perm (List.range es.size)):(order.filterMap (es[·]?)).toList.Perm es.toList:=by
 rw[Array.toList_filterMap]
 refine (h.filterMap _).trans ?_
 have:=wf es.toList
 simp only[Array.length_toList,Array.getElem?_toList] at this
 rw[this]
noncomputable def kY (n:Nat):Bool:=decide (n<5)||((sizeAbove (n*2)==16||sizeAbove (n*2)==32||sizeAbove (n*2)==64||sizeAbove (n*2)==128)&&decide (n<sizeAbove (n*2)))
theorem kZ:(List.range 61).all kY=true:=by decide +kernel
theorem zaS {n:Nat}(h5:5<=n) (hn:n<=60):jU (sizeAbove (n*2)-1)/\n<=sizeAbove (n*2)-1/\sizeAbove (n*2)<=128:=by
 have h:=List.all_eq_true.mp kZ n (List.mem_range.mpr (by omega))
 unfold kY at h
 simp only[Bool.or_eq_true,Bool.and_eq_true,decide_eq_true_eq,beq_iff_eq] at h
 rcases h with h | ⟨h,h2⟩
 ·omega
 ·rcases h with ((h | h) | h) | h
  ·rw[h] at h2 |-; exact⟨zct,by omega,by omega⟩
  ·rw[h] at h2 |-; exact⟨YU,by omega,by omega⟩
  ·rw[h] at h2 |-; exact⟨zcu,by omega,by omega⟩
  ·rw[h] at h2 |-; exact⟨VP,by omega,by omega⟩
structure Vy (h:Heap) (r:Addr) (o:Obj) (ep:Nat) (t:SetTable):Prop where
 get:h.get? r=some o
 ex:o.ExactSet
 dt:o.data=.set #[] ep t
 pl:t.place=#[]
 dm:t.dummies=#[]
theorem Vc {r:Addr}{o:Obj}{ep:Nat}{t:SetTable}{n:Nat}{Q:Unit->Shared->Prop}(e:Vy s.heap r o ep t) (hm:t.mask=7) (h4:4<=n) (hn:n<=60)
  (hN:Neat w t) (h:∀ h' o' ep' t',Heap.SameBut r s.heap h'->Vy h' r o' ep' t'->jU t'.mask->n<=t'.mask->Neat w t'->Q () { s with heap:=h' }):wpAny (model prog w) A (setRoomFor r n) Q E s:=by
 have hf:t.fits 0=true:=by unfold SetTable.fits SetTable.fill; rw[e.pl,e.dm]; simp
 have hsame:s={ s with heap:=s.heap }:=by cases s; rfl
 unfold setRoomFor
 refine wpAny_bind (wpAny_setState_of e.get e.dt hf ?_)
 dsimp only
 have hfill:t.fill=0:=by unfold SetTable.fill; rw[e.pl,e.dm]; rfl
 unfold SetTable.roomFor
 rw[hfill,hm,e.pl]
 by_cases h5:5<=n
 ·rw[if_pos (by omega)]
  obtain⟨r1,r2,r3⟩:=zaS h5 hn
  dsimp only
  unfold setRelay
  refine wpAny_bind (wpAny_setState_of e.get e.dt hf ?_)
  dsimp only
  have hz0:(#[]:Array Nat).size+n=n:=by simp
  rw[hz0,if_neg (by have:sizeLine=16777216:=rfl; omega)]
  obtain⟨t',order,el,hp,hps,hdm,hmk,_,_⟩:=wS (finger:=t.finger) (moves:=t.movedTo (sizeAbove (n*2)-1)) (led:=t.led) (plain:=true) r1 (Array.map (fun x:Int×Value=>x.fst) #[]) (by simp)
  have el':t.relaid (Array.map (fun x:Int×Value=>x.fst) #[]) (n*2)=some (t',order):=by unfold SetTable.relaid; rw[hN.plain]; exact el
  rw[el']
  have ho:order=#[]:=by
   have:=hp.length_eq
   simp at this
   exact this
  subst ho
  have hpl:t'.place=#[]:=by simpa using hps
  refine wpAny_bind (m:=_) ?_
  show wpAny _ _ (pure ((#[]:Array (Int×Value)),t')) _ _ _
  refine wpAny_pure ?_
  have hf':t'.fits 0=true:=by unfold SetTable.fits SetTable.fill; rw[hpl,hdm]; simp
  have hg:(s.heap.update r (Obj.putSet #[] t')).get? r=some { o with data:=.set #[] (ep+1) t' }:=by
   have:=Heap.get?_update_self (Obj.putSet #[] t') e.get (by rw[putSet_of #[] t' e.dt]; rfl)
   rw[putSet_of #[] t' e.dt] at this; exact this
  refine wpAny_storeSet_of e.get e.dt (h _ _ (ep+1) t' (Heap.SameBut.update _ r _) ⟨hg,e.ex,rfl,hpl,hdm⟩ (by rw[hmk]; exact r1) (by rw[hmk]; exact r2) (ZH hN.led el)) (by simp)
 ·rw[if_neg (by omega)]
  refine wpAny_pure ?_
  rw[hsame]
  exact h s.heap o ep t (Heap.SameBut.refl _ _) e (by rw[hm]; exact zbM) (by omega) hN
theorem kl {a r:Addr}{o:Obj}{ep:Nat}{t:SetTable}{oa:Obj}{ea:Array (Int×Value)}{epa:Nat}{ta:SetTable}{Q:Unit->Shared->Prop}(har:a≠r) (e:Vy s.heap r o ep t) (hm:t.mask=7)
    (hoa:s.heap.get? a=some oa) (hda:oa.data=.set ea epa ta) (hfa:ta.fits ea.size=true) (h4:4<=ea.size) (hn:ea.size<=60) (hN:Neat w t) (hNa:Neat w ta)
    (h:∀ h' o' es' ep' t',Heap.SameBut r s.heap h'->h'.get? r=some o'->o'.ExactSet->o'.data=.set es' ep' t'->es'.toList.Perm ea.toList->t'.fits es'.size=true->t'.dummies=#[]->ea.size<=t'.mask->Neat w t'->Q () { s with heap:=h' }):wpAny (model prog w) A (setMerge r a) Q E s:=by
  unfold setMerge
  rw[if_neg (by simpa using Ne.symm har)]
  refine wpAny_bind (wpAny_setState_of hoa hda hfa ?_)
  dsimp only
  rw [if_neg (fun z => by have h0 : ea.size = 0 := (by simpa using z : ea = #[]) ▸ rfl
                          omega)]
  refine wpAny_bind (Vc e hm h4 hn hN fun h' o' ep' t' hsb e' hfull hle hN'=>?_)
  have hf':t'.fits 0=true:=by unfold SetTable.fits SetTable.fill; rw[e'.pl,e'.dm]; simp
  refine wpAny_bind (wpAny_setState_of e'.get e'.dt hf' ?_)
  dsimp only
  have hfill:t'.fill=0:=by unfold SetTable.fill; rw[e'.pl,e'.dm]; rfl
  have hsz:ea.size<=sizeLine:=by have:sizeLine=16777216:=rfl; omega
  have fin:∀ (es2:Array (Int×Value)) (t2:SetTable),es2.toList.Perm ea.toList->t2.fits es2.size=true->t2.dummies=#[]->ea.size<=t2.mask->Neat w t2->wpAny (model prog w) A (storeSet r es2 t2) Q E { s with heap:=h' }:=fun es2 t2 hp hf2 hd2 hm2 hN2=>by
    have hs2:es2.size=ea.size:=by have:=hp.length_eq; simpa using this
    have hg:(h'.update r (Obj.putSet es2 t2)).get? r=some { o' with data:=.set es2 (ep'+1) t2 }:=by
      have:=Heap.get?_update_self (Obj.putSet es2 t2) e'.get (by rw[putSet_of es2 t2 e'.dt]; rfl)
      rw[putSet_of es2 t2 e'.dt] at this; exact this
    exact wpAny_storeSet_of (s:={ s with heap:=h' }) e'.get e'.dt (h _ _ es2 (ep'+1) t2 (hsb.trans (Heap.SameBut.update _ r _)) hg e'.ex rfl hp hf2 hd2 hm2 hN2) (by omega)
  unfold SetTable.road
  rw[hfill]
  simp only[bne_self_eq_false,Bool.false_eq_true,if_false]
  have hfa':=hfa
  unfold SetTable.fits SetTable.fill at hfa'
  rw[Bool.and_eq_true,beq_iff_eq,decide_eq_true_eq] at hfa'
  by_cases hc:(t'.mask==ta.mask&&ta.dummies.isEmpty)=true
  · rw [if_pos hc]
    rw[Bool.and_eq_true,beq_iff_eq] at hc
    have hdm:ta.dummies=#[]:=by simpa using hc.2
    have hled:w.params.followText "set-order" =true∨(t'.led&&ta.led)=true:=hN'.led.elim .inl fun a=>hNa.led.elim .inl fun b=>.inr (by rw[a,b]; rfl)
    refine fin ea _ (.refl _) ?_ hdm ?_ ⟨hled,by show (t'.plain&&ta.plain)=true; rw[hN'.plain,hNa.plain]; rfl,hNa.up⟩
    · unfold SetTable.fits SetTable.fill at hfa |-; exact hfa
    · show ea.size ≤ ta.mask
      omega
  · rw [if_neg hc]
    dsimp only
    obtain⟨t2,order,el,hp,hps,hdm,hmk,_,_⟩:=wS (finger:=t'.finger) (moves:=t'.moves) (led:=t'.led&&ta.led) (plain:=true) hfull (ea.map (·.1)) (by rw[Array.size_map]; exact hle)
    rw[Array.size_map] at hp hps
    rw[hN'.plain,hNa.plain,Bool.and_self,el]
    have hop:=v7 (es:=ea) hp
    have hos:(order.filterMap (ea[·]?)).size=ea.size:=by rw[<- Array.length_toList,hop.length_eq,Array.length_toList]
    refine wpAny_bind (m:=_) ?_
    show wpAny _ _ (if ((order.filterMap (ea[·]?)).size !=ea.size)=true then _ else pure (order.filterMap (ea[·]?),t2)) _ _ _
    rw[if_neg (by rw[hos]; simp)]
    refine wpAny_pure (fin _ t2 hop ?_ hdm (by rw[hmk]; exact hle) (ZH (hN'.led.elim .inl fun a=>hNa.led.elim .inl fun b=>.inr (by rw[a,b]; rfl)) el))
    unfold SetTable.fits SetTable.fill
    rw[hdm,hps,hos,hmk]
    simp
    exact hle
theorem QZ {α:Type}{es:Array α}{i:Nat}(h:i<es.size):(eraseAt es i).size+1=es.size:=by
 rw[<- Array.length_toList,qX,List.length_eraseIdx_of_lt (by simpa using h)]
 simp; omega
theorem WN {α:Type}(xs:Array α) (p:Nat) (x:α) (h:p<=xs.size):(insertAt xs p x).size=xs.size+1:=by
 unfold insertAt
 simp
 omega
structure Has (prog:Program) (w:World) (h:Heap) (r:Addr) (ks:List Int) (d m:Nat) (o:Obj) (es:Array (Int×Value)) (ep:Nat) (t:SetTable):Prop where
 get:h.get? r=some o
 ex:o.ExactSet
 dt:o.data=.set es ep t
 el:ElemsOf (intKind prog w) es.toList
 key:Keys prog w es.toList ks
 nd:ks.Nodup
 fits:t.fits es.size=true
 dm:t.dummies.size<=d
 mke:m<=t.mask
 sm:es.size<scanBound
 neat:Neat w t
theorem Has.setOf {h:Heap}{r:Addr}{ks:List Int}{d m:Nat}{o:Obj}{es:Array (Int×Value)}{ep:Nat}{t:SetTable}(x:Has prog w h r ks d m o es ep t):NSet prog w h r (fun k=>decide (k∈ks)) ks.length :=
 ⟨o,es,ep,t,x.get,x.ex,x.dt,x.el,fun k=>by rw[decide_eq_true_eq]; exact (x.key.mem k).symm,x.sm,x.fits,by rw[<- x.key.length]; simp,x.neat⟩
theorem Keys.eraseIdx:∀ {es:List (Int×Value)}{ks:List Int}(i:Nat),Keys prog w es ks->Keys prog w (es.eraseIdx i) (ks.eraseIdx i)
 | _,_,i,.nil=>by simp; exact .nil
 | _,_,0,.cons h=>h
 | _,_,i+1,.cons h=>.cons (h.eraseIdx i)
theorem Keys.find:∀ {es:List (Int×Value)}{ks:List Int}{i:Nat}{k:Int},Keys prog w es ks->es.findIdx? (fun e=>(intKind prog w).is k e.2)=some i->ks[i]?=some k:=by
 intro es ks i k h e
 obtain⟨hi,hp,_⟩:=List.findIdx?_eq_some_iff_getElem.mp e
 have H:∀ {es:List (Int×Value)} {ks:List Int} (i:Nat) (hi:i<es.length),Keys prog w es ks->(intKind prog w).is k es[i].2=true->ks[i]?=some k:=by
  intro es ks i hi h
  induction h generalizing i with
  | nil=>simp at hi
  | @cons k' t es ks h ih=>
   intro hk
   cases i with
   | zero=>
    have hk2:Value.isInt k (.int k' t)=true:=hk
    obtain⟨t2,e2⟩:=Value.isInt_shape hk2
    injection e2 with e3
    rw[e3]; rfl
   | succ i=>exact ih i (by simpa using hi) hk
 exact H i hi h hp
theorem vT {r:Addr}{ks:List Int}{d m:Nat}{o:Obj}{es:Array (Int×Value)}{ep:Nat}{t:SetTable}{k:Int}{tok:Tok}{Q:Bool->Shared->Prop}(x:Has prog w s.heap r ks d m o es ep t)
  (h:∀ h' o' es' ep' t' ks' b,Heap.SameBut r s.heap h'->Has prog w h' r ks' (d+1) m o' es' ep' t'->(∀ k',k'∈ks'↔(k'∈ks/\k'≠k))->Q b { s with heap:=h' }):wpAny (model prog w) A (setDiscardHashed r (.int k tok) ((intKind prog w).hash k)) Q E s:=by
 have hsame:s={ s with heap:=s.heap }:=by cases s; rfl
 unfold setDiscardHashed setFind setFindIn
 refine wpAny_bind (wpAny_bind (wpAny_setState_of x.get x.dt x.fits ?_))
 dsimp only
 rw[byScan_of (knd:=intKind prog w) rfl x.sm x.el]
 simp only[↓reduceIte]
 refine wpAny_bind (wpAny_rule ?_)
 refine wpAny_bind (wpAny_setScan_of (knd:=intKind prog w) (intKind_is _ _ _ _) x.get x.dt x.fits x.el ?_)
 cases hr:List.findIdx? (fun e=>(intKind prog w).is k e.2) es.toList with
 | none=>
  dsimp only
  refine wpAny_pure (wpAny_pure ?_)
  rw[hsame]
  refine h s.heap o es ep t ks false (Heap.SameBut.refl _ _) ⟨x.get,x.ex,x.dt,x.el,x.key,x.nd,x.fits,Nat.le_succ_of_le x.dm,x.mke,x.sm,x.neat⟩ fun k'=>⟨fun hk=>⟨hk,fun e=>?_⟩,fun hk=>hk.1⟩
  subst e
  obtain⟨e1,he,hp⟩:=(x.key.mem k').mpr hk
  have:=List.findIdx?_eq_none_iff.mp hr e1 he
  rw[hp] at this; cases this
 | some i=>
  dsimp only
  rw[Nat.zero_add]
  refine wpAny_pure ?_
  dsimp only
  have hki:=x.key.find hr
  have hi:i<es.size:=by
   obtain⟨hi,_⟩:=List.findIdx?_eq_some_iff_getElem.mp hr
   simpa using hi
  refine wpAny_bind (wpAny_setState_of x.get x.dt x.fits ?_)
  dsimp only
  have hfit:=x.fits
  unfold SetTable.fits SetTable.fill at hfit
  rw[Bool.and_eq_true,beq_iff_eq,decide_eq_true_eq] at hfit
  have hpi:t.place[i]?=some t.place[i]:=Array.getElem?_eq_getElem (by omega)
  have hdrop:t.drop i={ t with place:=eraseAt t.place i,dummies:=insertAt t.dummies (below t.dummies t.place[i]) t.place[i] }:=by
   unfold SetTable.drop; rw[hpi]
  have hes:=QZ hi
  have hpl:=QZ (es:=t.place) (i:=i) (by omega)
  have hdm:=WN t.dummies (below t.dummies t.place[i]) t.place[i] (jh _ _)
  have hfit2:(t.drop i).fits (eraseAt es i).size=true:=by
   rw[hdrop]
   unfold SetTable.fits SetTable.fill
   rw[Bool.and_eq_true,beq_iff_eq,decide_eq_true_eq]
   dsimp only
   constructor <;> omega
  have hg:(s.heap.update r (Obj.putSet (eraseAt es i) (t.drop i))).get? r=some { o with data:=.set (eraseAt es i) (ep+1) (t.drop i) }:=by
   have:=Heap.get?_update_self (Obj.putSet (eraseAt es i) (t.drop i)) x.get (by rw[putSet_of (eraseAt es i) (t.drop i) x.dt]; rfl)
   rw[putSet_of (eraseAt es i) (t.drop i) x.dt] at this; exact this
  have hkl:i<ks.length:=by rw[<- x.key.length]; simpa using hi
  have hkk:ks[i]=k:=by rw[List.getElem?_eq_getElem hkl] at hki; exact Option.some.inj hki
  have hpm:=jO hkl
  have hnd:(k::ks.eraseIdx i).Nodup:=by rw[<- hkk]; exact (hpm.nodup_iff).mpr x.nd
  refine wpAny_bind (wpAny_storeSet_of x.get x.dt ?_ (by have:=fits_of_scanBound x.sm; omega))
  refine wpAny_bind (wpAny_point ?_)
  refine wpAny_pure (h _ _ (eraseAt es i) (ep+1) (t.drop i) (ks.eraseIdx i) true (Heap.SameBut.update _ r _) ⟨hg,x.ex,rfl,?_,?_,(List.nodup_cons.mp hnd).2,hfit2,?_,?_,by have:=x.sm; omega,x.neat.drop i⟩ fun k'=>?_)
  ·rw[qX]; exact fun e he=>x.el e (List.mem_of_mem_eraseIdx he)
  ·rw[qX]; exact x.key.eraseIdx i
  ·rw[hdrop]; show (insertAt _ _ _).size<=_; have:=x.dm; omega
  ·rw[hdrop]; exact x.mke
  ·have h1:k'∈ks↔k'∈k::ks.eraseIdx i:=by rw[<- hkk]; exact (hpm.mem_iff).symm
   rw[h1,List.mem_cons]
   constructor
   ·intro hk
    exact⟨.inr hk,fun e=>(List.nodup_cons.mp hnd).1 (e ▸ hk)⟩
   ·rintro⟨hk | hk,hne⟩
    ·exact absurd hk hne
    ·exact hk
end
end Tab
set_option maxHeartbeats 4000000
namespace Tab
open PySem PySem.SetTable
section
variable {prog:Program} {w:World} {A:Around} {E:Value->Shared->Prop} {s:Shared}
theorem zbo {r:Addr}{ks:List Int}{d m:Nat}{o:Obj}{es:Array (Int×Value)}{ep:Nat}{t:SetTable}{Q:Unit->Shared->Prop}(x:Has prog w s.heap r ks d m o es ep t) (hd:d<=m / 4) (h:Q () s):wpAny (model prog w) A (setTidy r) Q E s:=by
 unfold setTidy
 refine wpAny_bind (wpAny_setState_of x.get x.dt x.fits ?_)
 dsimp only
 unfold SetTable.tooManyDummies
 have h1:=x.dm
 have h2:m / 4<=t.mask / 4:=Nat.div_le_div_right x.mke
 rw[if_neg (by simp; omega)]
 exact wpAny_pure h
theorem Yl {o r:Addr}{So:Int->Bool}{no m:Nat}{ks:List Int}{d:Nat}{ob:Obj}{es:Array (Int×Value)}{ep:Nat}{t:SetTable}{nm:String}{Q:Unit->Shared->Prop}(ho:s.heap.SetOf (intKind prog w) o So no) (x:Has prog w s.heap r ks 0 m ob es ep t) (hor:o≠r) (hlt:no<ks.length / 4) (hm:ks.length<=m)
  (h:∀ s' ob' es' ep' t' ks',Heap.SameBut r s.heap s'.heap->Has prog w s'.heap r ks' no m ob' es' ep' t'->(∀ k,k∈ks'↔(k∈ks/\So k=false))->s'.gens=s.gens/\s'.os=s.os/\s'.drawn=s.drawn->Q () s'):wpAny (model prog w) A (Builtin.Frozenset.differenceUpdate nm r (.ref o)) Q E s:=by
 unfold Builtin.Frozenset.differenceUpdate
 rw[if_neg (by simp; exact hor)]
 refine wpAny_bind (qD ho ?_)
 simp only[if_true]
 refine wpAny_bind (wpAny_pure ?_)
 refine wpAny_bind (jx ho ?_)
 refine wpAny_bind (jx x.setOf.setOf ?_)
 rw[if_neg (by omega)]
 have ho0:=ho
 obtain⟨oo,eo,epo,to,hoo,hexo,hdo,helo,hmemo,hbo,hfo,hno⟩:=ho0
 refine wpAny_bind (wpAny_setEpoch_of hoo hdo hfo ?_)
 refine wpAny_bind (wpAny_holding ?_)
 refine wpAny_bind (walk_of hoo hdo hfo (fun b hb=>?_) fun es' hp=>?_)
 ·have:b=o∨b=r:=by simpa using hb
  rcases this with rfl | rfl
  ·exact⟨_,_,ho⟩
  ·exact⟨_,_,x.setOf.setOf⟩
 ·obtain⟨ko0,hk0⟩:=keys_of helo
  obtain⟨ko,hko,hpk⟩:=hk0.perm hp
  have hlen:ko.length=no:=by rw[hpk.length_eq,<- hk0.length,<- hno]; simp
  refine wpAny_bind (wpAny_forIn_array' _ (fun (rest:List (Int×Value)) _ s'=>∃ done left ob' es' ep' t' ks',ko=done++left/\Keys prog w rest left/\Heap.SameBut r s.heap s'.heap /\
   Has prog w s'.heap r ks' done.length m ob' es' ep' t'/\(∀ k,k∈ks'↔(k∈ks/\k∉done))/\s'.gens=s.gens/\s'.os=s.os/\s'.drawn=s.drawn) _ ?_ ?_ es' _ ⟨[],ko,_,_,_,_,ks,rfl,hko,Heap.SameBut.refl _ _,x,fun k=>by simp,rfl,rfl,rfl⟩)
  ·rintro⟨hh,y⟩ rest u s' ⟨done,left,ob',es2,ep',t',ks',e1,hk,hs1,hx,hmem,g1,g2,g3⟩
   cases hk with
   | @cons k tk _ left hk=>
    have e2:ko=(done++ [k])++left:=by rw[e1]; simp
    refine wpAny_bind (wpAny_holding (vT hx fun h2 o2 es3 ep3 t3 ks3 b hsb hx3 hm3=>?_))
    have q1:Heap.SameBut r s.heap h2:=hs1.trans hsb
    have still:∀ {Q':PUnit->Shared->Prop},Q' ⟨⟩ { s' with heap:=h2 }->wpAny (model prog w) A (Builtin.Frozenset.unchanged nm o epo) Q' E { s' with heap:=h2 }:=fun {Q'} q2=>by
     unfold Builtin.Frozenset.unchanged
     refine wpAny_bind (wpAny_setEpoch_of (s:={ s' with heap:=h2 }) (by show h2.get? o=_; rw[q1.2 o hor]; exact hoo) hdo hfo ?_)
     simp only[bne_self_eq_false,Bool.false_eq_true,if_false]
     exact wpAny_pure q2
    refine wpAny_bind (still (wpAny_pure ⟨done++ [k],left,_,_,_,_,ks3,e2,hk,q1,by rw[List.length_append]; exact hx3,fun k'=>?_,g1,g2,g3⟩))
    rw[hm3,hmem,List.mem_append,List.mem_singleton]
    constructor
    ·rintro⟨⟨h1,h2⟩,h3⟩
     exact⟨h1,fun z=>z.elim h2 h3⟩
    ·rintro⟨h1,h2⟩
     exact⟨⟨h1,fun z=>h2 (.inl z)⟩,fun z=>h2 (.inr z)⟩
  ·rintro u s' ⟨done,left,ob',es2,ep',t',ks',e1,hk,hs1,hx,hmem,g1,g2,g3⟩
   cases hk
   rw[List.append_nil] at e1
   subst e1
   refine wpAny_pure ?_
   rw[hlen] at hx
   refine zbo hx ?_ (h s' ob' es2 ep' t' ks' hs1 hx (fun k=>?_) ⟨g1,g2,g3⟩)
   ·have:ks.length / 4<=m / 4:=Nat.div_le_div_right hm
    omega
   ·rw[hmem]
    have h2:k∈ko↔So k=true:=by
     rw[hpk.mem_iff,<- hk0.mem k]
     exact (hmemo k).symm
    rw[h2]
    simp
theorem zaj {a o:Addr}{Sa So:Int->Bool}{na no:Nat}{ka:List Int}{nm:String}{Q:Value->Shared->Prop}(ha:NSet prog w s.heap a Sa na) (ho:s.heap.SetOf (intKind prog w) o So no) (hka:ka.Nodup) (hkm:∀ k,Sa k=true↔k∈ka) (hkl:ka.length=na) (hna:na<=60)
  (h:∀ s' T n,(∀ b ob,s.heap.get? b=some ob->s'.heap.get? b=some ob)->s.heap.objs.size<s'.heap.objs.size->NSet prog w s'.heap s.heap.objs.size T n->(∀ k,T k=(Sa k&& !So k))->(∃ L:List Int,L.Nodup/\L.length=n/\∀ k,T k=true↔k∈L)->s'.gens=s.gens/\s'.os=s.os/\s'.drawn=s.drawn->Q (.ref s.heap.objs.size) s') :
  wpAny (model prog w) A (Builtin.Frozenset.difference nm a (.ref o)) Q E s:=by
 have hlt:∀ {b:Addr} {S:Int->Bool} {n:Nat},s.heap.SetOf (intKind prog w) b S n->b<s.heap.objs.size:=fun {b S n} hS=>by
  obtain⟨ob,_,_,_,hg,_⟩:=hS
  exact Heap.lt_size hg
 have har:a≠s.heap.objs.size:=Nat.ne_of_lt (hlt ha.setOf)
 have hor:o≠s.heap.objs.size:=Nat.ne_of_lt (hlt ho)
 unfold Builtin.Frozenset.difference
 dsimp only
 refine wpAny_bind (qD ho ?_)
 simp only[Bool.not_true,Bool.false_eq_true,if_false,if_true,Bool.false_and]
 refine wpAny_bind (wpAny_pure ?_)
 refine wpAny_bind (jx ho ?_)
 refine wpAny_bind (jx ha.setOf ?_)
 by_cases hbig:na / 4>no
 ·rw[if_pos hbig]
  refine wpAny_bind (wpAny_rule ?_)
  unfold Builtin.Frozenset.copyOf
  refine wpAny_bind (wpAny_bind (JK ha.setOf ?_))
  refine wpAny_bind (wa ?_)
  refine wpAny_bind (wpAny_pure ?_)
  obtain⟨oa,ea,epa,ta,hoa,hexa,hda,hela,hmema,hba,hfa,hna',hNa⟩:=ha
  have hgr:(s.heap.push (freshS w)).get? s.heap.objs.size=some (freshS w):=Heap.get?_push_size _ rfl
  have hem:Vy (s.heap.push (freshS w)) s.heap.objs.size (freshS w) 0 (.fresh 0 0 (!w.params.followText "set-order")):=⟨hgr,⟨rfl,rfl,rfl⟩,rfl,rfl,rfl⟩
  refine wpAny_bind (kl (s:={ s with heap:=s.heap.push (freshS w) }) har hem rfl (Heap.get?_push_of_some _ hoa) hda hfa (by omega) (by omega) (Q5 w) hNa fun h' o' es' ep' t' hsb hg' hex' hd' hp' hf' hdm' hmk' hN'=>?_)
  refine wpAny_pure ?_
  obtain⟨k0,hk0⟩:=keys_of hela
  obtain⟨kk,hkk,hpk⟩:=hk0.perm hp'
  have hkkl:kk.length=na:=by rw[hpk.length_eq,<- hk0.length,<- hna']; simp
  have hkmem:∀ k,k∈kk↔Sa k=true:=fun k=>by rw[hpk.mem_iff,<- hk0.mem k]; exact (hmema k).symm
  have hnd:kk.Nodup:=(perm_of_sub hka (fun y hy=>(hkmem y).mpr ((hkm y).mpr hy)) (by omega)).nodup_iff.mpr hka
  have hes':es'.size=ea.size:=by rw[<- Array.length_toList,hp'.length_eq,Array.length_toList]
  have hHas:Has prog w h' s.heap.objs.size kk 0 na o' es' ep' t':=⟨hg',hex',hd',hela.perm hp',hkk,hnd,hf',by rw[hdm']; simp,by omega,by omega,hN'⟩
  have hoo:h'.SetOf (intKind prog w) o So no:=by
   obtain⟨ob,e1,e2,e3,hg,rest⟩:=ho
   exact⟨ob,e1,e2,e3,by rw[hsb.2 o hor]; exact Heap.get?_push_of_some _ hg,rest⟩
  refine wpAny_bind (wpAny_pure ?_)
  refine wpAny_bind (wpAny_holding (Yl (s:={ s with heap:=h' }) (d:=0) hoo hHas hor (by omega) (by omega) fun s' ob2 es2 ep2 t2 ks2 hsb2 hx2 hm2 hg2=>?_))
  refine wpAny_pure (h s' (fun k=>decide (k∈ks2)) ks2.length (fun b ob hb=>?_) ?_ hx2.setOf (fun k=>?_) ?_ hg2)
  ·have hne:b≠s.heap.objs.size:=Nat.ne_of_lt (Heap.lt_size hb)
   rw[hsb2.2 b hne]
   show h'.get? b=some ob
   rw[hsb.2 b hne]
   exact Heap.get?_push_of_some _ hb
  ·have:=Heap.lt_size hx2.get
   exact this
  ·have h1:=hm2 k
   rw[hkmem] at h1
   apply Bool.eq_iff_iff.mpr
   rw[decide_eq_true_eq,h1]
   simp
  ·exact⟨ks2,hx2.nd,rfl,fun k=>by rw[decide_eq_true_eq]⟩
 ·rw[if_neg hbig]
  refine wpAny_bind (JK ha.setOf ?_)
  refine wpAny_bind (wa ?_)
  refine wpAny_bind (wpAny_pure ?_)
  have hr:GSet prog w (s.heap.push (freshS w)) s.heap.objs.size (fun _=>false) 0:=fresh_set (Heap.get?_push_size _ rfl)
  have up:∀ {b:Addr} {S:Int->Bool} {n:Nat},s.heap.SetOf (intKind prog w) b S n->(s.heap.push (freshS w)).SetOf (intKind prog w) b S n:=fun {b S n} hS=>by
   obtain⟨ob,e1,e2,e3,hg,rest⟩:=hS
   exact⟨ob,e1,e2,e3,Heap.get?_push_of_some _ hg,rest⟩
  refine zd2 (s:={ s with heap:=s.heap.push (freshS w) }) (ha.same fun o e=>Heap.get?_push_of_some _ e) (up ho) hna hr har hor fun s' T n hsb hS hT hz hg=>?_
  refine h s' T n (fun b ob hb=>?_) ?_ hS.nset hT hz hg
  ·have hne:b≠s.heap.objs.size:=Nat.ne_of_lt (Heap.lt_size hb)
   rw[hsb.2 b hne]
   exact Heap.get?_push_of_some _ hb
  ·obtain⟨_,_,_,_,hg,_⟩:=hS
   exact Heap.lt_size hg
end
end Tab
set_option maxHeartbeats 4000000
namespace Tab
open PySem PySem.SetTable
section
variable {prog:Program} {w:World} {A:Around} {E:Value->Shared->Prop} {s:Shared}
theorem Kr {a o:Addr}{Sa So:Int->Bool}{na no:Nat}{ka:List Int}{Q:PySem.Fin->Shared->Prop}(ha:NSet prog w s.heap a Sa na) (ho:s.heap.SetOf (intKind prog w) o So no) (hka:ka.Nodup) (hkm:∀ k,Sa k=true↔k∈ka) (hkl:ka.length=na) (hna:na<=60)
  (h:∀ s' T n,(∀ b ob,s.heap.get? b=some ob->s'.heap.get? b=some ob)->s.heap.objs.size<s'.heap.objs.size->NSet prog w s'.heap s.heap.objs.size T n->(∀ k,T k=(Sa k&& !So k))->(∃ L:List Int,L.Nodup/\L.length=n/\∀ k,T k=true↔k∈L)->s'.gens=s.gens/\s'.os=s.os/\s'.drawn=s.drawn->Q (.done (.ret (.ref s.heap.objs.size))) s') :
  wpAny (model prog w) A (Builtin.«frozenset.__sub__» ⟨[.ref a,.ref o],[]⟩) Q E s:=by
 unfold Builtin.«frozenset.__sub__»
 refine wpAny_bind (m:=Builtin.Frozenset.slot1 "__sub__" ⟨[.ref a,.ref o],[]⟩) ?_
 unfold Builtin.Frozenset.slot1
 refine wpAny_bind (m:=slotArgs "__sub__" 1 ⟨[.ref a,.ref o],[]⟩) (wpAny_pure ?_)
 refine wpAny_pure ?_
 dsimp only
 simp only[Bool.false_eq_true,if_false,andM]
 refine wpAny_bind (wpAny_bind (qD ha.setOf ?_))
 refine qD ho ?_
 simp only[Bool.not_true,Bool.false_eq_true,if_false]
 refine wpAny_bind (wpAny_pure ?_)
 refine wpAny_bind (zaj ha ho hka hkm hkl hna fun s' T n h1 h2 h3 h4 h5 h6=>?_)
 exact wpAny_pure (h s' T n h1 h2 h3 h4 h5 h6)
theorem Jz:entryFor table "set.__sub__" =some Builtin.«frozenset.__sub__» :=
 entryFor_alias (id':= "frozenset.__sub__") (by kernel_rfl) rfl (by decide +kernel) (by kernel_rfl)
theorem sub_sets {a o:Addr}{Sa So:Int->Bool}{na no:Nat}{ka:List Int}{Q:Value->Shared->Prop}(ha:NSet prog w s.heap a Sa na) (ho:s.heap.SetOf (intKind prog w) o So no) (hka:ka.Nodup) (hkm:∀ k,Sa k=true↔k∈ka) (hkl:ka.length=na) (hna:na<=60)
  (h:∀ s' T n,(∀ b ob,s.heap.get? b=some ob->s'.heap.get? b=some ob)->s.heap.objs.size<s'.heap.objs.size->NSet prog w s'.heap s.heap.objs.size T n->(∀ k,T k=(Sa k&& !So k))->(∃ L:List Int,L.Nodup/\L.length=n/\∀ k,T k=true↔k∈L)->s'.gens=s.gens/\s'.os=s.os/\s'.drawn=s.drawn->Q (.ref s.heap.objs.size) s') :
  wpAny (model prog w) A (binaryOp .Sub (.ref a) (.ref o)) Q E s :=
 wpAny_binaryOp_same (qw (h:=s.heap) ha.setOf) (qw (h:=s.heap) ho) PySem.F.fills_set_sub PySem.F.slot_set_sub
  (wpAny_call_entry PySem.F.slot_set_sub (qw (h:=s.heap) ha.setOf) Jz (Kr ha ho hka hkm hkl hna fun s' T n h1 h2 h3 h4 h5 h6=>⟨_,rfl,(fun z=>nomatch z),h s' T n h1 h2 h3 h4 h5 h6⟩) (PySem.F.args_set_sub_2 _ _))
end
end Tab
set_option maxHeartbeats 4000000
namespace L2
open PySem PySem.Spec PyProof.Rows
variable [Cs]
theorem vV (ns:List Int):(List.range ns.length).map (fun i=>ns.getD i 0)=ns:=by
 apply List.ext_getElem
 ·simp
 ·intro i h1 h2
  simp at h1
  simp[h1]
theorem Q4 (ns:List Int):firstMet (fun i=>ns.getD i 0) ns.length=Tab.dedup ns:=by
 unfold firstMet Tab.dedup
 rw[vV]
noncomputable def VV (ns ms:List Int):Nat:=(Tab.dedup (ns.filter fun k=> !ms.contains k)).length
section
variable {X:Cx}
theorem YO {l:Expr}{p pos:Pos}(hc:X.calm=true) (hg:Gl X "set") (hm:X.mg "set" =none) (hst:starEach [l] X.env= [(false,eval l X.env)]){pins:List (Addr×Obj)}{s:Shared}{σ:St}{H:Hp}{R:List Int->Hp->Prop}(I:Inv X pins σ H s)
  (h:wpE X l σ H (fun v H1=>∃ a ns,v=.ref a/\SqL X.K H1 a (List.map V.int ns)/\ns.length<=60/\R ns H1)) :
  wpAny (model X.prog X.w) X.A (eval (.Call (.Name "set" p) [l] [] pos) X.env) (fun u s'=>∃ (r:Addr) (ns:List Int) (H1:Hp),u=.ref r/\Inv X pins σ H1 s'/\jA X pins H1 r/\ns.length<=60/\Tab.NSet X.prog X.w s'.heap r (fun k=>(Tab.dedup ns).any (·==k)) (Tab.dedup ns).length/\R ns H1) X.xe s:=by
 have h':Kt (wpE X l) zdE σ H (fun vs H1=>∃ v,vs= [v]/\∃ a ns,v=.ref a/\SqL X.K H1 a (List.map V.int ns)/\ns.length<=60/\R ns H1):=wpE.mono h fun v H1 q=>⟨v,rfl,q⟩
 refine Call_ (jQ I hg hm boot_setW (PyProof.Rows.callWith_type1 (thn ((zp zf pa_nil hst) pos pins s σ H _ I h') fun us s1 ⟨vs,H1,I1,r1,q1⟩=>?_) hst rfl))
 obtain⟨v,rfl,a,ns,rfl,hq,hn,q⟩:=q1
 obtain⟨u,rfl,ru⟩:=jE r1
 cases ru
 obtain⟨its,rv,pl,hz⟩:=I1.list hq
 have hlen:=rv.length
 rw[List.length_map] at hlen
 have hsz:its.toArray.size=ns.length:=by rw[List.size_toArray]; exact hlen.symm
 refine QW (I1.ok.hd hc) pl.isList (IntsAre.of rv) (by rw[hsz]; exact hn) fun h2 tk hS hk=>?_
 rw[hsz,Q4] at hS
 exact⟨s1.heap.objs.size,ns,H1,rfl,I1.kept (t':=tk) fun b o e=>hk b o (Heap.lt_size e) e,I1.fpOk (Nat.le_refl _) (I1.hok.fresh (Nat.le_refl _)),hn,hS.nset,q⟩
theorem wA (ns:List Int) (k:Int):(Tab.dedup ns).any (·==k)=true↔k∈Tab.dedup ns:=by simp
theorem WZ {ns ms L:List Int}{n:Nat}(hL:L.Nodup) (hl:L.length=n) (hm:∀ k,k∈L↔(k∈ns/\k∉ms)):n=VV ns ms:=by
 unfold VV
 rw[<- hl]
 have hd:∀ k,k∈Tab.dedup (ns.filter fun k=> !ms.contains k)↔(k∈ns/\k∉ms):=fun k=>by
  rw[<- wA,Tab.any_dedup,List.mem_filter]; simp
 have p1:=Tab.perm_of_sub (fm:=L) (ks:=Tab.dedup (ns.filter fun k=> !ms.contains k)) hL (fun x hx=>(hd x).mpr ((hm x).mp hx))
 have p2:=Tab.perm_of_sub (fm:=Tab.dedup (ns.filter fun k=> !ms.contains k)) (ks:=L) (Tab.nodup_dedup _) (fun x hx=>(hm x).mpr ((hd x).mp hx))
 rcases Nat.le_total L.length (Tab.dedup (ns.filter fun k=> !ms.contains k)).length with h | h
 ·exact (p2 h).length_eq
 ·exact (p1 h).length_eq.symm
theorem J0 (ns:List Int):(Tab.dedup ns).length<=ns.length:=by
 have h1:∀ (l acc:List Int),(l.foldl PyProof.Rows.step_dedup acc).length<=acc.length+l.length:=by
  intro l
  induction l with
  | nil=>intro acc; simp
  | cons x l ih=>
   intro acc
   rw[List.foldl_cons]
   refine Nat.le_trans (ih _) ?_
   rw[PyProof.Rows.step_length,List.length_cons]
   split <;> omega
 have:=h1 ns []
 simpa [Tab.dedup] using this
end
end L2
namespace L3
open PySem PySem.Spec PyProof.Rows L2
variable [Cs]
section
variable {X:Cx} {XP:XPT} {mp:List Nat} {a b:Expr} {fa fb:EM FV}
theorem wP {M0:Addr->Prop}{F:Fp}{Γ:Gv}{ν:Nu}{H:Hp}{v:V}{u:FV}{ns:List Int}(o:FOk M0 F ν H v u) (rs:RS M0 F Γ ν H) (e:(derL Γ u).bind zO=some ns):∃ l,v=.ref l/\H l=some (.lst (List.map V.int ns)):=by
 cases ed:derL Γ u with
 | none=>rw[ed] at e; cases e
 | some ds=>
  rw[ed] at e
  have eds:=J6 (by simpa using e:zO ds=some ns)
  subst eds
  obtain⟨l,vs,rfl,el,r⟩:=o.list rs ed
  have ev:=RepL.intsInv r
  subst ev
  exact⟨l,rfl,el⟩
end
end L3
namespace L2
open PySem PySem.Spec PyProof.Rows
section
variable {X:Cx} {e:Expr} {te:TE} {st:Expr} {ts:TO} {pos p2:Pos}
end
end L2
namespace L2
open PySem PySem.Spec PyProof.Rows
variable [Cs]
section
variable {X:Cx}
end
end L2
namespace L3
open PySem PySem.Spec PyProof.Rows L2
variable [Cs]
section
variable {X:Cx} {XP:XPT} {mp:List Nat} {a st:Expr} {p p2 pos:Pos} {fa fs:EM FV}
end
end L3
namespace L3
open PySem PySem.Spec PyProof.Rows L2
variable [Cs]
section
variable {M0:Addr->Prop} {F F':Fp} {Γ Γ':Gv} {ν ν':Nu} {H H':Hp}
end
section
variable {X:Cx} {XP:XPT} {mp io:List Nat} {a b c e tg iter:Expr} {es:List Expr} {pos p p2 pos':Pos} {fa fb fc:EM FV} {ta tb:EM Bool} {na nb:EM (List PyData)} {fo:EM OV} {st:Stmt} {sts body els:List Stmt} {f g:SM}
end
theorem ORL.snocO {M:Addr->Prop}{H:Hp}{v:V}{o:OV}{B:List Addr}(q:OR M H v o B):∀ {vs:List V}{os:List OV}{A:List Addr},ORL M H vs os A->ORL M H (vs++ [v]) (os++ [o]) (A++B)
 | _,_,_,.nil=>by simpa using ORL.cons q .nil
 | _,_,_,.cons r t=>by rw[List.append_assoc]; exact .cons r (ORL.snocO q t)
section
variable {M0:Addr->Prop} {F F':Fp} {Γ Γ':Gv} {ν ν':Nu} {H H':Hp}
theorem RS.join {i:Nat}{xs:List OV}{o:OV}{v:V}{a:Addr}{vs:List V}(r:RS M0 F (Γ++ [some o]) (ν++ [some v]) H) (e:Γ[i]?=some (some (.l xs))) (en:ν[i]?=some (some (.ref a))) (eh:H a=some (.lst vs)) :
  vs.length=xs.length/\∃ F',RS M0 F' (Γ.set i (some (.l (xs++ [o])))) ν (upd H a (.lst (vs++ [v])))/\Stp F H F' (upd H a (.lst (vs++ [v]))):=by
 have hl:ν.length=Γ.length:=by have:=r.len; simp at this; exact this
 have hi:=(List.getElem?_eq_some_iff.mp e).1
 obtain⟨a1,vs1,A,en1,eh1,qa,eF,nd⟩:=Jf r (by rw[List.getElem?_append_left hi]; exact e)
 rw[List.getElem?_append_left (by omega),en] at en1
 cases en1
 rw[eh] at eh1
 cases eh1
 refine⟨qa.length,?_⟩
 obtain⟨u,eu,qo⟩:=r.at' Γ.length o (by rw[List.getElem?_append_right (Nat.le_refl _)]; simp)
 have euv:u=v:=by
  rw[List.getElem?_append_right (by omega),hl] at eu
  simpa using eu.symm
 subst euv
 have ha:a∈F i:=by rw[eF]; exact List.mem_cons_self
 have hne:∀ j,j≠i->∀ b∈F j,b≠a:=fun j hj b hb z=>by subst z; exact hj (r.dis _ _ _ hb ha)
 have hnA:∀ b∈A,b≠a:=fun b hb z=>by
  subst z
  have:=r.nd i
  rw[eF] at this
  exact (List.nodup_cons.mp this).1 hb
 let F':Fp:=fun j=>if j=i then F i++F Γ.length else if j<Γ.length then F j else []
 have hFi:F' i=F i++F Γ.length:=by show (if i=i then _ else _)=_; rw[if_pos rfl]
 have hFj:∀ j,j≠i->j<Γ.length->F' j=F j:=fun j h1 h2=>by show (if j=i then _ else _)=_; rw[if_neg h1,if_pos h2]
 have hFo:∀ j,j≠i->¬ j<Γ.length->F' j= []:=fun j h1 h2=>by show (if j=i then _ else _)=_; rw[if_neg h1,if_neg h2]
 have sub:∀ j b,b∈F' j->(j=i/\(b∈F i∨b∈F Γ.length))∨(j≠i/\j<Γ.length/\b∈F j):=fun j b h=>by
  by_cases h1:j=i
  ·subst h1; rw[hFi] at h; exact .inl ⟨rfl,List.mem_append.mp h⟩
  ·by_cases h2:j<Γ.length
   ·rw[hFj j h1 h2] at h; exact .inr ⟨h1,h2,h⟩
   ·rw[hFo j h1 h2] at h; cases h
 have s:Stp F H F' (upd H a (.lst (vs++ [u]))):=⟨fun b ob e nb=>⟨by
   rw[ze (fun z=>by subst z; exact nb i ha)]; exact e,fun j h=>by
   rcases sub j b h with ⟨_,h | h⟩ | ⟨_,_,h⟩ <;> exact nb _ h⟩,fun b xs e=>by
   rw[ze (fun z=>by subst z; rw[eh] at e; cases e)]; exact e,fun b h=>by
   by_cases z:b=a
   ·subst z; rw[zi]; exact fun z=>nomatch z
   ·rw[ze z]; exact h⟩
 have hin:∀ b,b∈F Γ.length->b∉F i:=fun b h1 h2=>by have:=r.dis _ _ b h1 h2; omega
 refine⟨F',⟨fun b h=>s.stay b (r.al0 b h),fun j b h=>?_,fun j=>?_,fun j k b h1 h2=>?_,fun j p ep=>?_,fun j h=>?_,by simp[hl]⟩,s⟩
 ·rcases sub j b h with ⟨_,h | h⟩ | ⟨_,_,h⟩ <;> exact r.dis0 _ b h
 ·by_cases h1:j=i
  ·subst h1; rw[hFi]
   exact List.nodup_append.mpr ⟨r.nd _,r.nd _,fun x hx y hy z=>by subst z; exact hin _ hy hx⟩
  ·by_cases h2:j<Γ.length
   ·rw[hFj j h1 h2]; exact r.nd _
   ·rw[hFo j h1 h2]; exact .nil
 ·rcases sub j b h1 with ⟨e1,z1⟩ | ⟨n1,l1,z1⟩
  ·rcases sub k b h2 with ⟨e2,z2⟩ | ⟨n2,l2,z2⟩
   ·rw[e1,e2]
   ·rcases z1 with z1 | z1
    ·exact absurd (r.dis _ _ b z2 z1) n2
    ·have:=r.dis _ _ b z2 z1; omega
  ·rcases sub k b h2 with ⟨e2,z2⟩ | ⟨n2,l2,z2⟩
   ·rcases z2 with z2 | z2
    ·exact absurd (r.dis _ _ b z1 z2) n1
    ·have:=r.dis _ _ b z1 z2; omega
   ·exact r.dis _ _ b z1 z2
 ·by_cases hj:j=i
  ·subst hj
   rw[List.getElem?_set_self hi] at ep
   cases ep
   refine⟨.ref a,en,?_⟩
   rw[hFi,eF,List.cons_append]
   exact .l zi (ORL.snocO (qo.go (fun _ _ x=>zq s r.al0 x) s.tups fun b hb=>ze (hne _ (by omega) b hb)) (qa.go (fun _ _ x=>zq s r.al0 x) s.tups fun b hb=>ze (hnA b hb)))
  ·rw[List.getElem?_set_ne (Ne.symm hj)] at ep
   have hjl:j<Γ.length:=(List.getElem?_eq_some_iff.mp ep).1
   obtain⟨w,e1,q⟩:=r.at' j p (by rw[List.getElem?_append_left hjl]; exact ep)
   rw[List.getElem?_append_left (by omega)] at e1
   exact⟨w,e1,by rw[hFj j hj hjl]; exact q.go (fun _ _ x=>zq s r.al0 x) s.tups fun b hb=>ze (hne j hj b hb)⟩
 ·by_cases hj:j=i
  ·subst hj; rw[List.getElem?_set_self hi] at h; exact absurd rfl (h _)
  ·by_cases h2:j<Γ.length
   ·rw[hFj j hj h2]
    refine r.emp j fun p ep=>h p ?_
    rw[List.getElem?_append_left h2] at ep
    rw[List.getElem?_set_ne (Ne.symm hj)]; exact ep
   ·exact hFo j hj h2
theorem RS.clear (r:RS M0 F Γ ν H) (j:Nat) (w:Option V):∃ F',RS M0 F' (Γ.set j none) (ν.set j w) H/\Stp F H F' H:=by
 have sub:∀ k b,b∈zF F j [] k->k≠j/\b∈F k:=fun k b h=>by
  by_cases hk:k=j
  ·subst hk; rw[zg] at h; cases h
  ·rw[zk hk] at h; exact⟨hk,h⟩
 have s:Stp F H (zF F j []) H:=jy fun k b h=>⟨k,(sub k b h).2⟩
 refine⟨zF F j [],⟨r.al0,fun k b h=>r.dis0 k b (sub k b h).2,fun k=>?_,fun k l b h1 h2=>r.dis k l b (sub k b h1).2 (sub l b h2).2,fun k o e=>?_,fun k h=>?_,by simp[r.len]⟩,s⟩
 ·by_cases hk:k=j
  ·subst hk; rw[zg]; exact .nil
  ·rw[zk hk]; exact r.nd k
 ·have hk:k≠j:=fun z=>by
   subst z
   have hl:=(List.getElem?_eq_some_iff.mp e).1
   rw[List.getElem?_set_self (by simpa using hl)] at e; cases e
  rw[List.getElem?_set_ne (Ne.symm hk)] at e |-
  obtain⟨v,e1,q⟩:=r.at' k o e
  exact⟨v,e1,by rw[zk hk]; exact q.go (fun _ _ x=>zq s r.al0 x) s.tups fun _ _=>rfl⟩
 ·by_cases hk:k=j
  ·subst hk; exact zg
  ·rw[zk hk]
   refine r.emp k fun o e=>h o ?_
   rw[List.getElem?_set_ne (Ne.symm hk)]; exact e
end
section
variable {M0:Addr->Prop} {F F':Fp} {Γ Γ':Gv} {ν ν':Nu} {H H':Hp}
end
end L3
namespace L3
open PySem PySem.Spec PyProof.Rows L2
variable [Cs]
section
variable {X:Cx} {XP:XPT} {mp io:List Nat} {a b c e tg iter:Expr} {es:List Expr} {pos p p2 pos' p3:Pos} {fa fb fc:EM FV} {ta tb:EM Bool} {na nb:EM (List PyData)} {fo:EM OV} {st:Stmt} {sts body els:List Stmt} {f g:SM}
end
section
variable {X:Cx} {XP:XPT} {mp io:List Nat} {a b c e tg iter:Expr} {es:List Expr} {pos p p2 pos' p3 py pc pf:Pos} {fa fb fc:EM FV} {ta tb:EM Bool} {na nb:EM (List PyData)} {fo:EM OV} {st:Stmt} {sts body els:List Stmt} {f g:SM}
end
end L3
namespace L3
open PySem PySem.Spec PyProof.Rows L2
variable [Cs]
noncomputable def RzOk (X:Cx) (XP:XPT):Prop:=∀ (x:Exc) (Γ:Gv) (F:Fp) (ν:Nu) (σ:St) (H:Hp),XP x Γ F ν σ H->∀ C,X.mg x.cls=some (.ref C)->∀ pins s,Inv X pins σ H s->∀ h' ea args,Heap.MadeExcOf s.heap h' ea (.ref C) args->X.xe (.ref ea) { s with heap:=h' }
section
variable {X:Cx} {XP:XPT} {mp io:List Nat} {x:Str} {C:Addr} {np cpos pos cp:Pos} {z:Str} {cj:Nat}
end
theorem HC.rep {M:Addr->Prop}{H:Hp}(v:HC):Rep M H v.V v.D:=by
 cases v with
 | s z=>exact .str z
 | b c=>exact .bool c
noncomputable def kN (c:Str):List (Str×Nat×Nat×HC)->Option (Nat×Nat×HC)
 | []=>none
 | (x,t,j,v)::r=>if x=c then some (t,j,v) else kN c r
structure HdN (X:Cx) (L:Str->Addr->Prop) (mp:List Nat) (hd:ExceptHandler) (x:Str) (C:Addr) (t j:Nat) (v:HC):Prop where
 k:HdK X hd C t v
 e:zdQ X x C
 l:L x C
 m:mp[t]?=some j
inductive HdNs (X:Cx) (L:Str->Addr->Prop) (mp:List Nat):List ExceptHandler->List (Str×Nat×Nat×HC)->List (Addr×Nat×HC)->Prop
 | nil:HdNs X L mp [] [] []
 | cons {hd:ExceptHandler} {hs:List ExceptHandler} {x:Str} {C:Addr} {t j:Nat} {v:HC} {ns:List (Str×Nat×Nat×HC)} {zs:List (Addr×Nat×HC)}:HdN X L mp hd x C t j v->HdNs X L mp hs ns zs->HdNs X L mp (hd::hs) ((x,t,j,v)::ns) ((C,t,v)::zs)
theorem HdNs.ks {X:Cx}{L:Str->Addr->Prop}{mp:List Nat}:∀ {hs:List ExceptHandler}{ns:List (Str×Nat×Nat×HC)}{zs:List (Addr×Nat×HC)},HdNs X L mp hs ns zs->K1 X hs zs
 | _,_,_,.nil=>.nil
 | _,_,_,.cons h t=>.cons h.k t.ks
theorem HdNs.lt {X:Cx}{L:Str->Addr->Prop}{mp:List Nat}{c:Str}{t j:Nat}{v:HC}:∀ {hs:List ExceptHandler}{ns:List (Str×Nat×Nat×HC)}{zs:List (Addr×Nat×HC)},HdNs X L mp hs ns zs->kN c ns=some (t,j,v)->t<X.N.length
 | _,_,_,.nil,e=>by cases e
 | _,_,_,.cons h r,e=>by
  unfold kN at e
  split at e
  ·cases e
   obtain⟨_,_,_,_,_,_,_,_,_,_,q,_⟩:=h.k.ex
   exact (List.getElem?_eq_some_iff.mp q).1
  ·exact r.lt e
section
variable {X:Cx} {XP:XPT} {mp io:List Nat} {L:Str->Addr->Prop} {hs:List ExceptHandler} {ns:List (Str×Nat×Nat×HC)} {zs:List (Addr×Nat×HC)} {f:SM} {body:List Stmt} {hd:ExceptHandler} {pos:Pos}
end
end L3
namespace Tab
open PySem PySem.Spec PyProof.Rows
noncomputable abbrev za4 (led:Bool):Obj:={ cls:=.type "set",dict:=none,data:=.set #[] 0 (.fresh 0 0 led) }
section
variable {prog:Program} {w:World} {A:Around} {E:Value->Shared->Prop} {s:Shared}
end
end Tab
namespace L2
open PySem PySem.Spec PyProof.Rows
variable [Cs]
section
variable {X:Cx}
end
end L2
namespace L3
open PySem PySem.Spec PyProof.Rows L2
variable [Cs]
section
variable {X:Cx} {XP:XPT} {mp:List Nat} {a b:Expr} {p1 p2 q1 q2:Pos} {fa fb:EM FV}
theorem jz {M:Addr->Prop}{H:Hp}:∀ {vs:List V}{ds:List PyData}{ns:List Int},RepL M H vs ds->zO ds=some ns->vs=ns.map V.int
 | _,_,_,.nil,e=>by cases e; rfl
 | _,_,_,.cons (ds:=ds) (d:=d) r t,e=>by
  cases d with
  | int i=>
   unfold zO at e
   cases q:zO ds with
   | none=>rw[q] at e; cases e
   | some ms=>
    rw[q] at e
    cases e
    cases r
    rw[List.map_cons,jz t q]
  | _=>cases e
end
end L3
namespace L2
open PySem PySem.Spec PyProof.Rows
variable [Cs]
section
variable {X:Cx}
end
end L2
namespace L3
open PySem PySem.Spec PyProof.Rows L2
variable [Cs]
section
variable {X:Cx} {XP:XPT} {mp io:List Nat} {a e:Expr} {p p1 p2 q1 q2 pos px py ps:Pos} {fa:EM FV}
theorem Sees.again {ν:Nu}{σ:St}{s i:Nat}{v:V}(h:Sees mp ν σ) (hm:mp[s]?=some i) (hv:ν[i]?=some (some v)) (hs:s<σ.length):Sees mp ν (σ.set s (some v)):=fun s' j w e1 e2=>by
 by_cases hj:s=s'
 ·subst hj
  rw[hm] at e1
  cases e1
  rw[hv] at e2
  cases e2
  rw[List.getElem?_set_self hs]
 ·rw[List.getElem?_set_ne hj]; exact h s' j w e1 e2
end
end L3
namespace L2
open PySem PySem.Spec PyProof.Rows
variable [Cs]
section
variable {X:Cx}
end
end L2
namespace L3
open PySem PySem.Spec PyProof.Rows L2
variable [Cs]
section
variable {X:Cx} {XP:XPT} {mp:List Nat} {a b c e:Expr} {es:List Expr} {pos p p2:Pos} {fa fb fc:EM FV}
noncomputable def zch:List Str->Str
 | []=>Str.empty
 | x::r=>x++zch r
theorem Ve (x:Str):x++Str.empty=x:=by
 show Str.append x Str.empty=x
 cases x; simp[Str.append,Str.empty]
noncomputable def YR:EM (List Str):=fun Γ=>.ok ([],Γ)
noncomputable def SJ (X:Cx) (XP:XPT) (mp:List Nat) (es:List Expr) (f:EM (List Str)):Prop:=∀ (M0:Addr->Prop) (F:Fp) (Γ:Gv) (ν:Nu) (σ:St) (H:Hp) (acc:Str) (Q:Str->Hp->Prop),RS M0 F Γ ν H->Sees mp ν σ->acc.length+10000*es.length<=10000000 ->
 EPost M0 F ν σ H XP (fun F' Γ' H' ys=>Q (acc++zch ys) H') (f Γ)->∀ pins s,Inv X pins σ H s->Joins (model X.prog X.w) X.A X.xe (evalEach es X.env) acc (fun out s1=>out.length<=sizeLine/\∃ H',Inv X pins σ H' s1/\Q out H') s
theorem zdo:SJ X XP mp [] YR:=fun M0 F Γ ν σ H acc Q rs hs hz hp pins s I=>by
 have:=hp F H rs (.refl _ _)
 unfold zch at this
 rw[Ve] at this
 exact⟨by have:=sizeLine_eq; omega,H,I,this⟩
end
end L3
namespace L2
open PySem PySem.Spec PyProof.Rows PySem.Builtin PySem.Builtin.Str
variable [Cs]
theorem qQ (x y:Str):(Txt.split x y).length<=x.length+2:=by
 unfold Txt.split
 split
 ·simp
 ·split
  ·simp
  ·have e1:=StrLaws.occ_length_le x y 0 x.length (x.length+1)
   rw[length_partsBetween]; omega
section
variable {X:Cx}
end
section
variable {X:Cx}
end
end L2
namespace L2
open PySem PySem.Spec PyProof.Rows
variable [Cs]
noncomputable def ItK:Bool->Heap->Addr->Addr->Nat->Prop
 | true,h,i,l,k=>h.IsTupleIter i l k
 | false,h,i,l,k=>h.IsListIter i l k
noncomputable def SqK:Bool->Heap->Addr->Array Value->Prop
 | true,h,l,xs=>h.IsTuple l xs
 | false,h,l,xs=>h.IsList l xs
noncomputable def itN:Bool->String
 | true=> "tuple_iterator"
 | false=> "list_iterator"
theorem ItK.obj {tp:Bool}{h:Heap}{i l:Addr}{k:Nat}(x:ItK tp h i l k):∃ o,h.get? i=some o/\o.cls=.type (itN tp)/\o.data=.fields #[.ref l,.int k 0]:=by
 cases tp <;> exact x
theorem ItK.of {tp:Bool}{h:Heap}{i l:Addr}{k:Nat}(x:∃ o,h.get? i=some o/\o.cls=.type (itN tp)/\o.data=.fields #[.ref l,.int k 0]):ItK tp h i l k:=by
 cases tp <;> exact x
theorem ItK.at {tp:Bool}{h h':Heap}{i l:Addr}{k:Nat}(x:ItK tp h i l k) (e:∀ o,h.get? i=some o->h'.get? i=some o):ItK tp h' i l k:=by
 obtain⟨o,a,b,c⟩:=x.obj
 exact .of ⟨o,e o a,b,c⟩
theorem SqK.at {tp:Bool}{h h':Heap}{l:Addr}{xs:Array Value}(x:SqK tp h l xs) (e:∀ o,h.get? l=some o->h'.get? l=some o):SqK tp h' l xs:=by
 cases tp
 ·obtain⟨o,a,b⟩:=id x; exact⟨o,e o a,b⟩
 ·obtain⟨o,a,b⟩:=id x; exact⟨o,e o a,b⟩
section
variable {prog:Program} {w:World} {A:Around} {E:Value->Shared->Prop} {s:Shared}
end
noncomputable def SqV (tp:Bool) (H:Hp) (a:Addr) (xs:List V):Prop:=match tp with
 | true=>H a=some (.tup xs)
 | false=>H a=some (.lst xs)
theorem SqV.inj {H:Hp}{tp:Bool}{a:Addr}{xs ys:List V}(h:SqV tp H a xs) (h':SqV tp H a ys):xs=ys:=by
 cases tp with
 | false=>have:=Eq.trans (Eq.symm h) h'; cases this; rfl
 | true=>have:=Eq.trans (Eq.symm h) h'; cases this; rfl
theorem SqV.ne {H:Hp}{tp:Bool}{a c:Addr}{xs:List V}(h:SqV tp H a xs) (e:H c=none):a≠c:=fun z=>by
 subst z
 cases tp with
 | false=>have h:H a=some (.lst xs):=h; rw[e] at h; cases h
 | true=>have h:H a=some (.tup xs):=h; rw[e] at h; cases h
section
variable {X:Cx}
end
end L2
namespace L2
open PySem PySem.Spec PyProof.Rows
variable [Cs]
noncomputable def zai (w:World) (l:List (Str×Nat×Addr)) (ep:Nat):Obj:={ cls:=.type "dict",data:=.dict (l.map fun p=>(⟨PySem.PyData.keyHash w.params p.1,.str p.1 p.2.1,.ref p.2.2⟩:DictEntry)).toArray ep }
inductive GRows (mg:Str->Option Value):List (Str×Nat×Addr)->List (Str×Str)->Prop
 | nil:GRows mg [] []
 | cons {k f:Str} {t:Nat} {a:Addr} {l kf}:mg f=some (.ref a)->GRows mg l kf->GRows mg ((k,t,a)::l) ((k,f)::kf)
structure GD (w:World) (K:PySem.W.Frag) (mg:Str->Option Value) (x:Str) (kf:List (Str×Str)):Prop where
 ex:∃ (D:Addr) (ep:Nat) (l:List (Str×Nat×Addr)),mg x=some (.ref D)/\(D==sysModules)=false/\K.lookup D=some (zai w l ep)/\GRows mg l kf/\(kf.map (·.1)).Nodup
theorem GRows.keys {mg:Str->Option Value}{l:List (Str×Nat×Addr)}{kf:List (Str×Str)}(h:GRows mg l kf):l.map (·.1)=kf.map (·.1):=by
 induction h with
 | nil=>rfl
 | cons _ _ ih=>simp[ih]
theorem GRows.find {mg:Str->Option Value}{l:List (Str×Nat×Addr)}{kf:List (Str×Str)}(h:GRows mg l kf) (k:Str):match kf.lookup k with
  | some f=>∃ a,mg f=some (.ref a)/\valueAt (l.map fun p=>(p.1,Value.ref p.2.2)) k=some (.ref a)
  | none=>valueAt (l.map fun p=>(p.1,Value.ref p.2.2)) k=none:=by
 induction h with
 | nil=>rfl
 | @cons k' f t a l kf hm hr ih=>
  rw[List.lookup_cons]
  by_cases e:k=k'
  ·subst e
   simp only[beq_self_eq_true]
   exact⟨a,hm,by simp[valueAt]⟩
  ·have e1:(k==k')=false:=by simpa using e
   rw[e1]
   have e2:valueAt (((k',t,a)::l).map fun p=>(p.1,Value.ref p.2.2)) k=valueAt (l.map fun p=>(p.1,Value.ref p.2.2)) k:=by
    unfold valueAt
    rw[List.map_cons,List.find?_cons_of_neg (by simpa using Ne.symm e)]
   rw[e2]; exact ih
section
variable {X:Cx}
end
end L2
namespace L2
open PySem PySem.Spec PyProof.Rows
variable [Cs]
end L2
namespace L3
open PySem PySem.Spec PyProof.Rows L2
variable [Cs]
section
variable {X:Cx} {XP:XPT} {mp io:List Nat} {a b c e:Expr} {es:List Expr} {pos p p2:Pos} {fa fb fc:EM FV}
end
end L3
namespace L3
open PySem PySem.Spec PyProof.Rows L2
variable [Cs]
section
variable {M0:Addr->Prop} {F F':Fp} {Γ Γ':Gv} {ν ν':Nu} {H H':Hp}
end
section
variable {X:Cx} {XP:XPT} {mp io:List Nat} {a b c e:Expr} {es:List Expr} {pos p p2 pos' p3:Pos} {fa fb fc:EM FV} {fo:EM OV} {kx:Nat}
end
end L3
namespace L2
open PySem PySem.Spec PyProof.Rows
section
variable {β:Type}
noncomputable def KL (ds:List (Str×β)) (x:Str):Option β:=(ds.find? fun p=>decide (p.1=x)).map (·.2)
noncomputable def JB (ds:List (Str×β)) (x:Str) (y:β):List (Str×β):=if (ds.any fun p=>decide (p.1=x))=true then ds.map (fun p=>if p.1=x then (p.1,y) else p) else ds++ [(x,y)]
noncomputable def YM (ds:List (Str×β)) (x:Str):List (Str×β):=ds.filter fun p=>decide (p.1≠x)
theorem WY (ds:List (Str×β)) (x:Str) (y:β):(JB ds x y).length<=ds.length+1:=by
 unfold JB
 split
 ·rw[List.length_map]; omega
 ·rw[List.length_append,List.length_cons,List.length_nil]; omega
end
theorem inr_eq {x y:Str}:((Sum.inr x:Key)=Sum.inr y)↔x=y:=⟨fun h=>by injection h,fun h=>by rw[h]⟩
theorem Yz (x:Str):∀ (ks:List (Str×V)),((ks.map kK).any fun p=>decide (p.1=(.inr x:Key)))=ks.any fun p=>decide (p.1=x)
 | []=>rfl
 | p::r=>by
  rw[List.map_cons,List.any_cons,List.any_cons,Yz x r]
  congr 1
  exact decide_eq_decide.mpr inr_eq
theorem zaN (ks:List (Str×V)) (x:Str) (v:V):Va (ks.map kK) (.inr x) v=(JB ks x v).map kK:=by
 unfold Va JB
 rw[Yz]
 split
 ·rw[List.map_map,List.map_map]
  refine List.map_congr_left fun p _=>?_
  show (if (kK p).1=Sum.inr x then _ else _)=kK (if p.1=x then _ else _)
  by_cases h:p.1=x
  ·rw[if_pos (show (kK p).1=Sum.inr x from inr_eq.mpr h),if_pos h]; rfl
  ·rw[if_neg (show ¬ (kK p).1=Sum.inr x from fun z=>h (inr_eq.mp z)),if_neg h]
 ·rw[List.map_append]; rfl
variable [Cs]
inductive KR (M:Addr->Prop) (H:Hp):List (Str×V)->List (Str×PyData)->Prop
 | nil:KR M H [] []
 | cons {x:Str} {v:V} {d:PyData} {ks:List (Str×V)} {ds:List (Str×PyData)}:Rep M H v d->KR M H ks ds->KR M H ((x,v)::ks) ((x,d)::ds)
section
variable {M M':Addr->Prop} {H H':Hp}
theorem KR.of:∀ {ks:List (Str×V)}{ds:List (Str×PyData)},ks.map (·.1)=ds.map (·.1)->RepL M H (ks.map (·.2)) (ds.map (·.2))->KR M H ks ds
 | [],[],_,_=>.nil
 | [],_::_,h,_=>by simp at h
 | _::_,[],h,_=>by simp at h
 | (x,v)::ks,(y,d)::ds,h,r=>by
  simp only[List.map_cons,List.cons.injEq] at h
  obtain⟨rfl,h⟩:=h
  simp only[List.map_cons] at r
  cases r with
  | cons r t=>exact .cons r (KR.of h t)
theorem KR.keys:∀ {ks:List (Str×V)}{ds:List (Str×PyData)},KR M H ks ds->ks.map (·.1)=ds.map (·.1)
 | _,_,.nil=>rfl
 | _,_,.cons _ t=>by rw[List.map_cons,List.map_cons,t.keys]
theorem KR.vals:∀ {ks:List (Str×V)}{ds:List (Str×PyData)},KR M H ks ds->RepL M H (ks.map (·.2)) (ds.map (·.2))
 | _,_,.nil=>.nil
 | _,_,.cons r t=>.cons r t.vals
theorem KR.length {ks:List (Str×V)}{ds:List (Str×PyData)}(h:KR M H ks ds):ks.length=ds.length:=by have:=congrArg List.length h.keys; simpa using this
theorem KR.map (hr:∀ v d,Rep M H v d->Rep M' H' v d):∀ {ks:List (Str×V)}{ds:List (Str×PyData)},KR M H ks ds->KR M' H' ks ds
 | _,_,.nil=>.nil
 | _,_,.cons r t=>.cons (hr _ _ r) (t.map hr)
theorem KR.any (x:Str):∀ {ks:List (Str×V)}{ds:List (Str×PyData)},KR M H ks ds->(ks.any fun p=>decide (p.1=x))=ds.any fun p=>decide (p.1=x)
 | _,_,.nil=>rfl
 | _,_,.cons _ t=>by rw[List.any_cons,List.any_cons,t.any x]
theorem KR.repl {x:Str}{v:V}{d:PyData}(r:Rep M H v d):∀ {ks:List (Str×V)}{ds:List (Str×PyData)},KR M H ks ds->KR M H (ks.map fun p=>if p.1=x then (p.1,v) else p) (ds.map fun p=>if p.1=x then (p.1,d) else p)
 | _,_,.nil=>.nil
 | _,_,.cons (x:=y) q t=>by
  rw[List.map_cons,List.map_cons]
  by_cases h:y=x
  ·rw[if_pos h,if_pos h]; exact .cons r (t.repl r)
  ·rw[if_neg h,if_neg h]; exact .cons q (t.repl r)
theorem KR.append:∀ {ks ks':List (Str×V)}{ds ds':List (Str×PyData)},KR M H ks ds->KR M H ks' ds'->KR M H (ks++ks') (ds++ds')
 | _,_,_,_,.nil,s=>s
 | _,_,_,_,.cons r t,s=>.cons r (t.append s)
theorem KR.put {ks:List (Str×V)}{ds:List (Str×PyData)}(x:Str){v:V}{d:PyData}(h:KR M H ks ds) (r:Rep M H v d):KR M H (JB ks x v) (JB ds x d):=by
 unfold JB
 rw[h.any x]
 split
 ·exact h.repl r
 ·exact h.append (.cons r .nil)
theorem KR.drop (x:Str):∀ {ks:List (Str×V)}{ds:List (Str×PyData)},KR M H ks ds->KR M H (YM ks x) (YM ds x)
 | _,_,.nil=>.nil
 | _,_,.cons (x:=y) q t=>by
  unfold YM
  rw[List.filter_cons,List.filter_cons]
  by_cases h:y=x
  ·rw[if_neg (by simp[h]),if_neg (by simp[h])]; exact t.drop x
  ·rw[if_pos (by simp[h]),if_pos (by simp[h])]; exact .cons q (t.drop x)
theorem KR.val (x:Str):∀ {ks:List (Str×V)}{ds:List (Str×PyData)},KR M H ks ds->(KL ks x).isSome=(KL ds x).isSome/\∀ d,KL ds x=some d->∃ v,KL ks x=some v/\Rep M H v d
 | _,_,.nil=>⟨rfl,fun d e=>by cases e⟩
 | _,_,.cons (x:=y) (v:=v) q t=>by
  have ih:=t.val x
  unfold KL at *
  rw[List.find?_cons,List.find?_cons]
  by_cases h:y=x
  ·rw[decide_eq_true (show (y,v).1=x from h)]
   exact⟨rfl,fun d e=>by cases e; exact⟨v,rfl,q⟩⟩
  ·rw[decide_eq_false (show ¬ (y,v).1=x from h)]; exact ih
theorem KR.get:∀ {ks:List (Str×V)}{ds:List (Str×PyData)}{i:Nat}{p:Str×PyData},KR M H ks ds->ds[i]?=some p->∃ v,ks[i]?=some (p.1,v)/\Rep M H v p.2
 | _,_,_,_,.nil,e=>by simp at e
 | _,_,0,_,.cons r _,e=>by simp at e; subst e; exact⟨_,rfl,r⟩
 | _,_,i+1,p,.cons _ t,e=>by
  obtain⟨v,h1,h2⟩:=KR.get (i:=i) (p:=p) t (by simpa using e)
  exact⟨v,by simpa using h1,h2⟩
theorem Rep.dict_inv {v:V}{kv:List (PyData×PyData)}(r:Rep M H v (.dict kv)):∃ a,v=.ref a/\¬ M a/\((∃ ks ds,Rd H a (.dK (ks.map kK))/\kv=ds.map dK/\KR M H ks ds)∨∃ dx c fs ds,H a=some (.ins (Cs.adr c) dx fs)/\kv=(.none,.str c)::ds.map dK/\KR M H fs ds):=by
 cases r with
 | dict e n k q=>exact⟨_,rfl,n,.inl ⟨_,_,e,rfl,.of k q⟩⟩
 | inst e n k q=>exact⟨_,rfl,n,.inr ⟨_,_,_,_,e,rfl,.of k q⟩⟩
end
noncomputable def unD:List (PyData×PyData)->Option (List (Str×PyData))
 | []=>some []
 | (.str x,d)::r=>(unD r).map ((x,d)::·)
 | _=>none
theorem zbq (ds:List (Str×PyData)):unD (ds.map dK)=some ds:=by
 induction ds with
 | nil=>rfl
 | cons p r ih=>simp[unD,dK,ih]
section
variable {X:Cx} {pins:List (Addr×Obj)} {σ:St} {H:Hp} {s:Shared} {a b:Addr} {kvs more:List (Key×V)} {A:Around} {E:Value->Shared->Prop}
end
section
variable {X:Cx} {o e:Expr} {apos cpos:Pos} {td te:TE}
end
theorem StrsAre.of:∀ {ss:List Str}{us:List Value},Vals (ss.map V.str) us->StrsAre us ss
 | [],_,.nil=>.nil
 | n::ns,_,.cons ⟨t,e⟩ r=>by subst e; exact .cons n t (StrsAre.of r)
section
variable {X:Cx}
end
section
variable {prog:Program} {w:World} {A:Around} {E:Value->Shared->Prop} {s:Shared}
end
section
variable {X:Cx}
end
end L2
namespace L2
open PySem PySem.Spec PyProof.Rows
variable [Cs]
section
variable {X:Cx} {pins:List (Addr×Obj)} {σ:St} {H:Hp} {s:Shared} {a:Addr} {kvs:List (Key×V)}
theorem Inv.ghost {o o':HO}(I:Inv X pins σ H s) (e:H a=some o) (hn:∀ xs,o≠ .tup xs) (hno:∀ b,o≠ .own b) (hnt:∀ ps,o≠ .tbl ps) (hf:∀ ob u,X.H₀ a≠some (.frz ob u)) (new:ObjOk X.prog X.w (upd H a o') s.heap a o'):Inv X pins σ (upd H a o') s where
 ok:=I.ok
 os:=I.os
 bare:=I.bare
 base:={
  keep:=I.base.keep
  slot:=I.base.slot
  free:=fun b ob e' n hx=>by
   have:=I.base.free b ob e' n hx
   rw[ze (fun z=>by subst z; rw[e] at this; cases this)]; exact this
  there:=I.base.there
  tups:=fun b xs e'=>by
   have:=I.base.tups b xs e'
   rw[ze (fun z=>by subst z; rw[e] at this; exact hn xs (Option.some.inj this))]; exact this
  frzs:=fun b ob u e'=>by
   rw[ze (fun z=>by subst z; exact hf ob u e')]; exact I.base.frzs b ob u e'
  tbls:=fun b ps e'=>by
   obtain⟨mo,this⟩:=I.base.tbls b ps e'
   exact⟨mo,by rw[ze (fun z=>by subst z; rw[e] at this; exact hnt _ (Option.some.inj this))]; exact this⟩ }
 loc:=I.loc
 cell:=I.cell
 free:=by rw[ze (fun z=>by have:=I.free; rw[z,e] at this; cases this)]; exact I.free
 freeC:=fun x c e'=>by
  have:=I.freeC x c e'
  rw[ze (fun z=>by rw[z,e] at this; cases this)]; exact this
 pin:=fun p h=>by
  obtain⟨e1,n,r⟩:=I.pin p h
  exact⟨e1,by rw[ze (fun z=>by rw[z,e] at n; cases n)]; exact n,r⟩
 hok:=fun b u q=>by
  by_cases hb:b=a
  ·subst hb; rw[zi] at q; cases q; exact new
  ·rw[ze hb] at q
   exact (I.hok b u q).stay (fun c v _ r=>r) (fun c r=>by rw[ze (fun z=>by subst z; rw[e] at r; exact hno _ (Option.some.inj r))]; exact r) fun c xs r=>by rw[ze (fun z=>by subst z; rw[e] at r; exact hn _ (Option.some.inj r))]; exact r
 len:=I.len
noncomputable def Fz (X:Cx) (H Hf:Hp) (a:Addr) (o:Obj) (kvs:List (Key×V)):Prop:=Hf a=some (.frz o (.dK kvs))/\(Hf=H∨(H a=some (.dK kvs)/\Hf=upd H a (.frz o (.dK kvs))/\∀ ob u,X.H₀ a≠some (.frz ob u)))
theorem Inv.thaw {o:Obj}{H':Hp}(I:Inv X pins σ H s) (e:H a=some (.frz o (.dK kvs))) (hf:∀ ob u,X.H₀ a≠some (.frz ob u)):Inv X pins σ (upd H a (.dK kvs)) s:=by
 obtain⟨_,z,hd,vs,rel,dd⟩:=(show ObjOk X.prog X.w H s.heap a (.frz o (.dK kvs)) from I.hok a _ e)
 exact I.ghost e (fun _ z=>nomatch z) (fun _ z=>nomatch z) (fun _ z=>nomatch z) hf ⟨z,hd,vs,rel,dd⟩
theorem KW {e:Expr}{Q:VK}(h:wpE X e σ H fun v H'=>Q v H'∨∃ a kvs o,H' a=some (.frz o (.dK kvs))/\(∀ ob u,X.H₀ a≠some (.frz ob u))/\Q v (upd H' a (.dK kvs))):wpE X e σ H Q:=fun pins s I=>
 thn (h pins s I) fun u s' ⟨v,H',I',r,q⟩=>by
  rcases q with q | ⟨a,kvs,o,e,hf,q⟩
  ·exact⟨v,H',I',r,q⟩
  ·exact⟨v,_,I'.thaw (H':=H') e hf,r,q⟩
end
section
variable {X:Cx} {tg:Expr}
end
section
variable {X:Cx} {tg o:Expr} {apos cpos:Pos}
end
end L2
namespace L3
open PySem PySem.Spec PyProof.Rows L2
variable [Cs]
noncomputable def Eqv (H H':Hp):Prop:=∀ b o,H b=some o->H' b=some o∨∃ kvs,(o=.dK kvs∨∃ ob,o=.frz ob (.dK kvs))/\Rd H' b (.dK kvs)
section
variable {M0 M:Addr->Prop} {F F':Fp} {Γ Γ':Gv} {ν:Nu} {H H' Hf:Hp} {X:Cx} {a:Addr} {o:Obj} {kvs:List (Key×V)}
theorem Eqv.refl (H:Hp):Eqv H H:=fun _ _ e=>.inl e
theorem Eqv.rd (h:Eqv H H'){b:Addr}{kvs:List (Key×V)}(r:Rd H b (.dK kvs)):Rd H' b (.dK kvs):=by
 rcases r with e | ⟨ob,e⟩
 ·rcases h b _ e with z | ⟨k,z | ⟨ob,z⟩,r⟩
  ·exact .inl z
  ·cases z; exact r
  ·cases z
 ·rcases h b _ e with z | ⟨k,z | ⟨ob',z⟩,r⟩
  ·exact .inr ⟨_,z⟩
  ·cases z
  ·cases z; exact r
theorem Eqv.of (h:Eqv H H'){b:Addr}{o:HO}(e:H b=some o) (h1:∀ kvs,o≠ .dK kvs) (h2:∀ ob kvs,o≠ .frz ob (.dK kvs)):H' b=some o:=by
 rcases h b _ e with z | ⟨k,z | ⟨ob,z⟩,r⟩
 ·exact z
 ·exact absurd z (h1 k)
 ·exact absurd z (h2 ob k)
theorem Eqv.stay (h:Eqv H H'){b:Addr}(n:H b≠none):H' b≠none:=by
 cases q:H b with
 | none=>exact absurd q n
 | some o=>
  rcases h b _ q with z | ⟨k,_,z | ⟨ob,z⟩⟩ <;> rw[z] <;> exact fun w=>nomatch w
mutual
theorem Rep.eqv (h:Eqv H H'):∀ {v:V}{d:PyData},Rep M H v d->Rep M H' v d
 | _,_,.none=>.none
 | _,_,.bool b=>.bool b
 | _,_,.int i=>.int i
 | _,_,.str x=>.str x
 | _,_,.list e n r=>.list (h.of e (fun _ z=>nomatch z) (fun _ _ z=>nomatch z)) n (RepL.eqv h r)
 | _,_,.tuple e r=>.tuple (h.of e (fun _ z=>nomatch z) (fun _ _ z=>nomatch z)) (RepL.eqv h r)
 | _,_,.dict e n k r=>.dict (h.rd e) n k (RepL.eqv h r)
 | _,_,.inst e n k r=>.inst (h.of e (fun _ z=>nomatch z) (fun _ _ z=>nomatch z)) n k (RepL.eqv h r)
theorem RepL.eqv (h:Eqv H H'):∀ {vs:List V}{ds:List PyData},RepL M H vs ds->RepL M H' vs ds
 | _,_,.nil=>.nil
 | _,_,.cons r t=>.cons (Rep.eqv h r) (RepL.eqv h t)
end
theorem RS.eqv (r:RS M0 F Γ ν H) (h:Eqv H H') (hF:∀ i,∀ a∈F i,H' a=H a):RS M0 F Γ ν H' :=
 ⟨fun a ha=>h.stay (r.al0 a ha),r.dis0,r.nd,r.dis,fun i o e=>let ⟨v,e1,q⟩:=r.at' i o e; ⟨v,e1,q.go (fun _ _ x=>Rep.eqv h x) (fun b xs e=>h.of e (fun _ z=>nomatch z) (fun _ _ z=>nomatch z)) (hF i)⟩,r.emp,r.len⟩
theorem zcv (z:Fz X H Hf a o kvs):Eqv H Hf:=by
 obtain⟨e,rfl | ⟨e1,rfl,_⟩⟩:=z
 ·exact .refl _
 ·intro b u eb
  by_cases hb:b=a
  ·subst hb
   rw[e1] at eb; cases eb
   exact .inr ⟨kvs,.inl rfl,.inr ⟨o,zi⟩⟩
  ·exact .inl (by rw[ze hb]; exact eb)
theorem vo (e:H a=some (.frz o (.dK kvs))):Eqv H (upd H a (.dK kvs)):=fun b u eb=>by
 by_cases hb:b=a
 ·subst hb
  rw[e] at eb; cases eb
  exact .inr ⟨kvs,.inr ⟨o,rfl⟩,.inl zi⟩
 ·exact .inl (by rw[ze hb]; exact eb)
theorem Kv {H'f:Hp}(e:H a=some (.dK kvs)) (s:Stp F (upd H a (.frz o (.dK kvs))) F' H'f) (hn:∀ i,a∉F i):Stp F H F' (upd H'f a (.dK kvs)):=by
 have ka:=s.keep a _ zi hn
 refine⟨fun b u eb nb=>?_,fun b xs eb=>?_,fun b hb=>?_⟩
 ·by_cases hb:b=a
  ·subst hb
   rw[e] at eb; cases eb
   exact⟨zi,ka.2⟩
  ·rw[ze hb]
   exact s.keep b u (by rw[ze hb]; exact eb) nb
 ·have hb:b≠a:=fun z=>by subst z; rw[e] at eb; cases eb
  rw[ze hb]
  exact s.tups b xs (by rw[ze hb]; exact eb)
 ·by_cases z:b=a
  ·subst z; rw[zi]; exact fun w=>nomatch w
  ·rw[ze z]
   exact s.stay b (by rw[ze z]; exact hb)
end
noncomputable def Zn (M0:Addr->Prop) (F:Fp) (i:Nat):Addr->Prop:=fun a=>M0 a∨a∈F i
section
variable {M0:Addr->Prop} {F F':Fp} {Γ Γ':Gv} {ν:Nu} {H H':Hp} {i:Nat}
theorem Zq {F3:Fp}(h:F3 i= []):MM (Zn M0 F i) F3=MM M0 (zF F3 i (F i)):=by
 funext a
 apply propext
 constructor
 ·rintro ((h1 | h1) | ⟨j,h1⟩)
  ·exact .inl h1
  ·exact .inr ⟨i,by rw[zg]; exact h1⟩
  ·refine .inr ⟨j,?_⟩
   rw[zk (fun z=>by subst z; rw[h] at h1; cases h1)]; exact h1
 ·rintro (h1 | ⟨j,h1⟩)
  ·exact .inl (.inl h1)
  ·by_cases z:j=i
   ·subst z; rw[zg] at h1; exact .inl (.inr h1)
   ·rw[zk z] at h1; exact .inr ⟨j,h1⟩
theorem wN:zF (zF F i []) i (F i)=F:=by
 funext j
 by_cases z:j=i
 ·subst z; rw[zg]
 ·rw[zk z,zk z]
theorem RS.hide (r:RS M0 F Γ ν H):RS (Zn M0 F i) (zF F i []) (Γ.set i none) ν H:=by
 have hm:MM (Zn M0 F i) (zF F i [])=MM M0 F:=by rw[Zq zg,wN]
 have sub:∀ j a,a∈zF F i [] j->j≠i/\a∈F j:=fun j a h=>by
  by_cases z:j=i
  ·subst z; rw[zg] at h; cases h
  ·rw[zk z] at h; exact⟨z,h⟩
 refine⟨fun a h=>?_,fun j a h=>?_,fun j=>?_,fun j k a h1 h2=>r.dis _ _ a (sub _ _ h1).2 (sub _ _ h2).2,fun j o e=>?_,fun j h=>?_,by rw[List.length_set]; exact r.len⟩
 ·rcases h with h | h
  ·exact r.al0 a h
  ·exact r.al a (.inr ⟨i,h⟩)
 ·obtain⟨h1,h2⟩:=sub j a h
  rintro (z | z)
  ·exact r.dis0 j a h2 z
  ·exact h1 (r.dis _ _ a h2 z)
 ·by_cases z:j=i
  ·subst z; rw[zg]; exact .nil
  ·rw[zk z]; exact r.nd j
 ·by_cases z:j=i
  ·subst z
   by_cases hl:j<Γ.length
   ·rw[List.getElem?_set_self hl] at e; cases e
   ·rw[List.getElem?_eq_none (by simpa using hl)] at e; cases e
  ·rw[List.getElem?_set_ne (Ne.symm z)] at e
   rw[hm,zk z]
   exact r.at' j o e
 ·by_cases z:j=i
  ·subst z; exact zg
  ·rw[zk z]
   refine r.emp j fun o e=>h o ?_
   rw[List.getElem?_set_ne (Ne.symm z)]; exact e
theorem RS.unhide {o:OV}(r:RS M0 F Γ ν H) (e:Γ[i]?=some (some o)) (r':RS (Zn M0 F i) F' Γ' ν H') (e':Γ'[i]?=some none) (s:Stp (zF F i []) H F' H'):RS M0 (zF F' i (F i)) (Γ'.set i (some o)) ν H'/\Stp F H (zF F' i (F i)) H':=by
 have hi':i<Γ'.length:=(List.getElem?_eq_some_iff.mp e').1
 have hFi:F' i= []:=r'.emp i fun o z=>by rw[e'] at z; cases z
 have hm:MM (Zn M0 F i) F'=MM M0 (zF F' i (F i)):=Zq hFi
 have kp:∀ a∈F i,H' a=H a/\∀ j,a∉F' j:=fun a ha=>by
  obtain⟨u,eu⟩:=r.laidF ha
  obtain⟨k1,k2⟩:=s.keep a u eu fun j hj=>by
   by_cases z:j=i
   ·subst z; rw[zg] at hj; cases hj
   ·rw[zk z] at hj; exact z (r.dis _ _ a hj ha)
  exact⟨by rw[k1,eu],k2⟩
 have cls:∀ j a,a∈zF F' i (F i) j->(j=i/\a∈F i)∨(j≠i/\a∈F' j):=fun j a h=>by
  by_cases z:j=i
  ·subst z; rw[zg] at h; exact .inl ⟨rfl,h⟩
  ·rw[zk z] at h; exact .inr ⟨z,h⟩
 have s0:MM (Zn M0 F i) (zF F i [])=MM M0 F:=by rw[Zq zg,wN]
 refine⟨⟨fun a h=>r'.al0 a (.inl h),fun j a h=>?_,fun j=>?_,fun j k a h1 h2=>?_,fun j p ep=>?_,fun j h=>?_,by rw[List.length_set]; exact r'.len⟩,⟨fun b u eb nb=>?_,s.tups,s.stay⟩⟩
 ·rcases cls j a h with ⟨_,h⟩ | ⟨_,h⟩
  ·exact r.dis0 i a h
  ·exact fun z=>r'.dis0 j a h (.inl z)
 ·by_cases z:j=i
  ·subst z; rw[zg]; exact r.nd _
  ·rw[zk z]; exact r'.nd j
 ·rcases cls j a h1 with ⟨z1,h1⟩ | ⟨z1,h1⟩ <;> rcases cls k a h2 with ⟨z2,h2⟩ | ⟨z2,h2⟩
  ·rw[z1,z2]
  ·exact absurd h2 ((kp a h1).2 k)
  ·exact absurd h1 ((kp a h2).2 j)
  ·exact r'.dis _ _ a h1 h2
 ·by_cases z:j=i
  ·subst z
   rw[List.getElem?_set_self hi'] at ep
   cases ep
   obtain⟨v,ev,q⟩:=r.at' j _ e
   refine⟨v,ev,?_⟩
   rw[zg,<- hm]
   exact q.go (fun w d x=>zq s (fun a h=>(r.hide (i:=j)).al0 a h) (by rw[s0]; exact x)) s.tups fun a ha=>(kp a ha).1
  ·rw[List.getElem?_set_ne (Ne.symm z)] at ep
   rw[<- hm,zk z]
   exact r'.at' j p ep
 ·by_cases z:j=i
  ·subst z
   rw[List.getElem?_set_self hi'] at h
   exact absurd rfl (h o)
  ·rw[zk z]
   refine r'.emp j fun p ep=>h p ?_
   rw[List.getElem?_set_ne (Ne.symm z)]; exact ep
 ·obtain⟨k1,k2⟩:=s.keep b u eb fun j hj=>by
   by_cases z:j=i
   ·subst z; rw[zg] at hj; cases hj
   ·rw[zk z] at hj; exact nb j hj
  refine⟨k1,fun j hj=>?_⟩
  rcases cls j b hj with ⟨_,h⟩ | ⟨_,h⟩
  ·exact nb i h
  ·exact k2 j h
end
noncomputable def noX {γ:Type}:R γ->R γ
 | .exc _ _=>.bad
 | r=>r
noncomputable def hid {γ:Type}(z:Option (Option Nat)) (f:EM γ):EM γ:=fun Γ=>match z with
 | none=>f Γ
 | some none=>noX (f Γ)
 | some (some i)=>match Γ[i]? with
  | some (some o)=>match f (Γ.set i none) with
   | .ok (y,Γ2)=>match Γ2[i]? with
    | some none=>.ok (y,Γ2.set i (some o))
    | _=>.bad
   | .exc x Γ2=>match Γ2[i]? with
    | some none=>.exc x (Γ2.set i (some o))
    | _=>.bad
   | .bad=>.bad
  | _=>.bad
noncomputable def Wk (X:Cx) (F:Fp) (H Hf:Hp):Prop:=Hf=H∨∃ a o kvs,Fz X H Hf a o kvs/\∀ i,a∉F i
noncomputable def JIw (X:Cx) (M0:Addr->Prop) (F:Fp) (J:It) (z:List PyData×Option (Option Nat)) (H Hf:Hp):Prop:=match z.2 with
 | none=>Hf=H/\JI M0 F J z.1 H
 | some none=>Wk X F H Hf/\JI M0 F J z.1 Hf
 | some (some i)=>Hf=H/\JI (Zn M0 F i) (zF F i []) J z.1 H
noncomputable def SIw (X:Cx) (XP:XPT) (mp:List Nat) (tg iter:Expr) (f:EM (List PyData×Option (Option Nat))):Prop:=∀ (M0:Addr->Prop) (F:Fp) (Γ:Gv) (ν:Nu) (σ:St) (H:Hp) (R:It->Hp->Prop),RS M0 F Γ ν H->Sees mp ν σ ->
 EPost M0 F ν σ H XP (fun F' Γ' H' z=>∀ J Hf,JIw X M0 F' J z H' Hf->R J Hf) (f Γ)->wpI X tg iter σ H R
section
variable {X:Cx} {XP:XPT} {mp:List Nat} {a b c e tg iter elt:Expr} {es ifs:List Expr} {pos p p2:Pos} {fa fb fc:EM FV} {ta tb:EM Bool} {na nb:EM (List PyData)}
noncomputable def zal (f:EM (List PyData)):EM (List PyData×Option (Option Nat)):=fun Γ=>(f Γ).bind fun (ds,Γ1)=>.ok ((ds,none),Γ1)
theorem za9 (h:SI X XP mp tg iter na):SIw X XP mp tg iter (zal na):=fun M0 F Γ ν σ H R rs hs hp=>
 h M0 F Γ ν σ H R rs hs (hp.seq.mono fun F1 Γ1 H1 ds rs1 s1 h1 J hJ=>h1 F1 H1 rs1 (.refl _ _) J H1 ⟨rfl,hJ⟩)
noncomputable def qr {β γ:Type}(k:Nat) (t:IT) (cond:EM Bool) (it:EM β) (add:γ->β->γ):List PyData->γ->Gv->R (γ×Gv)
 | [],ys,Γ=>.ok (ys,Γ)
 | d::ds,ys,Γ=>match tgF t d (Γ++List.replicate k none) with
  | none=>.bad
  | some Γ2=>match cond Γ2 with
   | .ok (true,Γ3)=>match it Γ3 with
    | .ok (y,Γ4)=>qr k t cond it add ds (add ys y) (Γ4.take Γ.length)
    | .exc x Γ4=>.exc x (Γ4.take Γ.length)
    | .bad=>.bad
   | .ok (false,Γ3)=>qr k t cond it add ds ys (Γ3.take Γ.length)
   | .exc x Γ3=>.exc x (Γ3.take Γ.length)
   | .bad=>.bad
structure Ys {α β γ δ:Type}(ac:Acc α β) (ad:γ->δ->γ) (RA:(Addr->Prop)->Fp->Hp->α->γ->Prop) (RB:(Addr->Prop)->Fp->Hp->β->δ->Prop) (ln:γ->Nat):Prop where
 stp:∀ {M0:Addr->Prop} {F F':Fp} {H H':Hp} {x:α} {y:γ},RA M0 F H x y->Stp F H F' H'->(∀ a,M0 a->H a≠none)->RA M0 F' H' x y
 add:∀ {M0:Addr->Prop} {F:Fp} {H:Hp} {x:α} {y:γ} {u:β} {d:δ},RA M0 F H x y->RB M0 F H u d->RA M0 F H (ac.add x u) (ad y d)
 bst:∀ {M0:Addr->Prop} {F F':Fp} {H H':Hp} {u:β} {d:δ},RB M0 F H u d->Stp F H F' H'->(∀ a,M0 a->H a≠none)->RB M0 F' H' u d
 len:∀ {M0:Addr->Prop} {F:Fp} {H:Hp} {x:α} {y:γ},RA M0 F H x y->ac.len x=ln y
 lin:∀ (y:γ) (d:δ),ln (ad y d)<=ln y+1
 eqv:∀ {M0:Addr->Prop} {F:Fp} {H H':Hp} {x:α} {y:γ},RA M0 F H x y->Eqv H H'->RA M0 F H' x y
 mm:∀ {M0 M0':Addr->Prop} {F F':Fp} {H:Hp} {x:α} {y:γ},MM M0 F=MM M0' F'->RA M0 F H x y->RA M0' F' H x y
theorem zY {XQ:XPT}{α β γ δ:Type}{ac:Acc α β}{add:γ->δ->γ}{RA:(Addr->Prop)->Fp->Hp->α->γ->Prop}{RB:(Addr->Prop)->Fp->Hp->β->δ->Prop}{len:γ->Nat}(AR:Ys ac add RA RB len){N':List Str}{scope:Scope}{n k:Nat}{ix:List Nat}{t:IT}{cond:EM Bool}{it:EM δ}{te:St->Hp->(β->Hp->Prop)->Prop}{M0:Addr->Prop}{F1:Fp}{ν:Nu}{σ:St}{H1:Hp}{J:It}{ds:List PyData}{P:Fp->Gv->Hp->γ->Prop}{Γ1:Gv}{Q:α->Hp->Prop}{c0:γ}
  (hm:∀ j i:Nat,ix[j]?=some i->∃ m,mp[i]?=some m/\m<n) (hN':N'.length=k+ix.length) (h0:RA M0 F1 H1 ac.a0 c0) (hl0:len c0=0)
  (hg:∀ cl C s2 H2 fp,Cat X σ C s2 H2 fp->SG (X.comp N' scope cl C s2 H2 fp) (mpC mp n k ix) (·<n) tg t) (hc:∀ cl C s2 H2 fp,Cat X σ C s2 H2 fp->SF (X.comp N' scope cl C s2 H2 fp) (XPc XP σ) (mpC mp n k ix) ifs cond)
  (he:∀ (M0:Addr->Prop) (F:Fp) (Γ:Gv) (ν:Nu) (σ1:St) (H:Hp) (Q:β->Hp->Prop),RS M0 F Γ ν H->Sees (mpC mp n k ix) ν σ1->EPost M0 F ν σ1 H (XPc XP σ) (fun F' Γ' H' d=>∀ y,RB M0 F' H' y d->Q y H') (it Γ)->te σ1 H Q)
  (hq:∀ x Γ F ν H,XQ x Γ F ν σ H->XPc XP σ x Γ F ν σ H) (rs1:RS M0 F1 Γ1 ν H1) (hs:Sees mp ν σ) (hJ:JI M0 F1 J ds H1) (hd:ds.length<=1000000) (hn:Γ1.length=n) (hp:EPost M0 F1 ν σ H1 XQ P (qr k t cond it add ds c0 Γ1))
  (fin:∀ F' Γ' H' ys vs,RS M0 F' Γ' ν H'->RA M0 F' H' vs ys->P F' Γ' H' ys->Stp F1 H1 F' H'->Q vs H') :
  wG ac k ix (gU X N' scope tg σ) (fU X N' scope ifs σ) te σ J H1 Q:=by
 have hνn:ν.length=n:=by rw[rs1.len,hn]
 refine⟨fun i m vs H=>m=ds.length-i/\i<=ds.length/\∃ F' Γ' ys,RS M0 F' Γ' ν H/\Stp F1 H1 F' H/\RA M0 F' H vs ys/\Γ'.length=n/\len ys<=i/\EPost M0 F' ν σ H XQ P (qr k t cond it add (ds.drop i) ys Γ'),⟨ds.length,by simp,Nat.zero_le _,F1,Γ1,c0,rs1,.refl _ _,h0,hn,by rw[hl0]; exact Nat.le_refl _,hp⟩,?_⟩
 rintro i m vs H ⟨rfl,hil,F',Γ',ys,rs,st,rv,hln,hyl,hp⟩
 have hsz:=sizeLine_eq
 refine⟨by rw[AR.len rv]; omega,?_⟩
 by_cases hlt:i<ds.length
 ·rw[List.drop_eq_getElem_cons hlt,qr] at hp
  obtain⟨jgo,jst⟩:=hJ i F' H st rs1.al0
  obtain⟨go,yl⟩:=jgo ds[i] (by simp[hlt])
  refine .inr ⟨go,fun vs' H'=>∃ F'' Γ'' ys',RS M0 F'' Γ'' ν H'/\Stp F1 H1 F'' H'/\RA M0 F'' H' vs' ys'/\Γ''.length=n/\len ys'<=i+1/\EPost M0 F'' ν σ H' XQ P (qr k t cond it add (ds.drop (i+1)) ys' Γ''),fun vs' H' h=>⟨ds.length-(i+1),by omega,rfl,hlt,h⟩,fun x H2 hy=>?_⟩
  obtain⟨s2,rx⟩:=yl x H2 hy
  have rs2:=(rs.same s2).ext k
  have hcl:(cS k ix σ).length=N'.length:=by unfold cS; simp[hN']
  have hsee:Sees (mpC mp n k ix) (ν++List.replicate k none) (cS k ix σ):=fun s j v e1 e2=>by
   by_cases hsk:s<k
   ·rw[zcH hsk] at e1
    cases e1
    rw[List.getElem?_append_right (by omega),List.getElem?_replicate] at e2
    split at e2 <;> cases e2
   ·obtain⟨j',rfl⟩:∃ j',s=k+j':=⟨s-k,by omega⟩
    rw[kq] at e1
    cases q:ix[j']? with
    | none=>rw[q] at e1; cases e1
    | some i0=>
     rw[q] at e1
     obtain⟨m,hm1,hm2⟩:=hm j' i0 q
     have:mp.getD i0 0=m:=by rw[List.getD_eq_getElem?_getD,hm1]; rfl
     have ej:m=j:=by
      have e3:some (mp.getD i0 0)=some j:=e1
      rw[this] at e3; exact Option.some.inj e3
     subst ej
     rw[List.getElem?_append_left (by omega)] at e2
     exact zcd q (hs i0 m v hm1 e2)
  cases et:tgF t ds[i] (Γ'++List.replicate k none) with
  | none=>rw[et] at hp; exact hp.elim
  | some Γ2=>
   rw[et] at hp
   intro cl C s2' H2' fp cat
   refine hg cl C s2' H2' fp cat M0 F' _ Γ2 _ (cS k ix σ) H2 x ds[i] _ rs2 hsee hcl rx et fun F3 ν3 σ3 rs3 s3 hs3 hl3 n3 m3=>⟨?_,fun cl C s2' H2' fp cat=>?_⟩
   ·apply List.ext_getElem?
    intro j
    rw[List.getElem?_drop,List.getElem?_drop]
    by_cases hj:j<ix.length
    ·obtain⟨m,hm1,hm2⟩:=hm j ix[j] (by simp[hj])
     refine m3 (k+j) m ?_ hm2
     rw[kq,List.getElem?_eq_getElem hj]
     show some (mp.getD ix[j] 0)=some m
     rw[List.getD_eq_getElem?_getD,hm1]; rfl
    ·have hl3':σ3.length=N'.length:=hl3
     rw[List.getElem?_eq_none (by omega),List.getElem?_eq_none (by omega)]
   ·have stA:Stp F1 H1 F3 H2:=(st.trans (.same s2)).trans s3
    have back:∀ {F4:Fp} {Γ4:Gv} {H4:Hp},RS M0 F4 Γ4 ν3 H4->RS M0 (Q0 F4 n) (Γ4.take n) ν H4/\Stp F4 H4 (Q0 F4 n) H4:=fun {F4 Γ4 H4} r4=>by
     obtain⟨r5,s5⟩:=r4.cut n
     have:ν3.take n=ν:=by
      apply List.ext_getElem?
      intro j
      by_cases hj:j<n
      ·rw[List.getElem?_take_of_lt hj,n3 j hj,List.getElem?_append_left (by omega)]
      ·rw[List.getElem?_eq_none (by rw[List.length_take]; omega),List.getElem?_eq_none (by omega)]
     rw[this] at r5
     exact⟨r5,s5⟩
    have lenOf:∀ {F4:Fp} {Γ4:Gv} {H4:Hp},RS M0 F4 Γ4 ν3 H4->(Γ4.take n).length=n:=fun {F4 Γ4 H4} r4=>by
     have h1:=r4.len
     have h2:=rs3.len
     have h3:Γ2.length=n+k:=by rw[Vj _ _ _ _ et,List.length_append,List.length_replicate,hln]
     rw[List.length_take]; omega
    refine hc cl C s2' H2' fp cat M0 F3 Γ2 ν3 σ3 H2 _ rs3 hs3 ?_
    dsimp only at hp
    cases ec:cond Γ2 with
    | bad=>rw[ec] at hp; exact hp.elim
    | exc xx yy=>
     rw[ec] at hp
     intro F4 H4 rs4 s4
     obtain⟨r5,s5⟩:=back rs4
     exact hq _ _ _ _ _ (hp _ H4 (by rw[hln]; exact r5) ((((Stp.same s2).trans s3).trans s4).trans s5))
    | ok z=>
     obtain⟨bb,Γ3⟩:=z
     rw[ec] at hp
     intro F4 H4 rs4 s4
     have rvA:RA M0 F4 H4 vs ys:=AR.stp (AR.stp (AR.stp rv (.same s2) rs.al0) s3 (rs.same s2).al0) s4 rs3.al0
     cases bb with
     | false=>
      refine WR ?_
      obtain⟨r5,s5⟩:=back rs4
      have stB:=(stA.trans s4).trans s5
      rw[hln] at hp
      exact⟨_,_,ys,r5,stB,AR.stp rvA s5 rs4.al0,lenOf rs4,by omega,hp.step ((((Stp.same s2).trans s3).trans s4).trans s5)⟩
     | true=>
      refine WS (he M0 F4 Γ3 ν3 σ3 H4 _ rs4 hs3 ?_)
      dsimp only at hp
      cases ee:it Γ3 with
      | bad=>rw[ee] at hp; exact hp.elim
      | exc xx yy=>
       rw[ee] at hp
       intro F5 H5 rs5 s5
       obtain⟨r6,s6⟩:=back rs5
       exact hq _ _ _ _ _ (hp _ H5 (by rw[hln]; exact r6) (((((Stp.same s2).trans s3).trans s4).trans s5).trans s6))
      | ok z=>
       obtain⟨u,Γ4⟩:=z
       rw[ee] at hp
       intro F5 H5 rs5 s5 v hv
       dsimp only at hp
       obtain⟨r6,s6⟩:=back rs5
       have stB:=((stA.trans s4).trans s5).trans s6
       rw[hln] at hp
       exact⟨_,_,add ys u,r6,stB,AR.add (AR.stp (AR.stp rvA s5 rs4.al0) s6 rs5.al0) (AR.bst hv s6 rs5.al0),lenOf rs5,by have:=AR.lin ys u; omega,hp.step (((((Stp.same s2).trans s3).trans s4).trans s5).trans s6)⟩
 ·have e:i=ds.length:=by omega
  subst e
  rw[List.drop_length,qr] at hp
  obtain⟨jgo,jst⟩:=hJ _ F' H st rs1.al0
  exact .inl ⟨jst (Nat.le_refl _),fin F' Γ' H ys vs rs rv (hp F' H rs (.refl _ _)) st⟩
theorem KH {H:Hp}{a b:Addr}{o u:HO}(h:a≠b):upd (upd H a o) b u=upd (upd H b u) a o:=by
 funext c
 unfold upd
 by_cases h1:c=b
 ·rw[if_pos h1,if_neg (fun z=>h (z.symm.trans h1)),if_pos h1]
 ·rw[if_neg h1]
  by_cases h2:c=a
  ·rw[if_pos h2,if_pos h2]
  ·rw[if_neg h2,if_neg h2,if_neg h1]
theorem EPost.noX {α:Type}{M0:Addr->Prop}{F:Fp}{ν:Nu}{σ:St}{H:Hp}{P:Fp->Gv->Hp->α->Prop}{r:R (α×Gv)}(h:EPost M0 F ν σ H XP P (noX r)):EPost M0 F ν σ H XP P r:=by
 cases r with
 | exc x Γ=>exact h.elim
 | ok a=>exact h
 | bad=>exact h
theorem zdZ {α β γ δ:Type}{ac:Acc α β}{ad:γ->δ->γ}{RA:(Addr->Prop)->Fp->Hp->α->γ->Prop}{RB:(Addr->Prop)->Fp->Hp->β->δ->Prop}{ln:γ->Nat}(AR:Ys ac ad RA RB ln){N':List Str}{scope:Scope}{n k:Nat}{ix:List Nat}{t:IT}{cond:EM Bool}{it:EM δ}{te:St->Hp->(β->Hp->Prop)->Prop}{M0:Addr->Prop}{F1:Fp}{ν:Nu}{σ:St}{H1 Hf:Hp}{J:It}{ds:List PyData}{Γ1:Gv}{Q:VK}{c0:γ}
  (hm:∀ j i:Nat,ix[j]?=some i->∃ m,mp[i]?=some m/\m<n) (hN':N'.length=k+ix.length) (h0:∀ M0 F H,RA M0 F H ac.a0 c0) (hl0:ln c0=0)
  (hg:∀ cl C s2 H2 fp,Cat X σ C s2 H2 fp->SG (X.comp N' scope cl C s2 H2 fp) (mpC mp n k ix) (·<n) tg t) (hc:∀ cl C s2 H2 fp,Cat X σ C s2 H2 fp->SF (X.comp N' scope cl C s2 H2 fp) (XPc XP σ) (mpC mp n k ix) ifs cond)
  (he:∀ (M0:Addr->Prop) (F:Fp) (Γ:Gv) (ν:Nu) (σ1:St) (H:Hp) (Q:β->Hp->Prop),RS M0 F Γ ν H->Sees (mpC mp n k ix) ν σ1->EPost M0 F ν σ1 H (XPc XP σ) (fun F' Γ' H' d=>∀ y,RB M0 F' H' y d->Q y H') (it Γ)->te σ1 H Q)
  (rs1:RS M0 F1 Γ1 ν H1) (hs:Sees mp ν σ) (wk:Wk X F1 H1 Hf) (hJ:JI M0 F1 J ds Hf) (hd:ds.length<=1000000) (hn:Γ1.length=n)
  (hp:EPost M0 F1 ν σ H1 XP (fun F' Γ' H' ys=>∀ vs p,RA M0 F' H' vs ys->H' p=none->Q (.ref p) (upd H' p (ac.ho vs))) (noX (qr k t cond it ad ds c0 Γ1))) :
  wG ac k ix (gU X N' scope tg σ) (fU X N' scope ifs σ) te σ J Hf fun ys H2=>∀ p,H2 p=none->(Q (.ref p) (upd H2 p (ac.ho ys))∨∃ a kvs o,upd H2 p (ac.ho ys) a=some (.frz o (.dK kvs))/\(∀ ob u,X.H₀ a≠some (.frz ob u))/\Q (.ref p) (upd (upd H2 p (ac.ho ys)) a (.dK kvs))):=by
 have plain:Hf=H1->wG ac k ix (gU X N' scope tg σ) (fU X N' scope ifs σ) te σ J Hf fun ys H2=>∀ p,H2 p=none->(Q (.ref p) (upd H2 p (ac.ho ys))∨∃ a kvs o,upd H2 p (ac.ho ys) a=some (.frz o (.dK kvs))/\(∀ ob u,X.H₀ a≠some (.frz ob u))/\Q (.ref p) (upd (upd H2 p (ac.ho ys)) a (.dK kvs))):=fun e=>by
  subst e
  exact zY AR hm hN' (h0 _ _ _) hl0 hg hc he (fun _ _ _ _ _ h=>⟨_,_,_,h⟩) rs1 hs hJ hd hn hp.noX fun F' Γ' H' ys vs rs' rv hP st p hp'=>.inl (hP vs p rv hp')
 rcases wk with e | ⟨a,o,kvs,⟨ef,e | ⟨ea,e,hH⟩⟩,hna⟩
 ·exact plain e
 ·exact plain e
 ·subst e
  have hp2:EPost M0 F1 ν σ (upd H1 a (.frz o (.dK kvs))) XP (fun F' Γ' H' ys=>∀ vs p,RA M0 F' (upd H' a (.dK kvs)) vs ys->upd H' a (.dK kvs) p=none->Q (.ref p) (upd (upd H' a (.dK kvs)) p (ac.ho vs))) (qr k t cond it ad ds c0 Γ1):=by
   cases er:qr k t cond it ad ds c0 Γ1 with
   | bad=>rw[er] at hp; exact hp
   | exc x y=>rw[er] at hp; exact hp.elim
   | ok z=>
    rw[er] at hp
    intro F' H' rs' s'
    have ka:=(s'.keep a _ zi hna).1
    exact hp F' _ (rs'.eqv (vo ka) fun i b hb=>ze fun z=>(s'.keep a _ zi hna).2 i (by rw[<- z]; exact hb)) (Kv ea s' hna)
  refine zY AR hm hN' (h0 _ _ _) hl0 hg hc he (fun _ _ _ _ _ h=>⟨_,_,_,h⟩) (rs1.eqv (zcv ⟨zi,.inr ⟨ea,rfl,hH⟩⟩) fun i b hb=>ze fun z=>hna i (by rw[<- z]; exact hb)) hs hJ hd hn hp2 fun F' Γ' H' ys vs rs' rv hP st p hp'=>.inr ⟨a,kvs,o,?_,hH,?_⟩
  ·have ka:=(st.keep a _ zi hna).1
   rw[ze (fun z=>by subst z; rw[ka] at hp'; cases hp')]; exact ka
  ·have ka:=(st.keep a _ zi hna).1
   have hpa:p≠a:=fun z=>by subst z; rw[ka] at hp'; cases hp'
   rw[KH hpa]
   exact hP vs p (AR.eqv rv (vo ka)) (by rw[ze hpa]; exact hp')
theorem zd0 {α β γ δ:Type}{ac:Acc α β}{ad:γ->δ->γ}{RA:(Addr->Prop)->Fp->Hp->α->γ->Prop}{RB:(Addr->Prop)->Fp->Hp->β->δ->Prop}{ln:γ->Nat}(AR:Ys ac ad RA RB ln){N':List Str}{scope:Scope}{n k:Nat}{ix:List Nat}{t:IT}{cond:EM Bool}{it:EM δ}{te:St->Hp->(β->Hp->Prop)->Prop}{M0:Addr->Prop}{F1:Fp}{ν:Nu}{σ:St}{H1 Hf:Hp}{J:It}{z:List PyData×Option (Option Nat)}{Γ1:Gv}{Q:VK}{c0:γ}
  (hm:∀ j i:Nat,ix[j]?=some i->∃ m,mp[i]?=some m/\m<n) (hN':N'.length=k+ix.length) (h0:∀ M0 F H,RA M0 F H ac.a0 c0) (hl0:ln c0=0)
  (hg:∀ cl C s2 H2 fp,Cat X σ C s2 H2 fp->SG (X.comp N' scope cl C s2 H2 fp) (mpC mp n k ix) (·<n) tg t) (hc:∀ cl C s2 H2 fp,Cat X σ C s2 H2 fp->SF (X.comp N' scope cl C s2 H2 fp) (XPc XP σ) (mpC mp n k ix) ifs cond)
  (he:∀ (M0:Addr->Prop) (F:Fp) (Γ:Gv) (ν:Nu) (σ1:St) (H:Hp) (Q:β->Hp->Prop),RS M0 F Γ ν H->Sees (mpC mp n k ix) ν σ1->EPost M0 F ν σ1 H (XPc XP σ) (fun F' Γ' H' d=>∀ y,RB M0 F' H' y d->Q y H') (it Γ)->te σ1 H Q)
  (rs1:RS M0 F1 Γ1 ν H1) (hs:Sees mp ν σ) (hJ:JIw X M0 F1 J z H1 Hf) (hd:z.1.length<=1000000) (hn:Γ1.length=n)
  (hp:EPost M0 F1 ν σ H1 XP (fun F' Γ' H' ys=>∀ vs p,RA M0 F' H' vs ys->H' p=none->Q (.ref p) (upd H' p (ac.ho vs))) (hid z.2 (qr k t cond it ad z.1 c0) Γ1)) :
  wG ac k ix (gU X N' scope tg σ) (fU X N' scope ifs σ) te σ J Hf fun ys H2=>∀ p,H2 p=none->(Q (.ref p) (upd H2 p (ac.ho ys))∨∃ a kvs o,upd H2 p (ac.ho ys) a=some (.frz o (.dK kvs))/\(∀ ob u,X.H₀ a≠some (.frz ob u))/\Q (.ref p) (upd (upd H2 p (ac.ho ys)) a (.dK kvs))):=by
 obtain⟨ds,z⟩:=z
 cases z with
 | none=>
  obtain⟨rfl,hJ⟩:=hJ
  exact zY AR hm hN' (h0 _ _ _) hl0 hg hc he (fun _ _ _ _ _ h=>⟨_,_,_,h⟩) rs1 hs hJ hd hn hp fun F' Γ' H' ys vs rs' rv hP st p hp'=>.inl (hP vs p rv hp')
 | some z=>cases z with
  | none=>exact zdZ AR hm hN' h0 hl0 hg hc he rs1 hs hJ.1 hJ.2 hd hn hp
  | some i=>
   obtain⟨rfl,hJ⟩:=hJ
   dsimp only [hid] at hp
   split at hp
   ·rename_i o eo
    refine zY AR hm hN' (h0 _ _ _) hl0 hg hc he (fun _ _ _ _ _ h=>h) (rs1.hide (i:=i)) hs hJ hd (by rw[List.length_set]; exact hn) (P:=fun F' Γ' H' ys=>∀ vs p,RA (Zn M0 F1 i) F' H' vs ys->H' p=none->Q (.ref p) (upd H' p (ac.ho vs))) (XQ:=XPc XP σ) ?_ fun F' Γ' H' ys vs rs' rv hP st p hp'=>.inl (hP vs p rv hp')
    generalize qr k t cond it ad ds c0 (Γ1.set i none)=r at hp
    cases r with
    | bad=>exact hp
    | exc x Γ2=>
     dsimp only at hp
     split at hp
     ·rename_i e2
      intro F' H' rs' s'
      obtain⟨rs3,s3⟩:=rs1.unhide eo rs' e2 s'
      exact⟨_,_,_,hp _ H' rs3 s3⟩
     ·exact hp.elim
    | ok w=>
     obtain⟨ys,Γ2⟩:=w
     dsimp only at hp
     split at hp
     ·rename_i e2
      intro F' H' rs' s' vs p ra hp'
      obtain⟨rs3,s3⟩:=rs1.unhide eo rs' e2 s'
      exact hp _ H' rs3 s3 vs p (AR.mm (Zq (rs'.emp i fun o z=>by rw[e2] at z; cases z)) ra) hp'
     ·exact hp.elim
   ·exact hp.elim
noncomputable def itL (elt:EM FV):EM PyData:=fun Γ=>(elt Γ).bind fun (u,Γ1)=>match derS Γ1 u with
 | some y=>.ok (y,Γ1)
 | none=>.bad
theorem yn:Ys K6 (fun (ys:List PyData) y=>ys++ [y]) (fun M0 F H vs ys=>RepL (MM M0 F) H vs ys) (fun M0 F H v y=>Rep (MM M0 F) H v y) List.length where
 stp r s h0:=qp s h0 r
 add r q:=RepL.append r (.cons q .nil)
 bst r s h0:=zq s h0 r
 len r:=r.length
 lin y d:=by simp
 eqv r h:=RepL.eqv h r
 mm e r:=by rw[<- e]; exact r
noncomputable def jD (k:Nat) (t:IT) (cond:EM Bool) (elt:EM FV):List PyData->List PyData->Gv->R (List PyData×Gv):=qr k t cond (itL elt) fun ys y=>ys++ [y]
noncomputable def fComp (n k:Nat) (t:IT) (src:EM (List PyData)) (cond:EM Bool) (elt:EM FV):EM (List PyData):=fun Γ=>(src Γ).bind fun (ds,Γ1)=>if ds.length<=1000000/\Γ1.length=n then jD k t cond elt ds [] Γ1 else .bad
theorem zcy {mp':List Nat}{Y:Cx}{el:EM FV}{XP:XPT}(he:SE Y XP mp' elt el){M0:Addr->Prop}{F:Fp}{Γ:Gv}{ν:Nu}{σ:St}{H:Hp}{Q:VK}(rs:RS M0 F Γ ν H) (hs:Sees mp' ν σ) (hp:EPost M0 F ν σ H XP (fun F' Γ' H' d=>∀ y,Rep (MM M0 F') H' y d->Q y H') (itL el Γ)):wpE Y elt σ H Q :=
 he.run rs hs hp fun F1 Γ1 H1 u v rs1 s1 o1 h1=>by
  dsimp only at h1
  split at h1
  ·rename_i y ey
   exact h1 F1 H1 rs1 (.refl _ _) v (o1.strong rs1 ey)
  ·exact h1.elim
theorem vc {N':List Str}{scope:Scope}{n k:Nat}{ix:List Nat}{t:IT}{src:EM (List PyData)}{cond:EM Bool}{el:EM FV}(S:CSc X.env.scope X.N scope N' k ix) (hm:∀ j i:Nat,ix[j]?=some i->∃ m,mp[i]?=some m/\m<n)
  (hi:SI X XP mp tg iter src) (hg:∀ σ cl C s2 H2 fp,Cat X σ C s2 H2 fp->SG (X.comp N' scope cl C s2 H2 fp) (mpC mp n k ix) (·<n) tg t) (hc:∀ σ cl C s2 H2 fp,Cat X σ C s2 H2 fp->SF (X.comp N' scope cl C s2 H2 fp) (XPc XP σ) (mpC mp n k ix) ifs cond) (he:∀ σ cl C s2 H2 fp,Cat X σ C s2 H2 fp->SE (X.comp N' scope cl C s2 H2 fp) (XPc XP σ) (mpC mp n k ix) elt el) :
  SNt XP mp (wj k ix (wpI X tg iter) (gU X N' scope tg) (fU X N' scope ifs) (eU X N' scope elt)) (fComp n k t src cond el):=fun M0 F Γ ν σ H Q rs hs hp=>by
 refine hi M0 F Γ ν σ H _ rs hs (hp.seq.mono fun F1 Γ1 H1 ds rs1 s1 h1 J hJ=>?_)
 dsimp only at h1
 split at h1
 ·rename_i hh
  exact zY yn hm S.len .nil rfl (hg σ) (hc σ) (fun M0 F Γ ν σ1 H Q rs hs hp cl C s2 H2 fp c=>zcy (he σ cl C s2 H2 fp c) rs hs hp) (fun _ _ _ _ _ h=>⟨_,_,_,h⟩) rs1 hs hJ hh.1 hh.2 h1 fun F' Γ' H' ys vs rs' rv hP _ p hp'=>hP vs p rv hp'
 ·exact h1.elim
theorem zbc {N':List Str}{scope:Scope}{n k:Nat}{ix:List Nat}{t:IT}{src:EM (List PyData)}{cond:EM Bool}{el:EM FV}(hcalm:X.calm=true) (S:CSc X.env.scope X.N scope N' k ix) (hm:∀ j i:Nat,ix[j]?=some i->∃ m,mp[i]?=some m/\m<n)
  (hi:SI X XP mp tg iter src) (hg:∀ σ cl C s2 H2 fp,Cat X σ C s2 H2 fp->SG (X.comp N' scope cl C s2 H2 fp) (mpC mp n k ix) (·<n) tg t) (hc:∀ σ cl C s2 H2 fp,Cat X σ C s2 H2 fp->SF (X.comp N' scope cl C s2 H2 fp) (XPc XP σ) (mpC mp n k ix) ifs cond) (he:∀ σ cl C s2 H2 fp,Cat X σ C s2 H2 fp->SE (X.comp N' scope cl C s2 H2 fp) (XPc XP σ) (mpC mp n k ix) elt el)
  (hf:∀ x,foldedSetIterable iter X.env x=pure x):SN X XP mp (.ListComp elt [⟨tg,iter,ifs,0⟩] scope pos) (fComp n k t src cond el):=fun M0 F Γ ν σ H Q rs hs hp=>
 (kF hcalm S hf).wp (vc S hm hi hg hc he M0 F Γ ν σ H Q rs hs hp)
noncomputable def SD (X:Cx) (XP:XPT) (mp:List Nat) (e:Expr) (f:EM (List (Str×PyData))):Prop:=∀ (M0:Addr->Prop) (F:Fp) (Γ:Gv) (ν:Nu) (σ:St) (H:Hp) (Q:VK),RS M0 F Γ ν H->Sees mp ν σ ->
 EPost M0 F ν σ H XP (fun F' Γ' H' ds=>∀ ks p,KR (MM M0 F') H' ks ds->H' p=none->Q (.ref p) (upd H' p (.dK (ks.map kK)))) (f Γ)->wpE X e σ H Q
noncomputable def SDt (XP:XPT) (mp:List Nat) (t:TE) (f:EM (List (Str×PyData))):Prop:=∀ (M0:Addr->Prop) (F:Fp) (Γ:Gv) (ν:Nu) (σ:St) (H:Hp) (Q:VK),RS M0 F Γ ν H->Sees mp ν σ ->
 EPost M0 F ν σ H XP (fun F' Γ' H' ds=>∀ ks p,KR (MM M0 F') H' ks ds->H' p=none->Q (.ref p) (upd H' p (.dK (ks.map kK)))) (f Γ)->t σ H Q
theorem KR.stp {M0:Addr->Prop}{F F':Fp}{H H':Hp}{ks:List (Str×V)}{ds:List (Str×PyData)}(h:KR (MM M0 F) H ks ds) (s:Stp F H F' H') (h0:∀ a,M0 a->H a≠none):KR (MM M0 F') H' ks ds:=h.map fun _ _ x=>zq s h0 x
noncomputable def itD (ek ev:EM FV):EM (Str×PyData):=fun Γ=>(ek Γ).bind fun (u,Γ1)=>match derf Γ1 u with
 | some (.str x)=>(ev Γ1).bind fun (w,Γ2)=>match derS Γ2 w with
  | some y=>.ok ((x,y),Γ2)
  | none=>.bad
 | _=>.bad
theorem JG:Ys K5 (fun (ys:List (Str×PyData)) (y:Str×PyData)=>JB ys y.1 y.2) (fun M0 F H kvs ys=>∃ ks,kvs=ks.map kK/\KR (MM M0 F) H ks ys) (fun M0 F H (u:Key×V) (y:Str×PyData)=>u.1=.inr y.1/\Rep (MM M0 F) H u.2 y.2) List.length where
 stp:=fun ⟨ks,e,r⟩ s h0=>⟨ks,e,KR.stp r s h0⟩
 add:=fun {M0 F H x y u d} ⟨ks,e,r⟩ ⟨q1,q2⟩=>⟨JB ks d.1 u.2,by rw[e,<- zaN,<- q1],r.put d.1 q2⟩
 bst:=fun ⟨q1,q2⟩ s h0=>⟨q1,zq s h0 q2⟩
 len:=fun ⟨ks,e,r⟩=>by rw[e]; show (ks.map kK).length=_; rw[List.length_map,r.length]
 lin y d:=WY y d.1 d.2
 eqv:=fun ⟨ks,e,r⟩ h=>⟨ks,e,r.map fun _ _ x=>Rep.eqv h x⟩
 mm:=fun e ⟨ks,e',r⟩=>⟨ks,e',by rw[<- e]; exact r⟩
noncomputable def eD (X:Cx) (N':List Str) (scope:Scope) (kx vx:Expr) (σ0:St):St->Hp->(Key×V->Hp->Prop)->Prop:=vn (eU X N' scope kx σ0) (eU X N' scope vx σ0)
noncomputable def wL (n k:Nat) (t:IT) (src:EM (List PyData×Option (Option Nat))) (cond:EM Bool) (ek ev:EM FV):EM (List (Str×PyData)):=fun Γ=>(src Γ).bind fun (z,Γ1)=>if z.1.length<=1000000/\Γ1.length=n then hid z.2 (qr k t cond (itD ek ev) (fun ys y=>JB ys y.1 y.2) z.1 []) Γ1 else .bad
theorem yW {kx vx:Expr}{N':List Str}{scope:Scope}{k:Nat}{ix:List Nat}(hcalm:X.calm=true) (S:CSc X.env.scope X.N scope N' k ix) (hf:∀ x,foldedSetIterable iter X.env x=pure x) :
  PE X (.DictComp kx vx [⟨tg,iter,ifs,0⟩] scope pos) (ZN k ix (wpI X tg iter) (gU X N' scope tg) (fU X N' scope ifs) (eD X N' scope kx vx)) :=
 kE hcalm S Zt (fun _ cl C s2 H2 fp c pins s σ H v u Q I r h=>h cl C s2 H2 fp c pins s u I r) (fun _ cl C s2 H2 fp c pins s σ H Q I h=>h cl C s2 H2 fp c pins s I)
  (fun _ cl C s2 H2 fp c pins s σ H Q I h=>h cl C s2 H2 fp c pins s I) (fun _ cl C s2 H2 fp c pins s σ H Q I h=>h cl C s2 H2 fp c pins s I) hf
theorem zbH {N':List Str}{scope:Scope}{mp':List Nat}{kx vx:Expr}{ek ev:EM FV}{σ0:St}(hk:∀ cl C s2 H2 fp,Cat X σ0 C s2 H2 fp->SE (X.comp N' scope cl C s2 H2 fp) (XPc XP σ0) mp' kx ek) (hv:∀ cl C s2 H2 fp,Cat X σ0 C s2 H2 fp->SE (X.comp N' scope cl C s2 H2 fp) (XPc XP σ0) mp' vx ev){M0:Addr->Prop}{F:Fp}{Γ:Gv}{ν:Nu}{σ:St}{H:Hp}{Q:Key×V->Hp->Prop}(rs:RS M0 F Γ ν H) (hs:Sees mp' ν σ)
  (hp:EPost M0 F ν σ H (XPc XP σ0) (fun F' Γ' H' d=>∀ y:Key×V,(y.1=.inr d.1/\Rep (MM M0 F') H' y.2 d.2)->Q y H') (itD ek ev Γ)):eD X N' scope kx vx σ0 σ H Q:=fun cl C s2 H2 fp c=>
 (hk cl C s2 H2 fp c).run rs hs hp fun F1 Γ1 H1 u v rs1 s1 o1 h1=>by
  dsimp only at h1
  split at h1
  ·rename_i x ex
   cases o1.weak rs1 ex
   intro cl C s2 H2 fp c
   refine (hv cl C s2 H2 fp c).run rs1 hs h1 fun F2 Γ2 H2 w v2 rs2 s2 o2 h2=>?_
   dsimp only at h2
   split at h2
   ·rename_i y ey
    exact⟨.inr x,rfl,h2 F2 H2 rs2 (.refl _ _) (.inr x,v2) ⟨rfl,o2.strong rs2 ey⟩⟩
   ·exact h2.elim
  ·exact h1.elim
theorem zaW {kx vx:Expr}{N':List Str}{scope:Scope}{n k:Nat}{ix:List Nat}{t:IT}{src:EM (List PyData×Option (Option Nat))}{cond:EM Bool}{ek ev:EM FV}(hcalm:X.calm=true) (S:CSc X.env.scope X.N scope N' k ix) (hm:∀ j i:Nat,ix[j]?=some i->∃ m,mp[i]?=some m/\m<n)
  (hi:SIw X XP mp tg iter src) (hg:∀ σ cl C s2 H2 fp,Cat X σ C s2 H2 fp->SG (X.comp N' scope cl C s2 H2 fp) (mpC mp n k ix) (·<n) tg t) (hc:∀ σ cl C s2 H2 fp,Cat X σ C s2 H2 fp->SF (X.comp N' scope cl C s2 H2 fp) (XPc XP σ) (mpC mp n k ix) ifs cond) (hk:∀ σ cl C s2 H2 fp,Cat X σ C s2 H2 fp->SE (X.comp N' scope cl C s2 H2 fp) (XPc XP σ) (mpC mp n k ix) kx ek) (hv:∀ σ cl C s2 H2 fp,Cat X σ C s2 H2 fp->SE (X.comp N' scope cl C s2 H2 fp) (XPc XP σ) (mpC mp n k ix) vx ev)
  (hf:∀ x,foldedSetIterable iter X.env x=pure x):SD X XP mp (.DictComp kx vx [⟨tg,iter,ifs,0⟩] scope pos) (wL n k t src cond ek ev):=fun M0 F Γ ν σ H Q rs hs hp=>
 KW ((yW hcalm S hf).wp (hi M0 F Γ ν σ H _ rs hs (hp.seq.mono fun F1 Γ1 H1 z rs1 s1 h1 J Hf hJ=>by
  dsimp only at h1
  split at h1
  ·rename_i hh
   exact zd0 JG hm S.len (fun _ _ _=>⟨[],rfl,.nil⟩) rfl (hg σ) (hc σ) (fun M0 F Γ ν σ1 H Q rs hs hp=>zbH (hk σ) (hv σ) rs hs hp) rs1 hs hJ hh.1 hh.2 (h1.mono fun F' Γ' H' ys rs' s' hP vs p ⟨ks,e,r⟩ hp'=>by rw[e]; exact hP ks p r hp')
  ·exact h1.elim)))
theorem k6 {kx vx:Expr}{N':List Str}{scope:Scope}{n k:Nat}{ix:List Nat}{t:IT}{src:EM (List PyData)}{cond:EM Bool}{ek ev:EM FV}(S:CSc X.env.scope X.N scope N' k ix) (hm:∀ j i:Nat,ix[j]?=some i->∃ m,mp[i]?=some m/\m<n)
  (hi:SI X XP mp tg iter src) (hg:∀ σ cl C s2 H2 fp,Cat X σ C s2 H2 fp->SG (X.comp N' scope cl C s2 H2 fp) (mpC mp n k ix) (·<n) tg t) (hc:∀ σ cl C s2 H2 fp,Cat X σ C s2 H2 fp->SF (X.comp N' scope cl C s2 H2 fp) (XPc XP σ) (mpC mp n k ix) ifs cond) (hk:∀ σ cl C s2 H2 fp,Cat X σ C s2 H2 fp->SE (X.comp N' scope cl C s2 H2 fp) (XPc XP σ) (mpC mp n k ix) kx ek) (hv:∀ σ cl C s2 H2 fp,Cat X σ C s2 H2 fp->SE (X.comp N' scope cl C s2 H2 fp) (XPc XP σ) (mpC mp n k ix) vx ev) :
  SDt XP mp (ZN k ix (wpI X tg iter) (gU X N' scope tg) (fU X N' scope ifs) (eD X N' scope kx vx)) (wL n k t (zal src) cond ek ev):=fun M0 F Γ ν σ H Q rs hs hp=>by
 unfold wL zal at hp
 rw[R.bind_assoc] at hp
 refine hi M0 F Γ ν σ H _ rs hs (hp.seq.mono fun F1 Γ1 H1 ds rs1 s1 h1 J hJ=>?_)
 simp only[R.bind,hid] at h1
 split at h1
 ·rename_i hh
  exact zY JG hm S.len ⟨[],rfl,.nil⟩ rfl (hg σ) (hc σ) (fun M0 F Γ ν σ1 H Q rs hs hp=>zbH (hk σ) (hv σ) rs hs hp) (fun _ _ _ _ _ h=>⟨_,_,_,h⟩) rs1 hs hJ hh.1 hh.2 h1 fun F' Γ' H' ys vs rs' ⟨ks,e,r⟩ hP _ p hp'=>by
   rw[e]; exact hP ks p r hp'
 ·exact h1.elim
theorem kS {kx vx:Expr}{N':List Str}{scope:Scope}{k:Nat}{ix:List Nat}{i:Nat}{x:Str}{pos' spos:Pos}(hN:X.N.Nodup) (hi':X.N[i]?=some x) (hx:Loc X.env.scope x) (hcalm:X.calm=true) (S:CSc X.env.scope X.N scope N' k ix)
  (hsw:swapsWith (.DictComp kx vx [⟨tg,iter,ifs,0⟩] scope pos) (some (.Name x pos')) spos.line X.env=pure true) (hs:∀ x,foldedSetIterable iter X.env x=pure x) (hf:X.fn x=true∨X.env.scope.names.lookup x=some .local) :
  PS X (.Assign [.Name x pos'] (.DictComp kx vx [⟨tg,iter,ifs,0⟩] scope pos) spos) (Wc (ZN k ix (wpI X tg iter) (gU X N' scope tg) (fU X N' scope ifs) (eD X N' scope kx vx)) (Q6 i)) :=
 kR hN hi' hx hcalm S Zt (fun _ cl C s2 H2 fp c pins s σ H v u Q I r h=>h cl C s2 H2 fp c pins s u I r) (fun _ cl C s2 H2 fp c pins s σ H Q I h=>h cl C s2 H2 fp c pins s I)
  (fun _ cl C s2 H2 fp c pins s σ H Q I h=>h cl C s2 H2 fp c pins s I) (fun _ cl C s2 H2 fp c pins s σ H Q I h=>h cl C s2 H2 fp c pins s I) hsw hs hf
end
end L3
namespace L2
open PySem PySem.Spec PyProof.Rows
variable [Cs]
noncomputable def zdD (tk tv:TE):TE:=fun σ H Q=>tk σ H fun x H1=>tv σ H1 fun y H2=>∃ k:Key,x=kV k/\∀ p,H2 p=none->Q (.ref p) (upd H2 p (.dK [(k,y)]))
theorem kG {X:Cx}{pos:Pos}{k v:Expr}{tk tv:TE}(hk:PE X k tk) (hv:PE X v tv):PE X (.Dict [some k] [v] pos) (zdD tk tv):=by
 intro pins s σ H Q I q
 have hn:=I.hok.fresh (Nat.le_refl s.heap.objs.size)
 have e0:(s.heap.push { cls:=.type "dict",data:=.dict #[] }).get? s.heap.objs.size=some { cls:=.type "dict",data:=.dict #[] }:=Heap.get?_push_size _ rfl
 have I0:Inv X pins σ H { s with heap:=s.heap.push { cls:=.type "dict",data:=.dict #[] } }:=I.kept (t':=s.toks) fun b o e=>Heap.get?_push_of_some _ e
 have I1:=I0.pinned (fp:= [s.heap.objs.size]) (fun b hb=>by
  have e:b=s.heap.objs.size:=by simpa using hb
  subst e
  exact I.fpOk (Nat.le_refl _) hn) (fun b hb=>by
  have e:b=s.heap.objs.size:=by simpa using hb
  subst e
  exact⟨_,e0,fun v z=>by cases z⟩)
 refine wpAny_Dict_walk (knd:=qj X.prog X.w) rfl rfl (by simp) (by simp) (pairTrees_cons_walk (thn (hk _ _ σ _ _ I1 q) fun kv s2 ⟨x,H1,I2,rx,q1⟩=>thn (hv _ _ σ _ _ I2 q1) fun vv s3 ⟨y,H2,I3,ry,kk,ek,q2⟩=>pairTrees_nil_walk ?_))
 have hm:=qv (fp:= [s.heap.objs.size]) (by simp) e0
 obtain⟨p1,p2,_⟩:=I3.pin _ (List.mem_append_right _ (List.mem_append_right _ hm))
 have I4:Inv X pins σ H2 s3:=I3.unpinned
 subst ek
 refine⟨[(kk,vv)],⟨zbP rx,rfl,True.intro⟩,⟨_,#[],0,p1,⟨rfl,rfl,rfl⟩,rfl,fun _ he=>by simp at he,Pairs.nil,List.nodup_nil⟩,fun h' dd hs=>⟨.ref s.heap.objs.size,_,?_,rfl,q2 _ p2⟩⟩
 have em:merged [] [(kk,vv)]= [(kk,vv)]:=rfl
 rw[em] at dd
 have I5:Inv X pins σ H2 { s3 with heap:=h',toks:=s3.toks+ [(kv,vv)].length }:=I4.turned (it:=s.heap.objs.size) (fun b o hb e=>(hs.2 b hb).trans e) p2 (Ne.symm (Nat.ne_of_lt I.lt)) (.inr I.sz)
  (fun x c e=>by
   obtain⟨v,ob,hob,_⟩:=I.cell x c e
   exact Nat.ne_of_lt (Heap.lt_size hob)) (fun p hp=>Nat.ne_of_lt (Heap.lt_size (I.pin p hp).1))
 exact I5.track I.sz p2 (Ne.symm (Nat.ne_of_lt I.lt)) (fun x c e=>by
   obtain⟨v,ob,hob,_⟩:=I.cell x c e
   exact Nat.ne_of_lt (Heap.lt_size hob)) (fun p hp=>Nat.ne_of_lt (Heap.lt_size (I.pin p hp).1)) (zcm (by show 1<=sizeLine; decide) (beq_eq_false_iff_ne.mpr (Ne.symm (Nat.ne_of_lt I.big))) (.cons ⟨rfl,ry⟩ .nil) dd)
end L2
namespace L3
open PySem PySem.Spec PyProof.Rows L2
noncomputable def ixF:List Str->Str->Option Nat
 | [],_=>none
 | n::ns,f=>if n=f then some 0 else (ixF ns f).map (·+1)
variable [Cs]
theorem ORL.at' {M:Addr->Prop}{H:Hp}:∀ {vs:List V}{xs:List OV}{A:List Addr}{j:Nat}{x:OV},ORL M H vs xs A->xs[j]?=some x->∃ v A1 B A2,vs[j]?=some v/\OR M H v x B/\A=A1++(B++A2) /\
  ∀ (M':Addr->Prop) (H':Hp) (v':V) (x':OV) (B':List Addr),(∀ w d,Rep M H w d->Rep M' H' w d)->(∀ c xs,H c=some (.tup xs)->H' c=some (.tup xs))->(∀ b∈A1++A2,H' b=H b)->OR M' H' v' x' B'->ORL M' H' (vs.set j v') (xs.set j x') (A1++(B'++A2))
 | _,_,_,_,_,.nil,e=>by simp at e
 | _,_,_,0,x,.cons (A:=A) (B:=B) r t,e=>by
  simp at e
  subst e
  exact⟨_,[],A,B,rfl,r,rfl,fun M' H' v' x' B' hr ht hk q=>ORL.cons (A:=B') (B:=B) q (t.go hr ht fun b hb=>hk b (by simpa using hb))⟩
 | _,_,_,j+1,x,.cons (A:=A) (B:=B) r t,e=>by
  obtain⟨v,A1,C,A2,h1,h2,h3,h4⟩:=ORL.at' (j:=j) t (by simpa using e)
  refine⟨v,A++A1,C,A2,by simpa using h1,h2,by rw[h3]; simp,fun M' H' v' x' B' hr ht hk q=>?_⟩
  have:=ORL.cons (r.go hr ht fun b hb=>hk b (by simp[hb])) (h4 M' H' v' x' B' hr ht (fun b hb=>hk b (by simp at hb |-; rcases hb with h | h <;> simp[h])) q)
  simpa using this
section
variable {M0:Addr->Prop} {F F':Fp} {Γ Γ':Gv} {ν ν':Nu} {H H':Hp} {c:Str} {ns:List Str} {xs:List OV}
theorem zcI {i:Nat}{v:V}(h:ν[i]?=some (some v)):ν.set i (some v)=ν:=by
 apply List.ext_getElem?
 intro k
 by_cases hk:i=k
 ·subst hk; rw[List.getElem?_set_self (List.getElem?_eq_some_iff.mp h).1,h]
 ·rw[List.getElem?_set_ne hk]
theorem RS.wrO {i:Nat}{b:Addr}{u:HO}{o:OV}{v:V}{A:List Addr}(r:RS M0 F Γ ν H) (hi:i<Γ.length) (hv:ν[i]?=some (some v)) (hb:b∈F i) (hu:∀ xs,H b≠some (.tup xs)) (hsub:∀ a∈A,a∈F i) (hnd:A.Nodup)
  (q:(∀ w d,Rep (MM M0 F) H w d->Rep (MM M0 (zF F i A)) (upd H b u) w d)->(∀ c xs,H c=some (.tup xs)->upd H b u c=some (.tup xs))->OR (MM M0 (zF F i A)) (upd H b u) v o A) :
  ∃ F',RS M0 F' (Γ.set i (some o)) ν (upd H b u)/\Stp F H F' (upd H b u):=by
 have ht:∀ c xs,H c=some (.tup xs)->upd H b u c=some (.tup xs):=fun c xs e=>by
  rw[ze (fun z=>by subst z; exact hu xs e)]; exact e
 have s:Stp F H (zF F i A) (upd H b u):=⟨fun c o ec nc=>⟨by
   rw[ze (fun z=>by subst z; exact nc i hb)]; exact ec,fun k h=>by
   by_cases hk:k=i
   ·subst hk; rw[zg] at h; exact nc _ (hsub _ h)
   ·rw[zk hk] at h; exact nc _ h⟩,ht,fun c h=>by
   by_cases z:c=b
   ·subst z; rw[zi]; exact fun z=>nomatch z
   ·rw[ze z]; exact h⟩
 have r1:=r.put (i:=i) (o:=o) (v:=v) (A:=A) (H':=upd H b u) s (fun k hk c hc=>ze fun z=>by subst z; exact hk (r.dis _ _ _ hc hb))
  (fun c h=>s.stay c (r.al0 c h)) (fun a ha=>r.dis0 i a (hsub a ha)) hnd (fun k hk c hc h=>hk (r.dis _ _ c h (hsub c hc))) hi (q (fun w d x=>zq s r.al0 x) ht)
 rw[zcI hv] at r1
 exact⟨_,r1,s⟩
end
structure FldK (X:Cx) (c f:Str):Prop where
 cl:Cls X.K (Cs.adr c)
 no:jF X.K (Cs.adr c) f
section
variable {X:Cx} {XP:XPT} {mp io:List Nat} {a b e:Expr} {es:List Expr} {pos p p2 pos' p3:Pos} {fa fb fc:EM FV} {fo:EM OV} {kx:Nat} {c f x:Str} {s i:Nat} {M0:Addr->Prop} {F:Fp} {Γ:Gv} {ν:Nu} {σ:St} {H:Hp}
structure FldAt (M0:Addr->Prop) (F:Fp) (Γ:Gv) (ν:Nu) (H:Hp) (i:Nat) (c f:Str) (o:OV) (v:V):Prop where
 ex:∃ a dx fs ns xs j A1 B A2,Γ[i]?=some (some (.o c ns xs))/\ν[i]?=some (some (.ref a))/\H a=some (.ins (Cs.adr c) dx fs)/\fs.map (·.1)=ns/\ixF ns f=some j/\xs[j]?=some o/\fs[j]?=some (f,v)/\OR (MM M0 F) H v o B/\F i=a::(A1++(B++A2)) /\
  ∀ (M':Addr->Prop) (H':Hp) (v':V) (x':OV) (B':List Addr),(∀ w d,Rep (MM M0 F) H w d->Rep M' H' w d)->(∀ c xs,H c=some (.tup xs)->H' c=some (.tup xs))->(∀ b∈A1++A2,H' b=H b)->OR M' H' v' x' B'->ORL M' H' ((fs.set j (f,v')).map (·.2)) (xs.set j x') (A1++(B'++A2))
noncomputable def za4 (c:Str) (ns:List Str) (xs:List OV) (f:Str) (o:OV):OV:=match ixF ns f with
 | some j=>.o c ns (xs.set j o)
 | none=>.o c (ns++ [f]) (xs++ [o])
end
end L3
namespace L3
open PySem PySem.Spec PyProof.Rows L2
noncomputable def zbv (Γ:Gv) (i:Nat) (f:Str) (o:OV):Gv:=match Γ[i]? with
 | some (some (.o c ns xs))=>Γ.set i (some (za4 c ns xs f o))
 | _=>Γ
variable [Cs]
section
variable {X:Cx} {XP:XPT} {mp io:List Nat} {a b e:Expr} {es:List Expr} {pos p p2 pos' p3:Pos} {fa fb fc:EM FV} {fo:EM OV} {kx:Nat} {c f x:Str} {s i:Nat} {M0:Addr->Prop} {F:Fp} {Γ:Gv} {ν:Nu} {σ:St} {H H':Hp}
theorem FldAt.same {o o':OV}{v v':V}(h:FldAt M0 F Γ ν H i c f o v) (h':FldAt M0 F Γ ν H' i c f o' v') (s:Same H H'):v=v':=by
 obtain⟨a,dx,fs,ns,xs,j,_,_,_,e1,e2,e3,_,e5,_,e7,_⟩:=h.ex
 obtain⟨a',dx',fs',ns',xs',j',_,_,_,e1',e2',e3',_,e5',_,e7',_⟩:=h'.ex
 rw[e1] at e1'; cases e1'
 rw[e2] at e2'; cases e2'
 rw[s _ _ e3] at e3'; cases e3'
 rw[e5] at e5'; cases e5'
 rw[e7] at e7'; cases e7'
 rfl
theorem FldAt.mut {o o':OV}{b:Addr}{u:HO}{Bs:List Addr}(h:FldAt M0 F Γ ν H i c f o (.ref b)) (rs:RS M0 F Γ ν H) (hB:∀ B,OR (MM M0 F) H (.ref b) o B->B=b::Bs) (hu:∀ xs,H b≠some (.tup xs)) (hui:∀ C dx fs,H b≠some (.ins C dx fs))
  (q:∀ (M':Addr->Prop) (H':Hp),H' b=some u->(∀ w d,Rep (MM M0 F) H w d->Rep M' H' w d)->(∀ b'∈Bs,b'≠b->H' b'=H b')->(∀ c xs,H c=some (.tup xs)->H' c=some (.tup xs))->OR M' H' (.ref b) o' (b::Bs)) :
  ∃ F',RS M0 F' (zbv Γ i f o') ν (upd H b u)/\Stp F H F' (upd H b u):=by
 obtain⟨a,dx,fs,ns,xs,j,A1,B,A2,e1,e2,e3,e4,e5,e6,e7,e8,e9,e10⟩:=h.ex
 have eB:=hB B e8
 subst eB
 have hi:i<Γ.length:=(List.getElem?_eq_some_iff.mp e1).1
 have hba:b≠a:=fun z=>by subst z; exact hui _ _ _ e3
 have hbF:b∈F i:=by rw[e9]; simp
 have hnd:=rs.nd i
 have hset:zbv Γ i f o'=Γ.set i (some (.o c ns (xs.set j o'))):=by
  unfold zbv
  rw[e1]
  show Γ.set i (some (za4 c ns xs f o'))=_
  unfold za4
  rw[e5]
 rw[hset]
 have hfs:fs.set j (f,.ref b)=fs:=by
  apply List.ext_getElem?
  intro k
  by_cases hk:j=k
  ·subst hk; rw[List.getElem?_set_self (List.getElem?_eq_some_iff.mp e7).1,e7]
  ·rw[List.getElem?_set_ne hk]
 refine rs.wrO (A:=F i) hi e2 hbF hu (fun _ h=>h) hnd fun hr ht=>?_
 rw[e9] at hnd
 have hndc:=List.nodup_cons.mp hnd
 have n1:=List.nodup_append.mp hndc.2
 have n2:=List.nodup_append.mp n1.2.1
 have hnot:∀ b',b'∈A1++A2->b'≠b:=fun b' hb' z=>by
  subst z
  rcases List.mem_append.mp hb' with h | h
  ·exact n1.2.2 _ h _ (by simp) rfl
  ·exact n2.2.2 _ List.mem_cons_self _ h rfl
 have:=e10 (MM M0 (zF F i (F i))) (upd H b u) (.ref b) o' (b::Bs) hr ht (fun b' hb'=>ze (hnot b' hb')) (q _ _ zi hr (fun b' _ hne=>ze hne) ht)
 rw[hfs] at this
 have e9':=e9
 generalize MM M0 (zF F i (F i))=MX at this |-
 rw[e9]
 exact .o (by rw[ze (Ne.symm hba)]; exact e3) e4 this
theorem FldAt.lst {ys:List OV}{ds:List PyData}{v:V}(h:FldAt M0 F Γ ν H i c f (.l ys) v) (rs:RS M0 F Γ ν H) (hl:leaves ys=some ds):∃ b us,v=.ref b/\H b=some (.lst us)/\RepL (MM M0 F) H us ds /\
  ∀ us' ds',RepL (MM M0 F) H us' ds'->∃ F',RS M0 F' (zbv Γ i f (.l (ds'.map .d))) ν (upd H b (.lst us'))/\Stp F H F' (upd H b (.lst us')):=by
 obtain⟨a,dx,fs,ns,xs,j,A1,B,A2,e1,e2,e3,e4,e5,e6,e7,e8,e9,e10⟩:=id h.ex
 cases e8 with
 | @l b us _ A' eb qb=>
  obtain⟨q1,q2⟩:=qb.leaf hl
  subst q2
  refine⟨b,us,rfl,eb,q1,fun us' ds' r'=>h.mut (Bs:= []) rs (fun B q=>?_) (fun xs z=>by rw[eb] at z; cases z) (fun C dx fs z=>by rw[eb] at z; cases z) fun M' H' hb hr _ _=>.l hb (ORL.data (Zw hr r'))⟩
  cases q with
  | @l _ us2 _ A2 eb2 qb2=>
   rw[(qb2.leaf hl).2]
end
end L3
namespace L3
open PySem PySem.Spec PyProof.Rows L2
noncomputable def zd1 (Γ:Gv):FV->Option (List (Str×PyData))
 | .dat (.dict kv)=>unD kv
 | .own i=>match Γ[i]? with
  | some (some (.m ds))=>some ds
  | some (some (.d (.dict kv)))=>unD kv
  | _=>none
 | _=>none
variable [Cs]
theorem Rep.tab {M:Addr->Prop}{H:Hp}{v:V}{kv:List (PyData×PyData)}{ds:List (Str×PyData)}(r:Rep M H v (.dict kv)) (e:unD kv=some ds):∃ a ks,v=.ref a/\¬ M a/\Rd H a (.dK (ks.map kK))/\KR M H ks ds:=by
 obtain⟨a,rfl,n,h | h⟩:=r.dict_inv
 ·obtain⟨ks,ds',h1,rfl,h2⟩:=h
  rw[zbq] at e; cases e
  exact⟨a,ks,rfl,n,h1,h2⟩
 ·obtain⟨_,_,_,_,_,rfl,_⟩:=h
  cases e
theorem RepL.strs {M:Addr->Prop}{H:Hp}:∀ (ss:List Str),RepL M H (ss.map V.str) (ss.map .str)
 | []=>.nil
 | x::r=>.cons (.str x) (RepL.strs r)
section
variable {X:Cx} {XP:XPT} {mp io:List Nat} {a b c e tg iter elt:Expr} {es ifs:List Expr} {pos p p2 pos' p3:Pos} {fa fb fc:EM FV} {fo:EM OV} {na:EM (List PyData)} {ma:EM (List (Str×PyData))} {kx:Nat} {cl f x:Str} {s i:Nat} {M0:Addr->Prop} {F:Fp} {Γ:Gv} {ν:Nu} {σ:St} {H H':Hp} {u:FV} {v:V}
theorem FOk.dict {ds:List (Str×PyData)}(h:FOk M0 F ν H v u) (rs:RS M0 F Γ ν H) (e:zd1 Γ u=some ds):∃ a ks,v=.ref a/\Rd H a (.dK (ks.map kK))/\KR (MM M0 F) H ks ds:=by
 cases u with
 | dat y=>
  cases y <;> try (cases e; done)
  rename_i kv
  obtain⟨a,ks,h1,_,h2,h3⟩:=Rep.tab (show Rep (MM M0 F) H v _ from h) e
  exact⟨a,ks,h1,h2,h3⟩
 | own i=>
  have hv:ν[i]?=some (some v):=h
  dsimp only [zd1] at e
  split at e
  ·rename_i ds' q
   cases e
   obtain⟨w,e1,r⟩:=rs.at' i _ q
   rw[hv] at e1; cases e1
   generalize F i=A at r
   cases r with
   | m ea k r=>exact⟨_,_,rfl,.inl ea,.of k r⟩
  ·rename_i kv q
   obtain⟨w,e1,r⟩:=rs.at' i _ q
   rw[hv] at e1; cases e1
   generalize F i=A at r
   cases r with
   | d r=>
    obtain⟨a,ks,h1,_,h2,h3⟩:=Rep.tab r e
    exact⟨a,ks,h1,h2,h3⟩
  ·cases e
theorem RS.newM {p:Addr}{ks:List (Str×V)}{ds:List (Str×PyData)}(r:RS M0 F Γ ν H) (n:H p=none) (q:KR (MM M0 F) H ks ds) :
  RS M0 (zF F Γ.length [p]) (Γ++ [some (.m ds)]) (ν++ [some (.ref p)]) (upd H p (.dK (ks.map kK)))/\Stp F H (zF F Γ.length [p]) (upd H p (.dK (ks.map kK))):=by
 have hp:∀ i,p∉F i:=fun i h=>by
  obtain⟨vs,e⟩:=r.laidF h
  rw[n] at e; cases e
 have s:Stp F H (zF F Γ.length [p]) (upd H p (.dK (ks.map kK))):=⟨fun b o e nb=>⟨zv n b o e,fun j h=>by
  by_cases hj:j=Γ.length
  ·subst hj; rw[zg] at h
   have e':b=p:=by simpa using h
   subst e'; rw[n] at e; cases e
  ·rw[zk hj] at h; exact nb j h⟩,fun b xs e=>zv n b _ e,fun b h=>by
   by_cases e:b=p
   ·subst e; exact absurd n h
   ·rw[ze e]; exact h⟩
 have q':=KR.stp q s r.al0
 have r1:=(r.ext 1).put (i:=Γ.length) (o:=.m ds) (v:=.ref p) (A:= [p]) (H':=upd H p (.dK (ks.map kK))) s (fun j _ a ha=>ze (fun e=>hp j (by rw[<- e]; exact ha)))
  (fun a h=>s.stay a (r.al0 a h)) (fun a ha h=>by
   have e:a=p:=by simpa using ha
   subst e; exact r.al0 a h n) (List.nodup_cons.mpr ⟨(fun z=>nomatch z),.nil⟩) (fun j _ a ha=>by
   have e:a=p:=by simpa using ha
   subst e; exact hp j) (by simp) (.m zi q'.keys q'.vals)
 rw[Zx] at r1
 have e2:(ν++List.replicate 1 none).set Γ.length (some (V.ref p))=ν++ [some (V.ref p)]:=by rw[<- r.len,Zx]
 rw[e2] at r1
 exact⟨r1,s⟩
noncomputable def WJ (n:EM (List (Str×PyData))):EM OV:=fun Γ=>(n Γ).bind fun (ds,Γ1)=>.ok (.m ds,Γ1)
theorem SD.so (h:SD X XP mp a ma):SO X XP mp a (WJ ma):=fun M0 F Γ ν σ H Q rs hs hp=>
 h M0 F Γ ν σ H Q rs hs (hp.seq.mono fun F1 Γ1 H1 ds rs1 s1 h1 ks p r n=>by
  obtain⟨r2,s2⟩:=rs1.newM n r
  exact h1 _ _ _ r2 s2)
noncomputable def WI (n:EM (List (Str×PyData))):EM FV:=fOD (WJ n)
theorem SD.se (h:SD X XP mp a ma):SE X XP mp a (WI ma):=h.so.se
theorem SDt.so {t:TE}(h:SDt XP mp t ma):SOt XP mp t (WJ ma):=fun M0 F Γ ν σ H Q rs hs hp=>
 h M0 F Γ ν σ H Q rs hs (hp.seq.mono fun F1 Γ1 H1 ds rs1 s1 h1 ks p r n=>by
  obtain⟨r2,s2⟩:=rs1.newM n r
  exact h1 _ _ _ r2 s2)
theorem SDt.sd {t:TE}(h:SDt XP mp t ma):SOt XP mp t (fD (WI ma)):=fun M0 F Γ ν σ H Q rs hs hp=>
 h M0 F Γ ν σ H Q rs hs (by
  have hp':OPost M0 F ν σ H XP (fun F' Γ' H' o v=>Q v H') ((ma Γ).bind fun (ds,Γ1)=>.ok (.d (.dict (ds.map dK)),Γ1)):=by
   have e:fD (WI ma) Γ=(ma Γ).bind fun (ds,Γ1)=>.ok (.d (.dict (ds.map dK)),Γ1):=by
    unfold fD WI fOD WJ
    cases ma Γ <;> rfl
   rw[<- e]; exact hp
  exact hp'.seq.mono fun F1 Γ1 H1 ds rs1 s1 h1 ks p r n=>by
   obtain⟨r2,s2⟩:=rs1.newM n r
   obtain⟨F3,r3,s3,q3⟩:=r2.dropD
   exact h1 F3 _ _ (r3.newD q3) (s2.trans s3))
noncomputable def zbI:EM (List (Str×PyData)):=fun Γ=>.ok ([],Γ)
theorem zda:SD X XP mp (.Dict [] [] pos) zbI:=fun M0 F Γ ν σ H Q rs hs hp=>pe_dnewK.wp fun p n=>hp F H rs (.refl _ _) [] p .nil n
noncomputable def zbJ (fa fb:EM FV):EM (List (Str×PyData)):=fun Γ=>(fa Γ).bind fun (u,Γ1)=>match derf Γ1 u with
 | some (.str z)=>(fb Γ1).bind fun (w,Γ2)=>match derS Γ2 w with
  | some y=>.ok ([(z,y)],Γ2)
  | none=>.bad
 | _=>.bad
theorem zdb (ha:SE X XP mp a fa) (hb:SE X XP mp b fb):SD X XP mp (.Dict [some a] [b] pos) (zbJ fa fb):=fun M0 F Γ ν σ H Q rs hs hp=>
 (kG zf zf).wp (ha.run rs hs hp fun F1 Γ1 H1 u v rs1 s1 o1 h1=>by
  dsimp only at h1
  split at h1
  ·rename_i z ez
   cases o1.weak rs1 ez
   refine hb.run rs1 hs h1 fun F2 Γ2 H2 w v2 rs2 s2 o2 h2=>?_
   dsimp only at h2
   split at h2
   ·rename_i y ey
    exact⟨.inr z,rfl,fun p n=>h2 F2 H2 rs2 (.refl _ _) [(z,v2)] p (.cons (o2.strong rs2 ey) .nil) n⟩
   ·exact h2.elim
  ·exact h1.elim)
end
end L3
namespace L3
open PySem PySem.Spec PyProof.Rows L2
variable [Cs]
section
variable {X:Cx} {XP:XPT} {mp io:List Nat} {a b e tg iter elt:Expr} {es ifs:List Expr} {pos p p2 pos' p3 apos cpos:Pos} {fa fb fc:EM FV} {fo:EM OV} {na:EM (List PyData)} {ma:EM (List (Str×PyData))} {kx:Nat} {c f x:Str} {s i:Nat} {M0:Addr->Prop} {F:Fp} {Γ:Gv} {ν:Nu} {σ:St} {H H':Hp} {u:FV} {v:V}
theorem FldAt.own {ys:List OV}{ds:List PyData}{v:V}(h:FldAt M0 F Γ ν H i c f (.l ys) v) (rs:RS M0 F Γ ν H) (hl:leaves ys=some ds):∃ b us,v=.ref b/\H b=some (.lst us)/\RepL (MM (Zn M0 F i) (zF F i [])) H us ds/\∀ j,b∉zF F i [] j:=by
 obtain⟨a,dx,fs,ns,xs,j,A1,B,A2,e1,e2,e3,e4,e5,e6,e7,e8,e9,e10⟩:=id h.ex
 cases e8 with
 | @l b us _ A' eb qb=>
  obtain⟨q1,q2⟩:=qb.leaf hl
  refine⟨b,us,rfl,eb,by rw[Zq zg,wN]; exact q1,fun j hj=>?_⟩
  have hb:b∈F i:=by rw[e9]; simp
  by_cases z:j=i
  ·subst z; rw[zg] at hj; cases hj
  ·rw[zk z] at hj; exact z (rs.dis _ _ b hj hb)
end
end L3
namespace L2
open PySem PySem.Spec PyProof.Rows
variable [Cs]
section
variable {X:Cx} {σ:St} {H:Hp} {CX:CXT} {E:XK} {sp:Sp} {Q:VK} {C f:Addr} {fd:FuncData} {ps:List Str} {k:Nat} {m x:Str} {o e:Expr} {es:List Expr} {p pos apos:Pos}
end
structure KnM (P:Program) (w:World) (K:PySem.W.Frag) (mg:Str->Option Value) (base:Heap) (CX:CXT) (C:Addr) (m:Str) (k:Nat) (sp:Sp):Prop where
 ex:∃ (f:Addr) (fd:FuncData) (ps:List Str),FnOk P w K mg base CX k f fd ps sp/\Cls K C/\zbZ K C m f/\Binds K fd ps []
structure KnI (P:Program) (w:World) (K:PySem.W.Frag) (mg:Str->Option Value) (base:Heap) (CX:CXT) (C:Addr) (k:Nat) (sp:Sp):Prop where
 ex:∃ (f:Addr) (fd:FuncData) (ps:List Str),FnOk P w K mg base CX k f fd ps sp/\Mk K C f/\Binds K fd ps []
end L2
namespace L3
open PySem PySem.Spec PyProof.Rows L2
variable [Cs]
section
variable {X:Cx} {XP:XPT} {mp io:List Nat} {a b e:Expr} {es:List Expr} {pos p p2 pos' p3 apos:Pos} {fa fb fc:EM FV} {fl:EM (List AV)} {kx:Nat} {c f m x:Str} {s i k n:Nat} {M0:Addr->Prop} {F F':Fp} {Γ:Gv} {ν:Nu} {σ:St} {H H':Hp} {u:FV} {v:V} {run:List OV->RF}
theorem AOks.stp {F1:Fp}{H1:Hp}{ν1:Nu}(s1:Stp F H F1 H1) (h0:∀ a,M0 a->H a≠none) (hn:ν <+: ν1):∀ {vs:List V}{as:List AV},AOks M0 F ν H vs as->AOks M0 F1 ν1 H1 vs as
 | _,_,.nil=>.nil
 | _,_,.v h t=>.v ((h.stp s1 h0).ext hn) (AOks.stp s1 h0 hn t)
 | _,_,.io h t=>.io (by
   obtain⟨t',rfl⟩:=hn
   rw[List.getElem?_append_left (List.getElem?_eq_some_iff.mp h).1]; exact h) (AOks.stp s1 h0 hn t)
end
end L3
namespace Tab
open PySem PySem.Spec PyProof.Rows
section
variable {prog:Program} {w:World} {A:Around} {R:Result->Shared->Prop} {I:Addr} {fp wr:List Addr} {G:Array GenState->Array GenState->Prop} {n:Nat} {P:Nat->Value->Prop} {St:Nat->Shared->Prop}
end
section
variable {prog:Program} {w:World} {A:Around} {E:Value->Shared->Prop} {s:Shared}
end
end Tab
namespace L2
open PySem PySem.Spec PyProof.Rows
variable [Cs]
section
variable {X:Cx}
end
end L2
namespace L3
open PySem PySem.Spec PyProof.Rows L2
variable [Cs]
section
variable {X:Cx} {XP:XPT} {mp:List Nat} {a b:Expr} {p1 p2 q1 q2:Pos} {fa fb:EM FV}
end
end L3
namespace L3
open PySem PySem.Spec PyProof.Rows L2
variable [Cs]
section
variable {M0:Addr->Prop} {F F':Fp} {Γ Γ':Gv} {ν ν':Nu} {H H':Hp}
theorem ORL.two {M:Addr->Prop}{vs:List V}{o1 o2:OV}{A:List Addr}(h:ORL M H vs [o1,o2] A):∃ v1 v2 A1 A2,vs= [v1,v2]/\A=A1++A2/\OR M H v1 o1 A1/\OR M H v2 o2 A2:=by
 cases h with
 | cons q1 h=>
  cases h with
  | cons q2 h=>
   cases h
   exact⟨_,_,_,_,rfl,by rw[List.append_nil],q1,q2⟩
end
section
variable {X:Cx} {XP:XPT} {mp io:List Nat} {a b c e:Expr} {es:List Expr} {pos p p2 pos' p3:Pos} {fo fo2:EM OV} {kx:Nat}
theorem Sees.more {ν:Nu}{σ:St}{v:Option V}(h:Sees mp ν σ) (hm:∀ i∈mp,i<ν.length):Sees mp (ν++ [v]) σ:=fun s i w e1 e2=>h s i w e1 (by
 rw[List.getElem?_append_left (hm i (List.mem_of_getElem? e1))] at e2; exact e2)
end
end L3
set_option maxHeartbeats 4000000
namespace Tab
open PySem PySem.SetTable
theorem slot_si_next:Slot "set_iterator" "__next__" "set_iterator.__next__" :=
 .of (owner:= "set_iterator") (n:= "__next__") (by rw[typeLookup_type,builtinLookup_eq_fast]; kernel_rfl) (by decide +kernel) (by decide +kernel) (by decide +kernel)
  (by first | exact .inl (by decide +kernel) | exact .inr (by decide +kernel)) (by rw[isSubtype_type]; kernel_rfl)
theorem Zy:Slot "set_iterator" "__iter__" "set_iterator.__iter__" :=
 .of (owner:= "set_iterator") (n:= "__iter__") (by rw[typeLookup_type,builtinLookup_eq_fast]; kernel_rfl) (by decide +kernel) (by decide +kernel) (by decide +kernel)
  (by first | exact .inl (by decide +kernel) | exact .inr (by decide +kernel)) (by rw[isSubtype_type]; kernel_rfl)
theorem jC:entryFor table "set_iterator.__next__" =some Builtin.«set_iterator.__next__»:=entryFor_of_tree (by kernel_rfl)
theorem JA:entryFor table "set_iterator.__iter__" =some Builtin.«dict_keyiterator.__iter__» :=
 entryFor_alias (id':= "dict_keyiterator.__iter__") (by kernel_rfl) rfl (by decide +kernel) (by kernel_rfl)
theorem W6:Manifest.owners.lookup (String.ofList ['r','o','t','a','r','e','t','i','_','t','e','s'].reverse)=some Manifest.sig_set_iterator:=by kernel_rfl
theorem jX (a:Value):argsOk "set_iterator.__next__" ⟨[a],[]⟩:=by
 unfold argsOk; rw[signature?_of (id:= "set_iterator.__next__") (n:= ['_','_','t','x','e','n','_','_']) (o:= ['r','o','t','a','r','e','t','i','_','t','e','s']) (by kernel_rfl) W6]; kernel_rfl
theorem wB (a:Value):argsOk "set_iterator.__iter__" ⟨[a],[]⟩:=by
 unfold argsOk; rw[signature?_of (id:= "set_iterator.__iter__") (n:= ['_','_','r','e','t','i','_','_']) (o:= ['r','o','t','a','r','e','t','i','_','t','e','s']) (by kernel_rfl) W6]; kernel_rfl
theorem QY:entryFor table "set.__iter__" =some Builtin.«frozenset.__iter__» :=
 entryFor_alias (id':= "frozenset.__iter__") (by kernel_rfl) rfl (by decide +kernel) (by kernel_rfl)
noncomputable def ordOf (w:World) (d:Addr) (ep:Nat) (es:Array (Int×Value)):Array (Int×Value):=if w.params.followText "set-order" =true then pickOrder (w.params.setOrder d ep) es else es
noncomputable def zW (w:World) (t:SetTable) (i:Nat):Nat:=if w.params.followText "set-order" =true then 0 else if i=0 then 0 else t.place.getD (i-1) 0+1
theorem ord_perm (w:World) (d:Addr) (ep:Nat) (es:Array (Int×Value)):(ordOf w d ep es).toList.Perm es.toList:=by
 unfold ordOf; split
 ·exact we _ _
 ·exact .refl _
theorem ord_size (w:World) (d:Addr) (ep:Nat) (es:Array (Int×Value)):(ordOf w d ep es).size=es.size:=by
 have:=(ord_perm w d ep es).length_eq
 simpa using this
theorem YD {xs:Array Nat}(h:Rise xs){i:Nat}(hi:i<=xs.size):below xs (if i=0 then 0 else xs.getD (i-1) 0+1)=i:=by
 obtain⟨a,b⟩:=Wo h (if i=0 then 0 else xs.getD (i-1) 0+1)
 have hle:=jh xs (if i=0 then 0 else xs.getD (i-1) 0+1)
 generalize hB:below xs (if i=0 then 0 else xs.getD (i-1) 0+1)=B at *
 rcases Nat.lt_trichotomy B i with z | z | z
 ·exfalso
  have hi0:i≠0:=by omega
  rw[if_neg hi0] at b
  have h1:=b (i-1) (by omega) (by omega)
  have e:xs.getD (i-1) 0=xs[i-1]'(by omega):=by rw[Array.getD,dif_pos (by omega)]; rfl
  rw[e] at h1
  omega
 ·exact z
 ·exfalso
  have h1:=a i (by omega) z
  by_cases hi0:i=0
  ·rw[if_pos hi0] at h1; omega
  ·rw[if_neg hi0] at h1
   have e:xs.getD (i-1) 0=xs[i-1]'(by omega):=by rw[Array.getD,dif_pos (by omega)]; rfl
   rw[e] at h1
   have:=h.lt (i:=i-1) (j:=i) (by omega) (by omega)
   omega
section
variable {prog:Program} {w:World} {A:Around} {E:Value->Shared->Prop} {s:Shared} {d I:Addr} {o:Obj} {es:Array (Int×Value)} {ep:Nat} {t:SetTable}
theorem VX {i:Nat}{Q:Option (Value×Nat)->Shared->Prop}(ho:s.heap.get? d=some o) (hd:o.data=.set es ep t) (hf:t.fits es.size=true) (hN:Neat w t) (hi:i<=es.size)
  (h:Q ((ordOf w d ep es)[i]?.map fun e=>(e.2,zW w t (i+1))) s):wpAny (model prog w) A (setNext d (zW w t i) i ep) Q E s:=by
 have hps:t.place.size=es.size:=by
  unfold SetTable.fits at hf
  rw[Bool.and_eq_true,beq_iff_eq] at hf
  exact hf.1
 unfold setNext setsByText
 refine wpAny_bind (wpAny_setState_of ho hd hf ?_)
 dsimp only
 refine wpAny_bind (wpAny_bind (wpAny_askSetting (wpAny_pure ?_)))
 show wpAny _ _ (if w.params.followText "set-order" =true then _ else _) _ _ _
 by_cases hT:w.params.followText "set-order" =true
 ·rw[if_pos hT,if_neg (by simp)]
  unfold ordOf zW at h
  simp only[if_pos hT] at h
  refine wpAny_bind ?_
  unfold setWalk setsByText
  refine wpAny_bind (wpAny_setState_of ho hd hf ?_)
  refine wpAny_bind (wpAny_bind (wpAny_askSetting (wpAny_pure ?_)))
  show wpAny _ _ (if w.params.followText "set-order" =true then _ else _) _ _ _
  rw[if_pos hT]
  refine wpAny_bind (wpAny_askSetting (wpAny_pure (wpAny_pure ?_)))
  unfold zW
  rw[if_pos hT]
  exact h
 ·rw[if_neg hT]
  show wpAny _ _ (if (!t.plain&&decide (es.size>1))=true then _ else _) _ _ _
  rw[if_neg (by rw[hN.plain]; simp)]
  show wpAny _ _ ((if (!t.led&& !es.isEmpty)=true then unsupported "set:maker-not-led" else pure PUnit.unit) >>= _) _ _ _
  rw[if_neg (by rw[hN.led.resolve_left hT]; simp)]
  refine wpAny_bind (wpAny_pure ?_)
  have eb:below t.place (zW w t i)=i:=by
   unfold zW
   rw[if_neg hT]
   exact YD hN.up (by omega)
  rw[eb]
  unfold ordOf zW at h
  simp only[if_neg hT] at h
  refine wpAny_pure ?_
  by_cases hlt:i<es.size
  ·rw[Array.getElem?_eq_getElem hlt] at h |-
   rw[Array.getElem?_eq_getElem (show i<t.place.size by omega)]
   rw[if_neg (Nat.succ_ne_zero i),Array.getD,dif_pos (show i+1-1<t.place.size by omega)] at h
   exact h
  ·rw[Array.getElem?_eq_none (by omega)] at h |-
   exact h
noncomputable def SetIter (h:Heap) (I d:Addr) (sl i n ep:Nat):Prop:=∃ o,h.get? I=some o/\o.cls=.type "set_iterator" /\o.data=.fields #[.int sl 0,.int i 0,.ref d,.int n 0,.int ep 0]
theorem SetIter.typeIs {sl i n:Nat}(x:SetIter s.heap I d sl i n ep):s.TypeIs (.ref I) "set_iterator" :=let ⟨o,ho,hc,_⟩:=x; ⟨o,ho,hc⟩
theorem zao {i:Nat}{x:Int×Value}{Q:Option Value->Shared->Prop}(hit:SetIter s.heap I d (zW w t i) i es.size ep) (ho:s.heap.get? d=some o) (hd:o.data=.set es ep t) (hf:t.fits es.size=true) (hN:Neat w t) (hx:(ordOf w d ep es)[i]?=some x)
  (hQ:∀ h',SetIter h' I d (zW w t (i+1)) (i+1) es.size ep->Heap.SameBut I s.heap h'->Q (some x.2) { s with heap:=h' }):wpAny (model prog w) A (pyNext (.ref I)) Q E s:=by
 obtain⟨oI,hoI,hcI,hdI⟩:=id hit
 have hi:i<=es.size:=by
  rw[<- ord_size w d ep es]
  obtain⟨z,_⟩:=Array.getElem?_eq_some_iff.mp hx
  omega
 unfold pyNext
 refine wpAny_bind (wpAny_attempt (wpAny_callSpecial?_slot (name:=Str.ofString "__next__") hit.typeIs slot_si_next
  (wpAny_call_entry slot_si_next hit.typeIs jC ?_ (jX _))))
 unfold Builtin.«set_iterator.__next__»
 refine wpAny_bind (wpAny_pure ?_)
 refine wpAny_bind (wpAny_fieldsOf hoI hdI ?_)
 dsimp only
 refine wpAny_bind (wpAny_setEntries_of ho hd hf ?_)
 rw[if_neg (by simp)]
 refine wpAny_bind (VX (i:=i) ho hd hf hN hi ?_)
 rw[show ((ep:Int)).toNat=ep from rfl,hx]
 dsimp only [Option.map]
 refine wpAny_bind (wpAny_setField hoI hdI (by simp) ?_)
 have h1:(s.heap.update I (Obj.mapFields (·.setIfInBounds 0 (rawInt (zW w t (i+1)))))).get? I=some _:=Heap.get?_update_self _ hoI (Obj.isFreed_of_fields (Obj.data_mapFields hdI _))
 refine wpAny_bind (wpAny_setField (s:={ s with heap:=s.heap.update I (Obj.mapFields (·.setIfInBounds 0 (rawInt (zW w t (i+1))))) }) h1 (Obj.data_mapFields hdI _) (by simp) ?_)
 refine wpAny_pure ⟨_,rfl,wpAny_pure (hQ _ ?_ ((Heap.SameBut.update ..).trans (Heap.SameBut.update ..)))⟩
 exact⟨_,Heap.get?_update_self _ h1 (Obj.isFreed_of_fields (Obj.data_mapFields (Obj.data_mapFields hdI _) _)),((Obj.cls_mapFields ..).trans (Obj.cls_mapFields ..)).trans hcI,by
  rw[Obj.data_mapFields (Obj.data_mapFields hdI _)]; simp[rawInt]⟩
theorem zcn {Q:Option Value->Shared->Prop}(hh:A.handled=none) (hit:SetIter s.heap I d (zW w t es.size) es.size es.size ep) (ho:s.heap.get? d=some o) (hd:o.data=.set es ep t) (hf:t.fits es.size=true) (hN:Neat w t)
  (hQ:∀ h',Heap.ExtBut I s.heap h'->Q none { s with heap:=h' }):wpAny (model prog w) A (pyNext (.ref I)) Q E s:=by
 obtain⟨oI,hoI,hcI,hdI⟩:=id hit
 have hx:(ordOf w d ep es)[es.size]?=none:=Array.getElem?_eq_none (by rw[ord_size]; exact Nat.le_refl _)
 unfold pyNext
 refine wpAny_bind (wpAny_attempt (wpAny_callSpecial?_slot (name:=Str.ofString "__next__") hit.typeIs slot_si_next
  (wpAny_call_entry slot_si_next hit.typeIs jC ?_ (jX _))))
 unfold Builtin.«set_iterator.__next__»
 refine wpAny_bind (wpAny_pure ?_)
 refine wpAny_bind (wpAny_fieldsOf hoI hdI ?_)
 dsimp only
 refine wpAny_bind (wpAny_setEntries_of ho hd hf ?_)
 rw[if_neg (by simp)]
 refine wpAny_bind (VX (i:=es.size) ho hd hf hN (Nat.le_refl _) ?_)
 rw[show ((ep:Int)).toNat=ep from rfl,hx]
 dsimp only [Option.map]
 refine wpAny_bind (wpAny_setField hoI hdI (by simp) ?_)
 show wpAny _ _ (newExc (.type "StopIteration") [] >>= _) _ _ _
 refine wpAny_bind ?_
 simp only[newExc,newTuple]
 refine wpAny_bind (wpAny_newObj_type ?_ (by size_fits))
 refine wpAny_bind (m:=firstArgMember _ _) (wpAny_of_eq (a:=Value.none) (by first | rfl | (simp only[firstArgMember]; rfl)) ?_)
 refine wpAny_newObj_type ?_ (by size_fits)
 simp only[raiseNew]
 refine wpAny_bind (wpAny_handled ?_)
 rw[show A.in1.handled=none from hh]
 refine wpAny_bind (wpAny_pure (wpAny_throw ?_))
 refine wpAny_bind (wpAny_isInstance (T:= "StopIteration") (b:=true) ⟨_,Heap.get?_push_size _ rfl,rfl⟩ isSubtype_stop ?_)
 exact wpAny_pure (hQ _ (((Heap.SameBut.update ..).extBut.push _).push _))
end
end Tab
set_option maxHeartbeats 4000000
namespace Tab
open PySem PySem.SetTable
section
variable {prog:Program} {w:World} {A:Around} {E:Value->Shared->Prop} {s:Shared} {d:Addr} {o:Obj} {es:Array (Int×Value)} {ep:Nat} {t:SetTable}
theorem Y2 {r:Addr}{Q:Bool->Shared->Prop}(hT:s.TypeIs (.ref r) "set") (h:Q false s):wpAny (model prog w) A (Builtin.List.listLengthHint (.ref r)) Q E s:=by
 unfold Builtin.List.listLengthHint
 refine wpAny_bind (wpAny_specialOf hT PySem.F.slot_set_len.lookup ?_)
 generalize hid:("set.__len__" :String)=id0
 wp_delta
 rw[show splitId id0=some ("set","__len__") from by subst hid; decide +kernel]
 subst hid
 refine wpAny_bind (wpAny_isInstance (T:= "set") (b:=true) hT (by rw[isSubtype_type]; kernel_rfl) ?_)
 refine wpAny_ite_split (fun hab=>absurd hab (by decide)) (fun _=>?_)
 refine wpAny_ite_split (fun _=>?_) (fun hab=>absurd (by decide +kernel) hab)
 refine wpAny_bind (wpAny_typeOf hT ?_)
 exact wpAny_pure h
theorem zap {Q:Value->Shared->Prop}(ho:s.heap.get? d=some o) (hc:o.cls=.type "set") (hd:o.data=.set es ep t) (hf:t.fits es.size=true) (hN:Neat w t)
  (hQ:Q (.ref s.heap.objs.size) { s with heap:=s.heap.push { cls:=.type "set_iterator",data:=.fields #[.int 0 0,.int 0 0,.ref d,.int es.size 0,.int ep 0] } }):wpAny (model prog w) A (pyIter (.ref d)) Q E s:=by
 have hT:s.TypeIs (.ref d) "set" :=⟨o,ho,hc⟩
 refine wpAny_pyIter_slot hT PySem.F.slot_set_iter (wpAny_call_entry PySem.F.slot_set_iter hT QY ?_ (PySem.F.args_set_iter_1 _))
 unfold Builtin.«frozenset.__iter__»
 refine wpAny_bind (m:=Builtin.Frozenset.slot0 "__iter__" _) ?_
 unfold Builtin.Frozenset.slot0
 refine wpAny_bind (m:=slotArgs "__iter__" 0 _) (wpAny_pure (wpAny_pure ?_))
 refine wpAny_bind ?_
 unfold Builtin.Frozenset.sizeOf
 refine wpAny_bind (wpAny_setEntries_of ho hd hf (wpAny_pure ?_))
 refine wpAny_bind ?_
 unfold setDrawn setsByText
 refine wpAny_bind (wpAny_setState_of ho hd hf ?_)
 dsimp only
 refine wpAny_bind (wpAny_bind (wpAny_askSetting (wpAny_pure (wpAny_pure ?_))))
 show wpAny _ _ (if (!w.params.followText "set-order" &&(!t.plain&&decide (es.size>1)))=true then _ else _) _ _ _
 rw[if_neg (by rw[hN.plain]; simp)]
 refine wpAny_bind (wpAny_pure ?_)
 refine wpAny_bind (wpAny_setEpoch_of ho hd hf ?_)
 refine wpAny_bind ?_
 unfold newFields
 refine wpAny_newObj_type (wpAny_pure ⟨_,rfl,"set_iterator",_,⟨_,Heap.get?_push_size _ rfl,rfl⟩,slot_si_next.lookup,?_⟩)
 simpa [rawInt] using hQ
theorem Ya (w:World) (t:SetTable):zW w t 0=0:=by unfold zW; split <;> rfl
theorem KQ {I:Addr}(hh:A.handled=none) (hne:d≠I) (hd:o.data=.set es ep t) (hf:t.fits es.size=true) (hN:Neat w t) :
  Walks prog w A I [I,d] [I] es.size (fun i v=>∃ k,(ordOf w d ep es)[i]?=some (k,v)) (fun i h=>SetIter h I d (zW w t i) i es.size ep/\h.get? d=some o) where
 sub:=fun b hb=>by simp at hb; simp[hb]
 frame:=fun i h h' st hk=>⟨by obtain⟨oI,e1,e2⟩:=st.1; exact⟨oI,hk _ (by simp) _ e1,e2⟩,hk d (by simp) _ st.2⟩
 item:=fun i s1 Q E hi st hQ=>by
  have hlt:i<(ordOf w d ep es).size:=by rw[ord_size]; exact hi
  obtain⟨x,hx⟩:∃ x,(ordOf w d ep es)[i]?=some x:=⟨_,Array.getElem?_eq_getElem hlt⟩
  exact zao st.1 st.2 hd hf hN hx fun h' hit hs=>hQ x.2 h' s1.toks ⟨x.1,hx⟩ ⟨hit,by rw[hs.2 d hne]; exact st.2⟩ fun b o' hb e=>by rw[hs.2 b (fun z=>hb (by simp[z]))]; exact e
 done:=fun s1 Q E st hQ=>zcn hh st.1 st.2 hd hf hN fun h' he=>hQ h' s1.toks fun b o' hb e=>he b o' (fun z=>hb (by simp[z])) e
 self:=fun i s1 Q E st hQ=>by
  refine wpAny_pyIter_slot st.1.typeIs Zy (wpAny_call_entry Zy st.1.typeIs JA ?_ (wB _))
  show wpAny _ _ (ret (.ref I)) _ _ s1
  exact wpAny_pure ⟨_,rfl,"set_iterator",_,st.1.typeIs,slot_si_next.lookup,hQ⟩
theorem kdl_set (hc:o.cls=.type "set") (hd:o.data=.set es ep t) (hf:t.fits es.size=true) (hN:Neat w t):PySem.W.KdlSrc prog w "set" d d es.size (fun i v=>∃ k,(ordOf w d ep es)[i]?=some (k,v)) (fun h=>h.get? d=some o) where
 type:=fun _ hm=>⟨o,hm,hc⟩
 there:=fun _ hm=>⟨Heap.lt_size hm,Heap.lt_size hm⟩
 keep:=fun _ _ hm hk=>hk d (.inl rfl) o hm
 notList:=by decide
 notTuple:=by decide
 hint:=fun _ _ _ _ hm hq=>Y2 ⟨o,hm,hc⟩ hq
 iter:=fun A s hh hm=>⟨_,_,(fun _ _ hq=>zap hm hc hd hf hN hq),KQ (o:=o) hh (Nat.ne_of_lt (Heap.lt_size hm)) hd hf hN,⟨⟨_,Heap.get?_push_size _ rfl,rfl,by rw[Ya]; rfl⟩,Heap.get?_push_of_some _ hm⟩⟩
end
end Tab
namespace L2
open PySem PySem.Spec PyProof.Rows
section
variable {prog:Program} {w:World} {A:Around} {E:Value->Shared->Prop} {s:Shared}
open PySem.W in
theorem Wv {T:String}{r d:Addr}{n:Nat}{P:Nat->Value->Prop}{OK:Heap->Prop}{Q:List Value->Shared->Prop}(K:KdlSrc prog w T r d n P OK) (hh:A.handled=none) (hok:OK s.heap) (hsz:n<=sizeLine)
  (h:∀ (vs:Array Value) (h':Heap) (tk:Nat),ItemsOf P vs n->(∀ b o,s.heap.get? b=some o->h'.get? b=some o)->s.heap.objs.size<h'.objs.size->Q vs.toList { s with heap:=h',toks:=tk }) :
  wpAny (model prog w) A (collect (.ref r)) Q E s:=by
 have hds:=K.there _ hok
 have key:∀ R:Result->Shared->Prop,(∀ h' tk acc' c',(∀ b o,b≠s.heap.objs.size->(s.heap.push (seqObj "list" #[] 0)).get? b=some o->h'.get? b=some o)->h'.get? s.heap.objs.size=some { cls:=.type "list",dict:=none,data:=.seq acc' c',slots:=#[] }->ItemsOf P acc' n->R (.ok (.ret (.ref s.heap.objs.size))) { s with heap:=h',toks:=tk }) ->
   codeAny (model prog w) A (.builtin "proto.collect" ⟨[.ref r],[]⟩) R s:=fun R hR=>by
  refine codeAny_builtin entry_proto_collect' ?_
  show wpAny _ _ (do again (.builtin "list.__iadd__" ⟨[<- newList [],.ref r],[]⟩)) _ _ s
  refine wpAny_bind (wpAny_newList (wpAny_pure ⟨Code.quiet_builtin _ (by decide +kernel),codeAny_builtin entry_list_iadd' ?_⟩))
  show wpAny _ _ (Builtin.List.listExtendWith (.ref s.heap.objs.size) (.ref r) (.ref s.heap.objs.size)) _ _ { s with heap:=s.heap.push (seqObj "list" #[] 0) }
  rw[Around.under_plainId (show plainId "list.__iadd__" =true by decide +kernel)]
  exact kdl_extend (s:={ s with heap:=s.heap.push (seqObj "list" #[] 0) }) K hh (K.keep _ _ hok fun b _ o e=>Heap.get?_push_of_some _ e) s.heap.objs.size (Nat.ne_of_gt hds.1) (Nat.ne_of_gt hds.2) (.ref s.heap.objs.size) 0 (Heap.get?_push_size _ rfl) (fun h' tk acc' c' k1 k2 k3=>hR h' tk acc' c' k1 k2 k3) hsz
 unfold collect
 refine wpAny_bind (wpAny_runValue (key _ fun h' tk acc' c' k1 k2 k3=>?_))
 show wpAny (model prog w) A (do
   let o<-load s.heap.objs.size
   match o.data with
   | .seq xs _=>pure xs.toList
   | _=>unsupported "internal:collect") Q E { s with heap:=h',toks:=tk }
 refine wpAny_bind (wpAny_load k2 ?_)
 show wpAny _ _ (pure acc'.toList) Q E _
 exact wpAny_pure (h acc' h' tk k3 (fun b o e=>k1 b o (Nat.ne_of_lt (Heap.lt_size e)) (Heap.get?_push_of_some _ e)) (Heap.lt_size k2))
theorem VS:∀ {es:List (Int×Value)}{ks:List Int},Tab.Keys prog w es ks->IntsAre (es.map (·.2)) ks
 | _,_,.nil=>.nil
 | _,_,.cons h=>.cons _ _ (VS h)
theorem Vf {d:Addr}{S:Int->Bool}{n:Nat}{Q:Value->Shared->Prop}(hh:A.handled=none) (x:Tab.NSet prog w s.heap d S n) (hn:n<=60)
  (h:∀ (out:Array Value) (ns:List Int) (h':Heap) (l:Addr) (c tk:Nat),IntsAre out.toList ns->ns.Pairwise (·<=·)->ns.length=n->(∀ k,k∈ns↔S k=true)->(∀ b o,s.heap.get? b=some o->h'.get? b=some o)->s.heap.objs.size<=l->h'.get? l=some (seqObj "list" out c)->Q (.ref l) { s with heap:=h',toks:=tk }) :
  wpAny (model prog w) A (call (.builtin "sorted") [.ref d]) Q E s:=by
 obtain⟨o,es,ep,t,ho,hex,hd,hel,hmem,hb,hf,hz,hN⟩:=x
 refine Calls.call_function_entry kind_sorted plain_sorted entry_sorted (args_sorted1 _) ?_
 unfold Builtin.«sorted»
 refine wpAny_bind (m:=checkCount "sorted" 1 1 _) (wpAny_pure ?_)
 refine wpAny_bind (Wv (Tab.kdl_set (d:=d) (ep:=ep) hex.1 hd hf hN) hh ho (by have:=sizeLine_eq; omega) fun vs h' tk hi hk hlt=>?_)
 obtain⟨ks0,hk0⟩:=Tab.keys_of hel
 obtain⟨ks,hks,hpk⟩:=hk0.perm (Tab.ord_perm w d ep es)
 have hvs:vs.toList=(Tab.ordOf w d ep es).toList.map (·.2):=by
  apply List.ext_getElem?
  intro j
  have hsz:vs.size=(Tab.ordOf w d ep es).size:=by rw[hi.1,Tab.ord_size]
  by_cases hj:j<vs.size
  ·obtain⟨k,e⟩:=hi.2 j vs[j] (Array.getElem?_eq_getElem hj)
   rw[List.getElem?_map,Array.getElem?_toList,Array.getElem?_toList,e,Array.getElem?_eq_getElem hj]
   rfl
  ·rw[List.getElem?_eq_none (by simpa using hj),List.getElem?_eq_none (by simp; omega)]
 have hI:IntsAre vs.toList ks:=by rw[hvs]; exact VS hks
 have hlen:ks.length=n:=by rw[hpk.length_eq,<- hk0.length,<- hz]; simp
 have hl64:vs.toList.length<64:=by rw[IntsAre.length hI,hlen]; omega
 refine wpAny_bind (wpAny_newList ?_ (by have:=sizeLine_eq; omega))
 have hoL:(h'.push (seqObj "list" vs.toList.toArray 0)).get? h'.objs.size=some (seqObj "list" vs.toList.toArray 0):=Heap.get?_push_size _ rfl
 show wpAny _ _ _ _ _ { s with heap:=h'.push (seqObj "list" vs.toList.toArray 0),toks:=tk }
 refine wpAny_bind (wpAny_holding (wpAny_call_entry slot_list_sort ⟨_,hoL,rfl⟩ entry_list_sort (list_sort_tree hoL hI hl64 fun out ns' a1 a2 a3=>⟨_,rfl,?_⟩) (args_list_sort _)))
 obtain⟨c',ec⟩:=sortedHeap_at (out:=out) hoL
 refine wpAny_pure ⟨_,rfl,h out ns' _ h'.objs.size c' tk a1 a3 (by rw[a2.length_eq,hlen]) (fun k=>?_) (fun b o e=>?_) (Nat.le_of_lt hlt) ec⟩
 ·rw[a2.mem_iff,hpk.mem_iff,<- hk0.mem k]
  exact (hmem k).symm
 ·have e2:=hk b o e
  have e3:=Heap.get?_push_of_some (seqObj "list" vs.toList.toArray 0) e2
  rw[sortedHeap_old (Nat.ne_of_lt (Heap.lt_size e2)) (Heap.lt_size e3)]; exact e3
end
end L2
namespace L2
open PySem PySem.Spec PyProof.Rows
variable [Cs]
noncomputable def sdif (ns ms:List Int):List Int:=Jn (Tab.dedup (ns.filter fun k=> !ms.contains k))
theorem V5 {ns ms L:List Int}(hl:L.length=VV ns ms) (hs:L.Pairwise (·<=·)) (hm:∀ k,k∈L↔(k∈ns/\k∉ms)):L=sdif ns ms:=by
 refine vd ?_ hs
 have hd:∀ k,k∈Tab.dedup (ns.filter fun k=> !ms.contains k)↔(k∈ns/\k∉ms):=fun k=>by
  rw[<- wA,Tab.any_dedup,List.mem_filter]; simp
 exact Tab.perm_of_sub (fm:=Tab.dedup (ns.filter fun k=> !ms.contains k)) (ks:=L) (Tab.nodup_dedup _) (fun x hx=>(hm x).mpr ((hd x).mp hx)) (by rw[hl]; exact Nat.le_refl _)
section
variable {X:Cx}
theorem W8 {a b:Expr}{p1 p2 p3 q1 q2 q3 pb:Pos}(hc:X.calm=true) (hgl:Gl X "sorted") (hml:X.mg "sorted" =none) (hgs:Gl X "set") (hms:X.mg "set" =none) (hsa:starEach [a] X.env= [(false,eval a X.env)]) (hsb:starEach [b] X.env= [(false,eval b X.env)]) :
  PE X (.Call (.Name "sorted" p1) [.BinOp (.Call (.Name "set" p2) [a] [] q2) .Sub (.Call (.Name "set" p3) [b] [] q3) pb] [] q1) (fun σ H Q=>wpE X a σ H fun v H1=>∃ l ns,v=.ref l/\SqL X.K H1 l (List.map V.int ns)/\ns.length<=60 /\
   wpE X b σ H1 fun u H2=>∃ l2 ms,u=.ref l2/\SqL X.K H2 l2 (List.map V.int ms)/\ms.length<=60/\∀ p,H2 p=none->Q (.ref p) (upd H2 p (.lst ((sdif ns ms).map V.int)))):=by
 intro pins s σ H Q I h
 refine wpAny_Call_Name_kw (jQ I hgl hml (show bootBuiltins "sorted" =some (.builtin "sorted") by decide +kernel) ?_)
 refine PyProof.Rows.callWith_builtin1 (E:=X.xe) ?_ rfl rfl
 show wpAny _ _ (spliced ((false,eval (.BinOp (.Call (.Name "set" p2) [a] [] q2) .Sub (.Call (.Name "set" p3) [b] [] q3) pb) X.env)::backTo q1 (starEach [] X.env))) _ _ s
 refine Calls.spliced_cons (wpAny_BinOp ?_)
 refine thn (YO hc hgs hms hsa (R:=fun ns H1=>wpE X b σ H1 fun u H2=>∃ l2 ms,u=.ref l2/\SqL X.K H2 l2 (List.map V.int ms)/\ms.length<=60/\∀ p,H2 p=none->Q (.ref p) (upd H2 p (.lst ((sdif ns ms).map V.int)))) I h) fun v s1 ⟨r1,ns,H1,e1,I1,f1,hn,hS1,q⟩=>?_
 subst e1
 have hS1':=hS1
 obtain⟨o1,es1,ep1,t1,hg1,hx1,hd1,rest1⟩:=hS1'
 have hncell:∀ v,o1.data≠ .cell v:=fun v z=>by rw[hd1] at z; cases z
 have hfp:∀ b∈ [r1],jA X pins H1 b:=fun b hb=>by
  have:b=r1:=by simpa using hb
  subst this; exact f1
 have Ip:=I1.pinned (fp:= [r1]) hfp fun b hb=>by
  have:b=r1:=by simpa using hb
  subst this; exact⟨o1,hg1,hncell⟩
 refine thn (YO hc hgs hms hsb (R:=fun ms H2=>∀ p,H2 p=none->Q (.ref p) (upd H2 p (.lst ((sdif ns ms).map V.int)))) Ip q) fun u s2 ⟨r2,ms,H2,e2,I2,f2,hn2,hS2,q2⟩=>?_
 subst e2
 have hpin:=I2.pin (r1,o1) (List.mem_append_right _ (List.mem_append_right _ (by
  unfold ZK
  simp[hg1])))
 have hS1b:Tab.NSet X.prog X.w s2.heap r1 (fun k=>(Tab.dedup ns).any (·==k)) (Tab.dedup ns).length:=⟨o1,es1,ep1,t1,hpin.1,hx1,hd1,rest1⟩
 refine Tab.sub_sets hS1b hS2.setOf (Tab.nodup_dedup ns) (wA ns) rfl (Nat.le_trans (J0 ns) hn) fun s3 T n k1 k2 hS3 hT hL hg=>?_
 obtain⟨L,hL1,hL2,hL3⟩:=hL
 have hTk:∀ k,T k=true↔(k∈ns/\k∉ms):=fun k=>by
  rw[hT,Bool.and_eq_true,Bool.not_eq_true',<- Bool.not_eq_true,Tab.any_dedup,Tab.any_dedup]
 have hnn:n=VV ns ms:=WZ hL1 hL2 fun k=>by rw[<- hL3,hTk]
 have hn60:n<=60:=by
  rw[hnn]
  exact Nat.le_trans (J0 _) (Nat.le_trans (List.length_filter_le _ _) hn)
 refine Calls.spliced_nil ?_
 have es:s3={ s2 with heap:=s3.heap,toks:=s3.toks }:=by
  obtain⟨g1,g2,g3⟩:=hg
  cases s3; dsimp only at *; subst g1; subst g2; subst g3; rfl
 have I3:Inv X pins σ H2 { s2 with heap:=s3.heap,toks:=s3.toks }:=I2.unpinned.kept k1
 rw[<- es] at I3
 refine Vf (s:=s3) (I3.ok.hd hc) hS3 hn60 fun out ns' h' l c tk a1 a2 a3 a4 hold hle ec=>?_
 have e:ns'=sdif ns ms:=V5 (by rw[a3,hnn]) a2 fun k=>by rw[a4,hTk]
 subst e
 refine⟨.ref l,_,I3.laid (t':=tk) hold hle (show ObjOk X.prog X.w _ _ _ (.lst ((sdif ns ms).map V.int)) from ⟨?_,out.toList,c,Vals.ofInts a1,?_⟩),rfl,q2 _ (I3.hok.fresh hle)⟩
 ·rw[List.length_map,a3]
  have:=sizeLine_eq
  omega
 ·simpa [seqObj] using ec
end
end L2
namespace L3
open PySem PySem.Spec PyProof.Rows L2
variable [Cs]
noncomputable def WL (fa fb:EM FV):EM (List PyData):=fun Γ=>(fa Γ).bind fun (u,Γ1)=>match (derL Γ1 u).bind zO with
 | some ns=>if ns.length<=60 then (fb Γ1).bind fun (w,Γ2)=>match (derL Γ2 w).bind zO with
  | some ms=>if ms.length<=60 then .ok ((sdif ns ms).map .int,Γ2) else .bad
  | none=>.bad
  else .bad
 | none=>.bad
section
variable {X:Cx} {XP:XPT} {mp:List Nat} {a b:Expr} {fa fb:EM FV}
theorem zbe {p1 p2 p3 q1 q2 q3 pb:Pos}(hc:X.calm=true) (hgl:Gl X "sorted") (hml:X.mg "sorted" =none) (hgs:Gl X "set") (hms:X.mg "set" =none) (ha:SE X XP mp a fa) (hb:SE X XP mp b fb) (hsa:starEach [a] X.env= [(false,eval a X.env)]) (hsb:starEach [b] X.env= [(false,eval b X.env)]) :
  SN X XP mp (.Call (.Name "sorted" p1) [.BinOp (.Call (.Name "set" p2) [a] [] q2) .Sub (.Call (.Name "set" p3) [b] [] q3) pb] [] q1) (WL fa fb):=fun M0 F Γ ν σ H Q rs hs hp=>by
 refine (W8 hc hgl hml hgs hms hsa hsb).wp (ha.run rs hs hp fun F1 Γ1 H1 u v rs1 s1 o1 h1=>?_)
 dsimp only at h1
 split at h1
 ·rename_i ns en
  split at h1
  ·rename_i hn
   obtain⟨l,rfl,el⟩:=wP o1 rs1 en
   refine⟨l,ns,rfl,SqL.of el,hn,hb.run rs1 hs h1 fun F2 Γ2 H2 w v2 rs2 s2 o2 h2=>?_⟩
   dsimp only at h2
   split at h2
   ·rename_i ms em
    split at h2
    ·rename_i hm
     obtain⟨l2,rfl,el2⟩:=wP o2 rs2 em
     exact⟨l2,ms,rfl,SqL.of el2,hm,fun p n=>h2 F2 H2 rs2 (.refl _ _) _ p (RepL.ints _) n⟩
    ·exact h2.elim
   ·exact h2.elim
  ·exact h1.elim
 ·exact h1.elim
end
end L3
set_option maxHeartbeats 4000000
namespace L2
open PySem PySem.Spec PyProof.Rows
variable [Cs]
noncomputable def wU (ns:List Int):Int:=(Jn ns).headD 0
theorem zat {ns:List Int}{M:Int}(h1:M∈ns) (h2:∀ a,a∈ns->M<=a):M=wU ns:=by
 unfold wU
 have hp:=Jo ns
 have hs:=vf ns
 cases e:Jn ns with
 | nil=>rw[e] at hp; exact absurd (hp.mem_iff.mpr h1) (by simp)
 | cons x r=>
  rw[e] at hp hs
  have hx:=h2 x (hp.mem_iff.mp List.mem_cons_self)
  have hM:x<=M:=by
   rcases List.mem_cons.mp (hp.mem_iff.mpr h1) with rfl | h
   ·exact Int.le_refl _
   ·exact (List.pairwise_cons.mp hs).1 M h
  simp; omega
section
variable {X:Cx}
theorem yC (hc:X.calm=true):qz X (.builtin "min") (fun xs H Q=>∃ p ns,xs= [.ref p]/\SqL X.K H p (List.map V.int ns)/\ns≠ []/\Q (.int (wU ns)) H):=by
 intro pins s σ H xs us Q I r h
 obtain⟨p,ns,rfl,hq,hne,q⟩:=h
 obtain⟨u,rfl,rx⟩:=jE r
 cases rx
 obtain⟨its,r',pl,hz⟩:=I.list hq
 have hi:=IntsAre.of r'
 have hall:=hi.allInts
 have hnum:=hi.numsOf
 have hlen:=IntsAre.length hi
 have hpos:0<ns.length:=List.length_pos_iff.mpr hne
 have hl:=pl.isList
 obtain⟨xs,ex⟩:=hall.items
 rw[ex] at hl
 have hn2:numsOf (intItems xs).toList=ns:=by rw[<- ex]; exact hnum
 have hsz:0<xs.size:=by
  have:its.toArray.size=(intItems xs).size:=by rw[ex]
  simp[intItems] at this
  omega
 refine min_intList (I.ok.hd hc) hl hsz fun v h' tk hv hk=>?_
 obtain⟨t,rfl⟩:=intItems_at hv
 obtain⟨h1,h2⟩:=argBest_lt (numAt xs) (xs.size-1)
 have hm:numAt xs (argBest (fun i j=>decide (numAt xs i<numAt xs j)) (xs.size-1))=wU ns:=by
  rw[nums_intItems] at hn2
  refine zat ?_ fun a ha=>?_
  ·rw[<- hn2,numAt_eq]; exact getD_mem (by rw[List.length_map,Array.length_toList]; omega)
  ·rw[<- hn2] at ha
   obtain⟨j,hj,rfl⟩:=mem_getD ha
   rw[List.length_map,Array.length_toList] at hj
   rw[<- numAt_eq]; exact h2 j (by omega)
 rw[hm]
 exact⟨.int (wU ns),H,I.kept hk,⟨_,rfl⟩,q⟩
end
end L2
namespace L3
open PySem PySem.Spec PyProof.Rows L2
variable [Cs]
noncomputable def yG (fa:EM FV):EM FV:=fun Γ=>(fa Γ).bind fun (u,Γ1)=>match (derL Γ1 u).bind zO with
 | some ns=>if 0<ns.length then .ok (.dat (.int (wU ns)),Γ1) else .bad
 | none=>.bad
section
variable {X:Cx} {XP:XPT} {mp:List Nat} {a:Expr} {p pos:Pos} {fa:EM FV}
theorem za1 {x:Str}(hc:X.calm=true) (B:BiK X x (.builtin "min")) (ha:SE X XP mp a fa) (hst:starEach [a] X.env= [(false,eval a X.env)]):SE X XP mp (.Call (.Name x p) [a] [] pos) (yG fa):=fun M0 F Γ ν σ H Q rs hs hp=>
 (jq (yC hc) B.gl B.mg B.bt (zp zf pa_nil hst) B.n B.d hst rfl).wp (ha.run rs hs hp fun F1 Γ1 H1 u v rs1 s1 o1 h1=>by
  dsimp only at h1
  split at h1
  ·rename_i ns en
   split at h1
   ·rename_i hn
    obtain⟨l,rfl,el⟩:=wP o1 rs1 en
    exact⟨l,ns,rfl,SqL.of el,List.length_pos_iff.mp hn,h1 F1 H1 rs1 (.refl _ _) _ (Rep.int _)⟩
   ·exact h1.elim
  ·exact h1.elim)
end
end L3
namespace L3
open PySem PySem.Spec PyProof.Rows L2
mutual
inductive IE where
 | var (s i:Nat)
 | frz (s i:Nat)
 | cint (i:Int)
 | cbool (b:Bool)
 | cnone
 | gint (x:Str) (i:Int)
 | tup (a:IL)
 | new (n:IN)
 | bin (op:Operator) (a b:IE)
 | cmp (op:CmpOp) (a b:IE)
 | chain (op op':CmpOp) (a b c:IE)
 | not (a:IE)
 | neg (a:IE)
 | and (a b:IE)
 | or (a b:IE)
 | ite (c a b:IE)
 | ix (a b:IE)
 | len (a:IE)
 | int (a:IE)
 | all (a:IE)
 | any (a:IE)
 | tuple (a:IE)
 | isi (T:String) (a:IE)
 | min (a b:IE)
 | max (a b:IE)
 | call (o:IO)
 | minL (a:IE)
 | newD (m:IM)
inductive IL where
 | nil
 | cons (e:IE) (a:IL)
inductive IA where
 | nil
 | cons (e:IE) (a:IA)
 | io (s i:Nat) (a:IA)
 | tmp (n:IN)
inductive IN where
 | lst (a:IL)
 | cat (a b:IE)
 | list (e:IE)
 | comp (n k:Nat) (ix:List Nat) (N':List Str) (t:IT) (src:II) (c:IC) (el:IE)
 | sdif (a b:IE)
inductive IP where
 | non
 | one (e:IE)
inductive II where
 | list (e:IE)
 | tup (e:IE)
 | range (e:IE)
 | enum (e:IE)
inductive IC where
 | yes
 | one (e:IE)
inductive IO where
 | dat (e:IE)
 | own (n:IN)
 | call (f:Str) (n:Nat) (a:IA)
 | move (s i:Nat)
 | ownD (m:IM)
inductive IJ where
 | nil
inductive IM where
 | nil
 | one (a b:IE)
 | comp (n k:Nat) (ix:List Nat) (N':List Str) (t:IT) (src:IG) (c:IC) (ek ev:IE)
inductive IG where
 | std (src:II)
end
noncomputable def IN.plain:IN->Bool
 | _=>true
noncomputable def IM.plain:IM->Bool
 | .comp _ _ _ _ _ (.std _) _ _ _=>true
 | _=>true
noncomputable abbrev CF:=Str->List OV->RF
noncomputable def fNo:EM Bool:=fun _=>.bad
mutual
noncomputable def IE.ev (cf:CF):IE->EM FV×EM Bool
 | .var _ i=>(fVar i,fTru (fVar i))
 | .frz _ i=>(fFrz i,fTru (fFrz i))
 | .cint i=>(fC (.int i),fTru (fC (.int i)))
 | .cbool b=>(fC (.bool b),fTru (fC (.bool b)))
 | .cnone=>(fC .none,fTru (fC .none))
 | .gint _ i=>(fC (.int i),fTru (fC (.int i)))
 | .tup a=>(fTup (a.ev cf),fTru (fTup (a.ev cf)))
 | .new n=>(fNew (n.ev cf),fTru (fNew (n.ev cf)))
 | .bin op a b=>(fBin (binD op) (a.ev cf).1 (b.ev cf).1,fTru (fBin (binD op) (a.ev cf).1 (b.ev cf).1))
 | .cmp op a b=>(fB (fCmp (cmpD op) (a.ev cf).1 (b.ev cf).1),fCmp (cmpD op) (a.ev cf).1 (b.ev cf).1)
 | .chain op op' a b c=>(fB (fChain (cmpD op) (cmpD op') (a.ev cf).1 (b.ev cf).1 (c.ev cf).1),fChain (cmpD op) (cmpD op') (a.ev cf).1 (b.ev cf).1 (c.ev cf).1)
 | .not a=>(fB (fNotT (fTru (a.ev cf).1)),fNotT (a.ev cf).2)
 | .neg a=>(f1 gNeg (a.ev cf).1,fTru (f1 gNeg (a.ev cf).1))
 | .and a b=>(fAndV (a.ev cf).1 (b.ev cf).1,fAndT (a.ev cf).2 (b.ev cf).2)
 | .or a b=>(fOrV (a.ev cf).1 (b.ev cf).1,fOrT (a.ev cf).2 (b.ev cf).2)
 | .ite c a b=>(fIf (c.ev cf).2 (a.ev cf).1 (b.ev cf).1,fNo)
 | .ix a b=>(fIx (a.ev cf).1 (b.ev cf).1,fTru (fIx (a.ev cf).1 (b.ev cf).1))
 | .len a=>(f1 gLen (a.ev cf).1,fTru (f1 gLen (a.ev cf).1))
 | .int a=>(f1 gInt (a.ev cf).1,fTru (f1 gInt (a.ev cf).1))
 | .all a=>(f1 gAll (a.ev cf).1,fTru (f1 gAll (a.ev cf).1))
 | .any a=>(f1 gAny (a.ev cf).1,fTru (f1 gAny (a.ev cf).1))
 | .tuple a=>(fTupC (a.ev cf).1,fTru (fTupC (a.ev cf).1))
 | .isi T a=>(fIsi T (a.ev cf).1,fTru (fIsi T (a.ev cf).1))
 | .min a b=>(f2 gMin (a.ev cf).1 (b.ev cf).1,fTru (f2 gMin (a.ev cf).1 (b.ev cf).1))
 | .max a b=>(f2 gMax (a.ev cf).1 (b.ev cf).1,fTru (f2 gMax (a.ev cf).1 (b.ev cf).1))
 | .call o=>(fOD (o.ev cf),fTru (fOD (o.ev cf)))
 | .minL a=>(yG (a.ev cf).1,fTru (yG (a.ev cf).1))
 | .newD m=>(WI (m.ev cf),fNo)
noncomputable def IL.ev (cf:CF):IL->EM (List FV)
 | .nil=>fNil
 | .cons e a=>fCons (e.ev cf).1 (a.ev cf)
noncomputable def IA.ev (cf:CF):IA->EM (List AV)
 | .nil=>aNil
 | .cons e a=>aCons (e.ev cf).1 (a.ev cf)
 | .io _ i a=>aIo i (a.ev cf)
 | .tmp n=>zdT (n.ev cf)
noncomputable def IN.ev (cf:CF):IN->EM (List PyData)
 | .lst a=>fLst (a.ev cf)
 | .cat a b=>zcp (a.ev cf).1 (b.ev cf).1
 | .list e=>fListC (e.ev cf).1
 | .comp n k _ _ t src c el=>fComp n k t (src.ev cf) (c.ev cf) (el.ev cf).1
 | .sdif a b=>WL (a.ev cf).1 (b.ev cf).1
noncomputable def IP.ev (cf:CF):IP->EM (Option Int)
 | .non=>zd4
 | .one e=>zd3 (e.ev cf).1
noncomputable def II.ev (cf:CF):II->EM (List PyData)
 | .list e=>fSeqL (e.ev cf).1
 | .tup e=>fSeqT (e.ev cf).1
 | .range e=>fRange (e.ev cf).1
 | .enum e=>fEnum (e.ev cf).1
noncomputable def IC.ev (cf:CF):IC->EM Bool
 | .yes=>fYes
 | .one e=>(e.ev cf).2
noncomputable def IO.ev (cf:CF):IO->EM OV
 | .dat e=>fD (e.ev cf).1
 | .own n=>fOwn (n.ev cf)
 | .call f _ a=>fCall (cf f) (a.ev cf)
 | .move _ i=>fMove i
 | .ownD m=>WJ (m.ev cf)
noncomputable def IJ.ev (cf:CF):IJ->EM (List Str)
 | .nil=>YR
noncomputable def IM.ev (cf:CF):IM->EM (List (Str×PyData))
 | .nil=>zbI
 | .one a b=>zbJ (a.ev cf).1 (b.ev cf).1
 | .comp n k _ _ t src c ek ev=>wL n k t (src.ev cf) (c.ev cf) (ek.ev cf).1 (ev.ev cf).1
noncomputable def IG.ev (cf:CF):IG->EM (List PyData×Option (Option Nat))
 | .std src=>zal (src.ev cf)
end
structure Wd where
 bi:List Str
 gi:List (Str×Int)
 gs:List (Str×Str)
 fl:List (Str×Nat)
 ex:List Str
 gd:List (Str×List (Str×Str))
 fk:List (Str×Str):= []
 mc:List (Str×Str×Nat):= []
 ml:List (Str×Str×Str×Nat):= []
noncomputable def zl:Expr->Bool
 | .Starred .. =>false
 | _=>true
noncomputable def ZL:Expr->Bool
 | .UnaryOp .Not _ _=>false
 | .BoolOp .. =>false
 | .IfExp .. =>false
 | .Compare .. =>false
 | _=>true
noncomputable def qP:Expr->Bool
 | .Slice .. =>false
 | _=>true
noncomputable def qJ:Expr->Bool
 | .Set .. =>false
 | _=>true
noncomputable def Y3:Expr->Bool
 | .Tuple .. =>true
 | _=>false
noncomputable def KN (sc:Scope) (x:Str):Bool:=decide (sc.names.lookup x=some .local)||decide (sc.names.lookup x=some .cell)||decide (sc.names.lookup x=some .free)
noncomputable def vW (sc:Scope) (x:Str):Bool:=decide (sc.names.lookup x=some .globalImplicit)
noncomputable def nmB (sc:Scope) (N:List Str) (mp:List Nat) (s i:Nat) (x:Str):Bool:=decide (N[s]?=some x)&&KN sc x&&decide (mp[s]?=some i)&& !(x==("__debug__" :Str))&& !(x==("__classdict__" :Str))
noncomputable def biB (W:Wd) (sc:Scope) (x y:Str):Bool:=decide (x=y)&&vW sc x&&W.bi.contains x
noncomputable def okO {α:Type}(o:Option α) (f:α->Bool):Bool:=match o with
 | some a=>f a
 | none=>false
theorem zh {α:Type}{o:Option α}{f:α->Bool}(h:okO o f=true):∃ a,o=some a/\f a=true:=by
 cases o with
 | none=>cases h
 | some a=>exact⟨a,rfl,h⟩
noncomputable def qd:Expr->Option (Str×Pos)
 | .Name x p=>some (x,p)
 | _=>none
noncomputable def vy:Expr->Option (Const×Nat×Pos)
 | .Constant c j p=>some (c,j,p)
 | _=>none
noncomputable def zb9:Const->Option Int
 | .int i=>some i
 | _=>none
noncomputable def YE:Const->Option Bool
 | .bool i=>some i
 | _=>none
noncomputable def zbE:Const->Bool
 | .none=>true
 | _=>false
noncomputable def KF:Expr->Option (List Expr×Nat×Pos)
 | .Tuple es n p=>some (es,n,p)
 | _=>none
noncomputable def KD:Expr->Option (List Expr×Pos)
 | .List es p=>some (es,p)
 | _=>none
noncomputable def wo:Expr->Option (Expr×Operator×Expr×Pos)
 | .BinOp x op y p=>some (x,op,y,p)
 | _=>none
noncomputable def yc:Expr->Option (Expr×List CmpOp×List Expr×Pos)
 | .Compare x ops ys p=>some (x,ops,ys,p)
 | _=>none
noncomputable def zbt:Expr->Option (UnaryOp×Expr×Pos)
 | .UnaryOp op x p=>some (op,x,p)
 | _=>none
noncomputable def zbp:Expr->Option (BoolOp×List Expr×Pos)
 | .BoolOp op vs p=>some (op,vs,p)
 | _=>none
noncomputable def KB:Expr->Option (Expr×Expr×Expr×Pos)
 | .IfExp z x y p=>some (z,x,y,p)
 | _=>none
noncomputable def yf:Expr->Option (Expr×Expr×Pos)
 | .Subscript x y p=>some (x,y,p)
 | _=>none
noncomputable def wq:Expr->Option (Expr×List Expr×List Keyword×Pos)
 | .Call f xs ks q=>some (f,xs,ks,q)
 | _=>none
noncomputable def yb:Expr->Option (Expr×Str×Pos)
 | .Attribute x f p=>some (x,f,p)
 | _=>none
noncomputable def ye:Expr->Option (Expr×List Comprehension×Scope×Pos)
 | .ListComp elt gens scope p=>some (elt,gens,scope,p)
 | _=>none
theorem zG {e:Expr}{x:Str}{p:Pos}(h:qd e=some (x,p)):e=.Name x p:=by
 unfold qd at h
 split at h
 ·cases h; rfl
 ·cases h
theorem ZQ {e:Expr}{c:Const}{j:Nat}{p:Pos}(h:vy e=some (c,j,p)):e=.Constant c j p:=by
 unfold vy at h
 split at h
 ·cases h; rfl
 ·cases h
theorem YF {c:Const}{i:Int}(h:zb9 c=some i):c=.int i:=by
 unfold zb9 at h
 split at h
 ·cases h; rfl
 ·cases h
theorem yw {c:Const}{i:Bool}(h:YE c=some i):c=.bool i:=by
 unfold YE at h
 split at h
 ·cases h; rfl
 ·cases h
theorem yx {c:Const}(h:zbE c=true):c=.none:=by cases c <;> first | rfl | cases h
theorem Yk {e:Expr}{es:List Expr}{n:Nat}{p:Pos}(h:KF e=some (es,n,p)):e=.Tuple es n p:=by
 unfold KF at h
 split at h
 ·cases h; rfl
 ·cases h
theorem Yj {e:Expr}{es:List Expr}{p:Pos}(h:KD e=some (es,p)):e=.List es p:=by
 unfold KD at h
 split at h
 ·cases h; rfl
 ·cases h
theorem ZP {e x y:Expr}{op:Operator}{p:Pos}(h:wo e=some (x,op,y,p)):e=.BinOp x op y p:=by
 unfold wo at h
 split at h
 ·cases h; rfl
 ·cases h
theorem wu {e x:Expr}{ops:List CmpOp}{ys:List Expr}{p:Pos}(h:yc e=some (x,ops,ys,p)):e=.Compare x ops ys p:=by
 unfold yc at h
 split at h
 ·cases h; rfl
 ·cases h
theorem vA {e x:Expr}{op:UnaryOp}{p:Pos}(h:zbt e=some (op,x,p)):e=.UnaryOp op x p:=by
 unfold zbt at h
 split at h
 ·cases h; rfl
 ·cases h
theorem Kz {e:Expr}{op:BoolOp}{vs:List Expr}{p:Pos}(h:zbp e=some (op,vs,p)):e=.BoolOp op vs p:=by
 unfold zbp at h
 split at h
 ·cases h; rfl
 ·cases h
theorem Yh {e z x y:Expr}{p:Pos}(h:KB e=some (z,x,y,p)):e=.IfExp z x y p:=by
 unfold KB at h
 split at h
 ·cases h; rfl
 ·cases h
theorem wv {e x y:Expr}{p:Pos}(h:yf e=some (x,y,p)):e=.Subscript x y p:=by
 unfold yf at h
 split at h
 ·cases h; rfl
 ·cases h
theorem wt {e f:Expr}{xs:List Expr}{ks:List Keyword}{p:Pos}(h:wq e=some (f,xs,ks,p)):e=.Call f xs ks p:=by
 unfold wq at h
 split at h
 ·cases h; rfl
 ·cases h
theorem Yf {e x:Expr}{f:Str}{p:Pos}(h:yb e=some (x,f,p)):e=.Attribute x f p:=by
 unfold yb at h
 split at h
 ·cases h; rfl
 ·cases h
theorem Yi {e elt:Expr}{gens:List Comprehension}{scope:Scope}{p:Pos}(h:ye e=some (elt,gens,scope,p)):e=.ListComp elt gens scope p:=by
 unfold ye at h
 split at h
 ·cases h; rfl
 ·cases h
noncomputable def unN (e:Expr):Option (Str×Pos×List Expr×Pos):=(wq e).bind fun (f,xs,ks,q)=>match ks with
 | []=>(qd f).map fun (x,p)=>(x,p,xs,q)
 | _::_=>none
theorem Wf {e:Expr}{f:Str}{p:Pos}{xs:List Expr}{q:Pos}(h:unN e=some (f,p,xs,q)):e=.Call (.Name f p) xs [] q:=by
 unfold unN at h
 cases e1:wq e with
 | none=>rw[e1] at h; cases h
 | some z=>
  obtain⟨g,ys,ks,q'⟩:=z
  rw[e1] at h
  cases ks with
  | cons _ _=>cases h
  | nil=>
   cases e2:qd g with
   | none=>simp[e2] at h
   | some z=>
    obtain⟨x,p'⟩:=z
    simp[e2] at h
    obtain⟨rfl,rfl,rfl,rfl⟩:=h
    rw[wt e1,zG e2]
noncomputable def Zs {α:Type}:List α->Option α
 | [x]=>some x
 | _=>none
theorem z9 {α:Type}{l:List α}{x:α}(h:Zs l=some x):l= [x]:=by
 match l,h with
 | [_],h=>cases h; rfl
noncomputable def Kx {α:Type}:List α->Option (α×α)
 | [x,y]=>some (x,y)
 | _=>none
theorem Js {α:Type}{l:List α}{x y:α}(h:Kx l=some (x,y)):l= [x,y]:=by
 match l,h with
 | [_,_],h=>cases h; rfl
noncomputable def un1 (e:Expr):Option (Str×Pos×Expr×Pos):=(unN e).bind fun (f,p,xs,q)=>(Zs xs).map fun x=>(f,p,x,q)
theorem zU {e:Expr}{f:Str}{p:Pos}{x:Expr}{q:Pos}(h:un1 e=some (f,p,x,q)):e=.Call (.Name f p) [x] [] q:=by
 unfold un1 at h
 cases e1:unN e with
 | none=>rw[e1] at h; cases h
 | some z=>
  obtain⟨g,p',xs,q'⟩:=z
  cases e2:Zs xs with
  | none=>simp[e1,e2] at h
  | some y=>
   simp[e1,e2] at h
   obtain⟨rfl,rfl,rfl,rfl⟩:=h
   rw[Wf e1,z9 e2]
noncomputable def un2 (e:Expr):Option (Str×Pos×Expr×Expr×Pos):=(unN e).bind fun (f,p,xs,q)=>(Kx xs).map fun (x,y)=>(f,p,x,y,q)
theorem We {e:Expr}{f:Str}{p:Pos}{x y:Expr}{q:Pos}(h:un2 e=some (f,p,x,y,q)):e=.Call (.Name f p) [x,y] [] q:=by
 unfold un2 at h
 cases e1:unN e with
 | none=>rw[e1] at h; cases h
 | some z=>
  obtain⟨g,p',xs,q'⟩:=z
  cases e2:Kx xs with
  | none=>simp[e1,e2] at h
  | some y=>
   obtain⟨y1,y2⟩:=y
   simp[e1,e2] at h
   obtain⟨rfl,rfl,rfl,rfl,rfl⟩:=h
   rw[Wf e1,Js e2]
noncomputable def zbs (e:Expr):Option (Str×Pos×Str×Pos×List Expr×Pos):=(wq e).bind fun (f,xs,ks,q)=>match ks with
 | []=>(yb f).bind fun (x,m,p2)=>(qd x).map fun (y,p)=>(y,p,m,p2,xs,q)
 | _::_=>none
theorem KE {e:Expr}{x f:Str}{p p2:Pos}{xs:List Expr}{q:Pos}(h:zbs e=some (x,p,f,p2,xs,q)):e=.Call (.Attribute (.Name x p) f p2) xs [] q:=by
 unfold zbs at h
 cases e1:wq e with
 | none=>rw[e1] at h; cases h
 | some z=>
  obtain⟨g,ys,ks,q'⟩:=z
  rw[e1] at h
  cases ks with
  | cons _ _=>cases h
  | nil=>
   cases e2:yb g with
   | none=>simp[e2] at h
   | some z=>
    obtain⟨y,m,p3⟩:=z
    cases e3:qd y with
    | none=>simp[e2,e3] at h
    | some z=>
     obtain⟨y',p'⟩:=z
     simp[e2,e3] at h
     obtain⟨rfl,rfl,rfl,rfl,rfl,rfl⟩:=h
     rw[wt e1,Yf e2,zG e3]
noncomputable def Vo (e:Expr):Option (Str×Str×Str×Expr×Expr×Pos×Pos×Pos×Pos×Pos×Pos×Pos):=(un1 e).bind fun (f,p1,b,q1)=>(wo b).bind fun (x,op,y,pb)=>(un1 x).bind fun (g,p2,x',q2)=>(un1 y).bind fun (h,p3,y',q3)=>match op with
 | .Sub=>some (f,g,h,x',y',p1,p2,p3,q1,q2,q3,pb)
 | _=>none
theorem Vp {e:Expr}{f g h:Str}{x y:Expr}{p1 p2 p3 q1 q2 q3 pb:Pos}(hh:Vo e=some (f,g,h,x,y,p1,p2,p3,q1,q2,q3,pb)):e=.Call (.Name f p1) [.BinOp (.Call (.Name g p2) [x] [] q2) .Sub (.Call (.Name h p3) [y] [] q3) pb] [] q1:=by
 unfold Vo at hh
 cases e1:un1 e with
 | none=>rw[e1] at hh; cases hh
 | some z1=>
  obtain⟨a1,a2,a3,a4⟩:=z1
  cases e2:wo a3 with
  | none=>simp[e1,e2] at hh
  | some z2=>
   obtain⟨b1,b2,b3,b4⟩:=z2
   cases e3:un1 b1 with
   | none=>simp[e1,e2,e3] at hh
   | some z3=>
    obtain⟨c1,c2,c3,c4⟩:=z3
    cases e4:un1 b3 with
    | none=>simp[e1,e2,e3,e4] at hh
    | some z4=>
     obtain⟨d1,d2,d3,d4⟩:=z4
     cases b2 with
     | Sub=>
      simp[e1,e2,e3,e4] at hh
      obtain⟨rfl,rfl,rfl,rfl,rfl,rfl,rfl,rfl,rfl,rfl,rfl,rfl⟩:=hh
      rw[zU e1,ZP e2,zU e3,zU e4]
     | _=>simp[e1,e2,e3,e4] at hh
noncomputable def zdH (e:Expr):Option (Expr×Expr×Expr×List Expr×Scope×Pos):=(ye e).bind fun (elt,gens,scope,p)=>(Zs gens).bind fun g=>if g.is_async=0 then some (elt,g.target,g.iter,g.ifs,scope,p) else none
theorem KC {e elt tg iter:Expr}{ifs:List Expr}{scope:Scope}{p:Pos}(h:zdH e=some (elt,tg,iter,ifs,scope,p)):e=.ListComp elt [⟨tg,iter,ifs,0⟩] scope p:=by
 unfold zdH at h
 cases e1:ye e with
 | none=>rw[e1] at h; cases h
 | some z=>
  obtain⟨a1,a2,a3,a4⟩:=z
  cases e2:Zs a2 with
  | none=>simp[e1,e2] at h
  | some g=>
   obtain⟨g1,g2,g3,g4⟩:=g
   by_cases hz:g4=0
   ·subst hz
    simp[e1,e2] at h
    obtain⟨rfl,rfl,rfl,rfl,rfl,rfl⟩:=h
    rw[Yi e1,z9 e2]
   ·simp[e1,e2,hz] at h
noncomputable def ya (op:BoolOp) (e:Expr):Option (Expr×Expr):=(zbp e).bind fun (o,vs,p)=>if o=op then (match vs with
 | x::y:: []=>some (x,y)
 | x::y::z::r=>some (x,.BoolOp op (y::z::r) p)
 | _=>none) else none
theorem wm {op:BoolOp}{e x z:Expr}(h:ya op e=some (x,z)):(∃ p,e=.BoolOp op [x,z] p)∨∃ y w r p,e=.BoolOp op (x::y::w::r) p/\z=.BoolOp op (y::w::r) p:=by
 unfold ya at h
 cases e1:zbp e with
 | none=>rw[e1] at h; cases h
 | some q=>
  obtain⟨o,vs,p⟩:=q
  rw[Kz e1]
  by_cases ho:o=op
  ·subst ho
   match vs with
   | []=>simp[e1] at h
   | [_]=>simp[e1] at h
   | [a,b]=>
    simp[e1] at h
    obtain⟨rfl,rfl⟩:=h
    exact .inl ⟨p,rfl⟩
   | a::b::c::r=>
    simp[e1] at h
    obtain⟨rfl,rfl⟩:=h
    exact .inr ⟨b,c,r,p,rfl,rfl⟩
  ·simp[e1,ho] at h
mutual
noncomputable def Jx (sc:Scope) (N:List Str) (mp:List Nat) (lo:Nat):IT->Expr->Bool
 | .nm s i,.Name x _=>decide (N[s]?=some x)&&decide (mp[s]?=some i)&&decide (lo<=i)&&(decide (sc.names.lookup x=some .local)||decide (sc.names.lookup x=some .cell))
 | .tp ts,.Tuple es _ _=>JW sc N mp lo ts es
 | _,_=>false
noncomputable def JW (sc:Scope) (N:List Str) (mp:List Nat) (lo:Nat):ITs->List Expr->Bool
 | .nil,[]=>true
 | .cons t ts,e::es=>zl e&&Jx sc N mp lo t e&&JW sc N mp lo ts es
 | _,_=>false
end
noncomputable def v9:Expr->Bool
 | .Name .. =>true
 | .Subscript .. =>true
 | .Attribute .. =>true
 | .Call (.Attribute ..) .. =>true
 | _=>false
theorem wE {o:Expr}{nm:Str}{env:Env}(h:v9 o=true):attributeBase o nm env (eval o env)=eval o env:=by
 cases o <;> first | rfl | (simp[v9] at h; done) | skip
 rename_i f xs ks q
 cases f <;> first | rfl | (simp[v9] at h)
noncomputable def zbr:Expr->Option (List (Option Expr)×List Expr×Pos)
 | .Dict ks vs p=>some (ks,vs,p)
 | _=>none
theorem vz {e:Expr}{ks:List (Option Expr)}{vs:List Expr}{p:Pos}(h:zbr e=some (ks,vs,p)):e=.Dict ks vs p:=by
 unfold zbr at h
 split at h
 ·cases h; rfl
 ·cases h
noncomputable def yd:Expr->Option (Expr×Expr×List Comprehension×Scope×Pos)
 | .DictComp k v gens scope p=>some (k,v,gens,scope,p)
 | _=>none
theorem Yg {e k v:Expr}{gens:List Comprehension}{scope:Scope}{p:Pos}(h:yd e=some (k,v,gens,scope,p)):e=.DictComp k v gens scope p:=by
 unfold yd at h
 split at h
 ·cases h; rfl
 ·cases h
noncomputable def zdG (e:Expr):Option (Expr×Expr×Expr×Expr×List Expr×Scope×Pos):=(yd e).bind fun (k,v,gens,scope,p)=>(Zs gens).bind fun g=>if g.is_async=0 then some (k,v,g.target,g.iter,g.ifs,scope,p) else none
theorem KA {e k v tg iter:Expr}{ifs:List Expr}{scope:Scope}{p:Pos}(h:zdG e=some (k,v,tg,iter,ifs,scope,p)):e=.DictComp k v [⟨tg,iter,ifs,0⟩] scope p:=by
 unfold zdG at h
 cases e1:yd e with
 | none=>rw[e1] at h; cases h
 | some z=>
  obtain⟨a0,a1,a2,a3,a4⟩:=z
  cases e2:Zs a2 with
  | none=>simp[e1,e2] at h
  | some g=>
   obtain⟨g1,g2,g3,g4⟩:=g
   by_cases hz:g4=0
   ·subst hz
    simp[e1,e2] at h
    obtain⟨rfl,rfl,rfl,rfl,rfl,rfl,rfl⟩:=h
    rw[Yg e1,z9 e2]
   ·simp[e1,e2,hz] at h
mutual
noncomputable def IE.chk (W:Wd) (sc:Scope) (N:List Str) (mp:List Nat) (m:Nat):IE->Expr->Bool
 | .var s i,e=>okO (qd e) fun x=>nmB sc N mp s i x.1
 | .frz s i,e=>okO (qd e) fun x=>nmB sc N mp s i x.1
 | .cint i,e=>okO (vy e) fun c=>okO (zb9 c.1) fun j=>decide (i=j)
 | .cbool b,e=>okO (vy e) fun c=>okO (YE c.1) fun y=>decide (b=y)
 | .cnone,e=>okO (vy e) fun c=>zbE c.1
 | .gint x i,e=>okO (qd e) fun y=>decide (x=y.1)&&vW sc x&&W.gi.contains (x,i)&& !(x==("__debug__" :Str))
 | .tup a,e=>okO (KF e) fun es=>a.chk W sc N mp m es.1
 | .new n,e=>ZL e&&n.chk W sc N mp m e
 | .bin op a b,e=>okO (wo e) fun z=>decide (op=z.2.1)&&a.chk W sc N mp m z.1&&b.chk W sc N mp m z.2.2.1
 | .cmp op a b,e=>okO (yc e) fun z=>okO (Zs z.2.1) fun op'=>okO (Zs z.2.2.1) fun y=>decide (op=op')&&qJ y&&a.chk W sc N mp m z.1&&b.chk W sc N mp m y
 | .chain op1 op2 a b c,e=>okO (yc e) fun z=>okO (Kx z.2.1) fun o=>okO (Kx z.2.2.1) fun y=>decide (op1=o.1)&&decide (op2=o.2)&&qJ y.2&&a.chk W sc N mp m z.1&&b.chk W sc N mp m y.1&&c.chk W sc N mp m y.2
 | .not a,e=>okO (zbt e) fun z=>decide (z.1=.Not)&&a.chk W sc N mp m z.2.1
 | .neg a,e=>okO (zbt e) fun z=>decide (z.1=.USub)&&a.chk W sc N mp m z.2.1
 | .and a b,e=>okO (ya .And e) fun z=>a.chk W sc N mp m z.1&&b.chk W sc N mp m z.2
 | .or a b,e=>okO (ya .Or e) fun z=>a.chk W sc N mp m z.1&&b.chk W sc N mp m z.2
 | .ite c a b,e=>okO (KB e) fun z=>c.chk W sc N mp m z.1&&a.chk W sc N mp m z.2.1&&b.chk W sc N mp m z.2.2.1
 | .ix a b,e=>okO (yf e) fun z=>qP z.2.1&&a.chk W sc N mp m z.1&&b.chk W sc N mp m z.2.1
 | .len a,e=>match un1 e with
  | some (f,_,x,_)=>biB W sc f "len" &&zl x&&a.chk W sc N mp m x
  | none=>false
 | .int a,e=>match un1 e with
  | some (f,_,x,_)=>biB W sc f "int" &&zl x&&a.chk W sc N mp m x
  | none=>false
 | .all a,e=>match un1 e with
  | some (f,_,x,_)=>biB W sc f "all" &&zl x&&a.chk W sc N mp m x
  | none=>false
 | .any a,e=>match un1 e with
  | some (f,_,x,_)=>biB W sc f "any" &&zl x&&a.chk W sc N mp m x
  | none=>false
 | .tuple a,e=>match un1 e with
  | some (f,_,x,_)=>biB W sc f "tuple" &&zl x&&a.chk W sc N mp m x
  | none=>false
 | .isi T a,e=>match un2 e with
  | some (f,_,x,y,_)=>biB W sc f "isinstance" &&zl x&&(T== "int" ||T== "bool" ||T== "list" ||T== "tuple" ||T== "str")&&okO (qd y) (fun z=>biB W sc z.1 (Str.ofString T))&&a.chk W sc N mp m x
  | none=>false
 | .min a b,e=>match un2 e with
  | some (f,_,x,y,_)=>biB W sc f "min" &&zl x&&zl y&&a.chk W sc N mp m x&&b.chk W sc N mp m y
  | none=>false
 | .max a b,e=>match un2 e with
  | some (f,_,x,y,_)=>biB W sc f "max" &&zl x&&zl y&&a.chk W sc N mp m x&&b.chk W sc N mp m y
  | none=>false
 | .call o,e=>ZL e&&o.chk W sc N mp m e
 | .minL a,e=>match un1 e with
  | some (f,_,x,_)=>biB W sc f "min" &&zl x&&a.chk W sc N mp m x
  | none=>false
 | .newD n,e=>n.chk W sc N mp m e
noncomputable def IL.chk (W:Wd) (sc:Scope) (N:List Str) (mp:List Nat) (m:Nat):IL->List Expr->Bool
 | .nil,[]=>true
 | .cons e a,x::xs=>zl x&&e.chk W sc N mp m x&&a.chk W sc N mp m xs
 | _,_=>false
noncomputable def IA.chk (W:Wd) (sc:Scope) (N:List Str) (mp:List Nat) (m:Nat):IA->List Expr->Bool
 | .nil,[]=>true
 | .cons e a,x::xs=>zl x&&e.chk W sc N mp m x&&a.chk W sc N mp m xs
 | .io s i a,x::xs=>okO (qd x) (fun z=>nmB sc N mp s i z.1)&&a.chk W sc N mp m xs
 | .tmp n,[x]=>zl x&&n.chk W sc N mp m x
 | _,_=>false
noncomputable def IN.chk (W:Wd) (sc:Scope) (N:List Str) (mp:List Nat) (m:Nat):IN->Expr->Bool
 | .lst a,e=>okO (KD e) fun z=>a.chk W sc N mp m z.1
 | .cat a b,e=>okO (wo e) fun z=>decide (z.2.1=.Add)&&a.chk W sc N mp m z.1&&b.chk W sc N mp m z.2.2.1
 | .list e,y=>match un1 y with
  | some (f,_,x,_)=>biB W sc f "list" &&zl x&&e.chk W sc N mp m x
  | none=>false
 | .comp n k ix N' t src c el,e=>match zdH e with
  | some (elt,tg,iter,ifs,scope,_)=>decide (n=m)&&VL sc N scope N' k ix&&decide (mpC mp n k ix).Nodup&&ix.all (fun i=>match mp[i]? with
   | some j=>decide (j<n)
   | none=>false)&&qJ iter&&src.chk W sc N mp m iter tg&&Jx scope N' (mpC mp n k ix) n t tg&&c.chk W scope N' (mpC mp n k ix) (n+k) ifs&&el.chk W scope N' (mpC mp n k ix) (n+k) elt
  | none=>false
 | .sdif a b,e=>match Vo e with
  | some (f,g,h,x,y,_)=>biB W sc f "sorted" &&biB W sc g "set" &&biB W sc h "set" &&zl x&&zl y&&a.chk W sc N mp m x&&b.chk W sc N mp m y
  | none=>false
noncomputable def IP.chk (W:Wd) (sc:Scope) (N:List Str) (mp:List Nat) (m:Nat):IP->Option Expr->Bool
 | .non,none=>true
 | .one e,some x=>e.chk W sc N mp m x
 | _,_=>false
noncomputable def II.chk (W:Wd) (sc:Scope) (N:List Str) (mp:List Nat) (m:Nat):II->Expr->Expr->Bool
 | .list e,x,_=>e.chk W sc N mp m x
 | .tup e,x,_=>e.chk W sc N mp m x
 | .range e,y,_=>match un1 y with
  | some (f,_,x,_)=>biB W sc f "range" &&zl x&&e.chk W sc N mp m x
  | none=>false
 | .enum e,y,tg=>match un1 y with
  | some (f,_,x,_)=>Y3 tg&&biB W sc f "enumerate" &&zl x&&e.chk W sc N mp m x
  | none=>false
noncomputable def IC.chk (W:Wd) (sc:Scope) (N:List Str) (mp:List Nat) (m:Nat):IC->List Expr->Bool
 | .yes,[]=>true
 | .one e,[x]=>e.chk W sc N mp m x
 | _,_=>false
noncomputable def IO.chk (W:Wd) (sc:Scope) (N:List Str) (mp:List Nat) (m:Nat):IO->Expr->Bool
 | .dat e,x=>e.chk W sc N mp m x
 | .own n,x=>n.chk W sc N mp m x
 | .call f n a,e=>match unN e with
  | some (g,_,xs,_)=>decide (f=g)&&vW sc f&&W.fl.contains (f,n)&& !(f==("__debug__" :Str))&&xs.all zl&&a.chk W sc N mp m xs
  | none=>false
 | .move s i,e=>okO (qd e) fun x=>nmB sc N mp s i x.1
 | .ownD n,e=>n.chk W sc N mp m e
noncomputable def IJ.chk (W:Wd) (sc:Scope) (N:List Str) (mp:List Nat) (m:Nat):IJ->List Expr->Bool
 | .nil,[]=>true
 | _,_=>false
noncomputable def IM.chk (W:Wd) (sc:Scope) (N:List Str) (mp:List Nat) (m:Nat):IM->Expr->Bool
 | .nil,e=>okO (zbr e) fun z=>z.1.isEmpty&&z.2.1.isEmpty
 | .one a b,e=>okO (zbr e) fun z=>okO (Zs z.1) fun k=>okO k fun x=>okO (Zs z.2.1) fun y=>a.chk W sc N mp m x&&b.chk W sc N mp m y
 | .comp n k ix N' t src c ek ev,e=>match zdG e with
  | some (kx,vx,tg,iter,ifs,scope,_)=>decide (n=m)&&VL sc N scope N' k ix&&decide (mpC mp n k ix).Nodup&&ix.all (fun i=>match mp[i]? with
   | some j=>decide (j<n)
   | none=>false)&&qJ iter&&src.chk W sc N mp m iter tg&&Jx scope N' (mpC mp n k ix) n t tg&&c.chk W scope N' (mpC mp n k ix) (n+k) ifs&&ek.chk W scope N' (mpC mp n k ix) (n+k) kx&&ev.chk W scope N' (mpC mp n k ix) (n+k) vx
  | none=>false
noncomputable def IG.chk (W:Wd) (sc:Scope) (N:List Str) (mp:List Nat) (m:Nat):IG->Expr->Expr->Bool
 | .std src,x,tg=>src.chk W sc N mp m x tg
end
end L3
set_option maxHeartbeats 4000000
namespace L3
open PySem PySem.Spec PyProof.Rows L2
variable [Cs]
structure XSc (X:Cx) (sc:Scope) (N:List Str):Prop where
 hN:X.N=N
 vis:∀ x,KN sc x=true->Vis X.env.scope x
 loc:∀ x,sc.names.lookup x=some .local->X.env.scope.names.lookup x=some .local
 cel:∀ x,sc.names.lookup x=some .cell->X.env.scope.names.lookup x=some .cell/\X.fn x=true
 fre:∀ x,sc.names.lookup x=some .free->X.env.scope.names.lookup x=some .cell∨X.env.scope.names.lookup x=some .free
 glo:∀ x,vW sc x=true->Gl X x
structure XW (X:Cx) (XP:XPT) (cf:CF) (W:Wd) (k:Nat):Prop where
 bi:∀ x,W.bi.contains x=true->X.mg x=none
 gi:∀ x i,W.gi.contains (x,i)=true->∃ t,X.mg x=some (.int i t)
 gs:∀ x i,W.gs.contains (x,i)=true->∃ t,X.mg x=some (.str i t)
 fn:∀ x n,W.fl.contains (x,n)=true->Kn X.prog X.w X.K X.mg X.base (CX1 X.prog X.w) x k (spX X.mg n (cf x))/\∀ args,cf x args≠ .bad->args.length=n
 rm:Room k X.A
 hk:1<=k
 calm:X.calm=true
 ex:∀ x,W.ex.contains x=true->∃ C,X.mg x=some (.ref C)/\PySem.W.excIn X.K C bmV "ValueError.__new__" =true
 mr:∀ x C y C2,W.ex.contains x=true->X.mg x=some (.ref C)->W.ex.contains y=true->X.mg y=some (.ref C2)->(mroIn X.K C).contains (.ref C2)=decide (x=y)
 gd:∀ x kf,W.gd.contains (x,kf)=true->GD X.w X.K X.mg x kf
 fk:∀ c f,W.fk.contains (c,f)=true->FldK X c f
 mc:∀ c q n,W.mc.contains (c,q,n)=true->X.mg c=some (.ref (Cs.adr c))/\(∃ j,j+1<=k/\KnI X.prog X.w X.K X.mg X.base (CX1 X.prog X.w) (Cs.adr c) j (spX X.mg n (cf q)))/\∀ args,cf q args≠ .bad->args.length=n
 ml:∀ c m q n,W.ml.contains (c,m,q,n)=true->KnM X.prog X.w X.K X.mg X.base (CX1 X.prog X.w) (Cs.adr c) m k (spX X.mg n (cf q))/\∀ args,cf q args≠ .bad->args.length=n
 px:PxOk X XP
 sk:Sk X
theorem zn {e:Expr}{es:List Expr}{env:Env}(h:zl e=true):starEach (e::es) env=(false,eval e env)::starEach es env:=by
 cases e <;> first | rfl | (simp[zl] at h)
theorem Kq {es:List Expr}{env:Env}:es.all zl=true->(starEach es env).any (·.1)=false:=by
 induction es with
 | nil=>intro; rfl
 | cons e es ih=>
  intro h
  rw[List.all_cons,Bool.and_eq_true] at h
  rw[zn h.1,List.any_cons,ih h.2]; rfl
theorem Qb {pos:Pos}:∀ {l:List (Bool×Sem Value)},l.any (·.1)=false->(backTo pos l).any (·.1)=false
 | [],_=>rfl
 | (b,t)::r,h=>by
  rw[List.any_cons,Bool.or_eq_false_iff] at h
  show ((b,_)::backTo pos r).any (·.1)=false
  rw[List.any_cons,Qb h.2]
  have hb:b=false:=h.1
  rw[hb]; rfl
theorem v8 {e:Expr}(h:qP e=true):wy e:=fun o i=>by
 cases e <;> first | rfl | (simp[qP] at h)
theorem qM {e:Expr}{env:Env}(h:qJ e=true) (x:Value):foldedSetIterable e env x=pure x:=by
 cases e <;> first | rfl | (simp[qJ] at h)
theorem Jb {e:Expr}(op:CmpOp) (h:qJ e=true):behindInMarks op e=false:=by
 cases e <;> first | rfl | (simp[qJ] at h)
theorem J8 {e b:Expr}(op op':CmpOp) (h:qJ e=true):lastMarks [op,op'] [b,e]=false:=Jb op' h
theorem vj {x y:Str}(h:(!(x==y))=true):(x==y)=false:=by simpa using h
section
variable {X:Cx} {XP:XPT} {cf:CF} {W:Wd} {k:Nat} {sc:Scope} {N:List Str} {mp:List Nat} {m:Nat}
theorem wb {s i:Nat}{x:Str}(S:XSc X sc N) (h:nmB sc N mp s i x=true):NmK X mp s i x:=by
 unfold nmB at h
 simp only[Bool.and_eq_true,decide_eq_true_eq] at h
 obtain⟨⟨⟨⟨h1,h2⟩,h3⟩,h4⟩,h5⟩:=h
 exact⟨by rw[S.hN]; exact h1,S.vis x h2,h3,vj h4,vj h5⟩
theorem zZ {x y:Str}{v:Value}(S:XSc X sc N) (T:XW X XP cf W k) (h:biB W sc x y=true) (hb:bootBuiltins y=some v) (hn:y≠ "__name__") (hd:(y==("__debug__" :Str))=false):BiK X x v:=by
 unfold biB at h
 simp only[Bool.and_eq_true,decide_eq_true_eq] at h
 obtain⟨⟨h1,h2⟩,h3⟩:=h
 subst h1
 exact⟨S.glo x h2,T.bi x h3,hb,hn,hd⟩
theorem ZX {f:Str->NameKind->NameKind}:∀ {names:List (Str×NameKind)}{x:Str},(names.map fun (n,k)=>(n,f n k)).lookup x=(names.lookup x).map (f x)
 | [],_=>rfl
 | (n,k)::r,x=>by
  rw[List.map_cons]
  cases hx:x==n with
  | true=>rw[List.lookup_cons,List.lookup_cons,hx]; rw[eq_of_beq hx]; rfl
  | false=>rw[List.lookup_cons,List.lookup_cons,hx]; exact ZX
theorem qc {scope:Scope}{env:Env}{x:Str}:(relabel scope env).names.lookup x=(scope.names.lookup x).map fun k=>if (k==.free&&env.scope.kind==ScopeKind.function&&env.kindOf x==some NameKind.cell) then .cell else k:=by
 unfold relabel
 have e:(scope.names.map fun (n,k)=>if (k==NameKind.free&&env.scope.kind==ScopeKind.function&&env.kindOf n==some NameKind.cell) then (n,NameKind.cell) else (n,k)) =
   scope.names.map fun (n,k)=>(n,(fun n k=>if (k==NameKind.free&&env.scope.kind==ScopeKind.function&&env.kindOf n==some NameKind.cell) then NameKind.cell else k) n k):=by
  apply List.map_congr_left
  rintro⟨n,k⟩ _
  dsimp only
  split <;> rfl
 rw[e]
 exact ZX (f:=fun n k=>if (k==NameKind.free&&env.scope.kind==ScopeKind.function&&env.kindOf n==some NameKind.cell) then NameKind.cell else k)
theorem XSc.comp {scope:Scope}{N':List Str}{k:Nat}{ix:List Nat}{psc:Scope}(S:CSc psc N scope N' k ix) (cl:List (Str×Addr)) (C:Addr) (s2:Shared) (H2:Hp) (fp:List Addr):XSc (X.comp N' scope cl C s2 H2 fp) scope N' where
 hN:=rfl
 vis x h:=by
  unfold KN at h
  simp only[Bool.or_eq_true,decide_eq_true_eq] at h
  show Vis (relabel scope X.env) x
  unfold Vis
  rw[qc]
  rcases h with (h | h) | h
  ·rw[h]; exact .inl rfl
  ·rw[h]; exact .inr (.inl rfl)
  ·rw[h]
   simp only[Option.map_some]
   split
   ·exact .inr (.inl rfl)
   ·exact .inr (.inr rfl)
 loc x h:=by
  show (relabel scope X.env).names.lookup x=_
  rw[qc,h]; rfl
 cel x h:=by
  refine⟨?_,decide_eq_true h⟩
  show (relabel scope X.env).names.lookup x=_
  rw[qc,h]; rfl
 fre x h:=by
  show (relabel scope X.env).names.lookup x=_∨(relabel scope X.env).names.lookup x=_
  rw[qc,h]
  simp only[Option.map_some]
  split
  ·exact .inl rfl
  ·exact .inr rfl
 glo x h:=by
  unfold vW at h
  simp only[decide_eq_true_eq] at h
  show (relabel scope X.env).names.lookup x=_
  rw[qc,h]; rfl
theorem XW.comp (T:XW X XP cf W k){N':List Str}{scope:Scope}{σ:St}{cl:List (Str×Addr)}{C:Addr}{s2:Shared}{H2:Hp}{fp:List Addr}(c:Cat X σ C s2 H2 fp):XW (X.comp N' scope cl C s2 H2 fp) (XPc XP σ) cf W k:=⟨T.bi,T.gi,T.gs,T.fn,T.rm,T.hk,T.calm,T.ex,T.mr,T.gd,fun c f h=>⟨(T.fk c f h).cl,(T.fk c f h).no⟩,T.mc,T.ml,zaP T.px T.sk c,T.sk⟩
theorem YJ {scope:Scope}{N':List Str}{k:Nat}{ix:List Nat}(S:XSc X sc N) (h:CSc sc N scope N' k ix):CSc X.env.scope X.N scope N' k ix :=
 ⟨h.kind,h.cel,h.loc,fun y hy e=>by
  rcases h.fre y hy e with z | z
  ·exact .inl (S.cel _ z).1
  ·exact S.fre _ z,h.len,h.nd,fun j i e=>by
  rw[S.hN]; exact h.cap j i e⟩
theorem Room.at1 (T:XW X XP cf W k):Room 1 X.A:=T.rm.mono T.hk
theorem Room.atk (T:XW X XP cf W k):Room k X.A:=T.rm
theorem vI {es:List Expr}{env:Env}:(assignEach es env).length=es.length:=by
 induction es with
 | nil=>rfl
 | cons e es ih=>cases e <;> simp[assignEach,ih]
theorem ZR {e:Expr}{es:List Expr}{env:Env}(h:zl e=true):assignEach (e::es) env=(false,assign e env)::assignEach es env:=by
 cases e <;> first | rfl | (simp[zl] at h)
mutual
theorem Zz {kp:Nat->Prop}{lo:Nat}(S:XSc X sc N) (hN:N.Nodup) (hn:mp.Nodup) (hc:X.calm=true) (hk:∀ i,lo<=i->¬ kp i):∀ (t:IT) (e:Expr),Jx sc N mp lo t e=true->SG X mp kp e t
  | .nm s i,e,h=>by
   cases e with
   | Name x p=>
    simp only[Jx,Bool.and_eq_true,Bool.or_eq_true,decide_eq_true_eq] at h
    obtain⟨⟨⟨h1,h2⟩,h3⟩,h4⟩:=h
    refine za5 (by rw[S.hN]; exact hN) hn (by rw[S.hN]; exact h1) h2 (hk i h3) ?_ ?_
    · rcases h4 with h4 | h4
      · exact .inl (S.loc x h4)
      · exact .inr (S.cel x h4).1
    · rcases h4 with h4 | h4
      · exact .inr (S.loc x h4)
      · exact .inl (S.cel x h4).2
   | _=>simp[Jx] at h
  | .tp ts,e,h=>by
   cases e with
   | Tuple es n p=>
    simp only[Jx] at h
    obtain⟨h1,h2,h3⟩:=vg S hN hn hc hk ts es h
    exact zdm hc h1 (by rw[vI]; exact h2) h3
   | _=>simp[Jx] at h
theorem vg {kp:Nat->Prop}{lo:Nat}(S:XSc X sc N) (hN:N.Nodup) (hn:mp.Nodup) (hc:X.calm=true) (hk:∀ i,lo<=i->¬ kp i):∀ (ts:ITs) (es:List Expr),JW sc N mp lo ts es=true->SGs X mp kp es ts/\ts.len=es.length/\(assignEach es X.env).findIdx? (·.1)=none
  | .nil,[],h=>⟨za6,rfl,rfl⟩
  | .cons t ts,e::es,h=>by
    simp only[JW,Bool.and_eq_true] at h
    obtain⟨⟨h1,h2⟩,h3⟩:=h
    have ih1:=Zz S hN hn hc hk t e h2
    obtain⟨i1,i2,i3⟩:=vg S hN hn hc hk ts es h3
    refine⟨Kh ih1 i1 (by rw[ZR h1]; rfl),by rw[ITs.len,i2]; rfl,?_⟩
    rw[ZR h1,List.findIdx?_cons]
    simp[i3]
  | .nil,_::_,h=>by simp[JW] at h
  | .cons ..,[],h=>by simp[JW] at h
end
noncomputable def Yv (X:Cx) (XP:XPT) (mp:List Nat) (e:Expr) (f:EM (List PyData)):Prop:=∀ elt gens scope pos,e=.ListComp elt gens scope pos->∃ tg iter ifs N' k ix,gens= [⟨tg,iter,ifs,0⟩]/\CSc X.env.scope X.N scope N' k ix/\(∀ x,foldedSetIterable iter X.env x=pure x) /\
 SNt XP mp (wj k ix (wpI X tg iter) (gU X N' scope tg) (fU X N' scope ifs) (eU X N' scope elt)) f
theorem wV {X:Cx}{XP:XPT}{mp:List Nat}{e:Expr}{f:EM (List PyData)}(h:∀ elt gens scope pos,e≠ .ListComp elt gens scope pos):Yv X XP mp e f:=fun a b c d q=>absurd q (h a b c d)
theorem yY {e:Expr}{env:Env}(h:ZL e=true) (whole:Sem Value):isTrue e env whole=(do let v<-whole; standAt e.pos; holding [v] (truthy v)):=by
 cases e <;> first | rfl | (simp[ZL] at h; done) | skip
 rename_i op x p
 cases op <;> first | rfl | (simp[ZL] at h)
theorem ql {X:Cx}{XP:XPT}{mp:List Nat}{e:Expr}{fa:EM FV}(h:SE X XP mp e fa) (hp:ZL e=true):SE X XP mp e fa/\ST X XP mp e (fTru fa):=⟨h,Kp h (yY hp)⟩
theorem vk {X:Cx}{XP:XPT}{mp:List Nat}{op:BoolOp}{vs:List Expr}{p:Pos}{t:EM Bool}(h:ST X XP mp (.BoolOp op vs p) t):SW X XP mp (.BoolOp op vs p) t:=fun M0 F Γ ν σ H Q rs hs hp whole pins s I=>h M0 F Γ ν σ H Q rs hs hp pins s I
theorem wF:bootBuiltins "sorted" =some (.builtin "sorted"):=by decide +kernel
theorem Wp:bootBuiltins "range" =some (.type "range"):=by decide +kernel
theorem yt:bootBuiltins "len" =some (.builtin "len"):=by decide +kernel
theorem JR:bootBuiltins "min" =some (.builtin "min"):=by decide +kernel
theorem yu:bootBuiltins "max" =some (.builtin "max"):=by decide +kernel
theorem yv:bootBuiltins "str" =some (.type "str"):=by decide +kernel
theorem yr:bootBuiltins "isinstance" =some (.builtin "isinstance"):=by decide +kernel
noncomputable abbrev QE (cf:CF) (W:Wd) (a:IE):Prop:=∀ (X:Cx) (XP:XPT) (k:Nat) (sc:Scope) (N:List Str) (mp:List Nat) (m:Nat),XSc X sc N->XW X XP cf W k->∀ (e:Expr),a.chk W sc N mp m e=true->SE X XP mp e (a.ev cf).1/\ST X XP mp e (a.ev cf).2
noncomputable abbrev QL (cf:CF) (W:Wd) (a:IL):Prop:=∀ (X:Cx) (XP:XPT) (k:Nat) (sc:Scope) (N:List Str) (mp:List Nat) (m:Nat),XSc X sc N->XW X XP cf W k->∀ (e:List Expr),a.chk W sc N mp m e=true->SL X XP mp e (a.ev cf)
noncomputable abbrev QA (cf:CF) (W:Wd) (a:IA):Prop:=∀ (X:Cx) (XP:XPT) (k:Nat) (sc:Scope) (N:List Str) (mp:List Nat) (m:Nat),XSc X sc N->XW X XP cf W k->∀ (e:List Expr),a.chk W sc N mp m e=true->SA X XP mp e (a.ev cf)
noncomputable abbrev QN (cf:CF) (W:Wd) (a:IN):Prop:=∀ (X:Cx) (XP:XPT) (k:Nat) (sc:Scope) (N:List Str) (mp:List Nat) (m:Nat),XSc X sc N->XW X XP cf W k->∀ (e:Expr),a.chk W sc N mp m e=true->SN X XP mp e (a.ev cf)/\(a.plain=true->Yv X XP mp e (a.ev cf))
noncomputable abbrev QP (cf:CF) (W:Wd) (a:IP):Prop:=∀ (X:Cx) (XP:XPT) (k:Nat) (sc:Scope) (N:List Str) (mp:List Nat) (m:Nat),XSc X sc N->XW X XP cf W k->∀ (e:Option Expr),a.chk W sc N mp m e=true->SOp X XP mp e (a.ev cf)
noncomputable abbrev QI (cf:CF) (W:Wd) (a:II):Prop:=∀ (X:Cx) (XP:XPT) (k:Nat) (sc:Scope) (N:List Str) (mp:List Nat) (m:Nat),XSc X sc N->XW X XP cf W k->∀ (tg e:Expr),a.chk W sc N mp m e tg=true->SI X XP mp tg e (a.ev cf)
noncomputable abbrev QC (cf:CF) (W:Wd) (a:IC):Prop:=∀ (X:Cx) (XP:XPT) (k:Nat) (sc:Scope) (N:List Str) (mp:List Nat) (m:Nat),XSc X sc N->XW X XP cf W k->∀ (e:List Expr),a.chk W sc N mp m e=true->SF X XP mp e (a.ev cf)
noncomputable abbrev QO (cf:CF) (W:Wd) (a:IO):Prop:=∀ (X:Cx) (XP:XPT) (k:Nat) (sc:Scope) (N:List Str) (mp:List Nat) (m:Nat),XSc X sc N->XW X XP cf W k->∀ (e:Expr),a.chk W sc N mp m e=true->SO X XP mp e (a.ev cf)
noncomputable abbrev QJ (cf:CF) (W:Wd) (a:IJ):Prop:=∀ (X:Cx) (XP:XPT) (k:Nat) (sc:Scope) (N:List Str) (mp:List Nat) (m:Nat),XSc X sc N->XW X XP cf W k->∀ (e:List Expr),a.chk W sc N mp m e=true->SJ X XP mp e (a.ev cf)
noncomputable def KZ (X:Cx) (XP:XPT) (mp:List Nat) (e:Expr) (f:EM (List (Str×PyData))):Prop:=∀ kx vx gens scope pos,e=.DictComp kx vx gens scope pos->∃ tg iter ifs N' k ix,gens= [⟨tg,iter,ifs,0⟩]/\CSc X.env.scope X.N scope N' k ix/\(∀ x,foldedSetIterable iter X.env x=pure x) /\
 SDt XP mp (ZN k ix (wpI X tg iter) (gU X N' scope tg) (fU X N' scope ifs) (eD X N' scope kx vx)) f
noncomputable abbrev QM (cf:CF) (W:Wd) (a:IM):Prop:=∀ (X:Cx) (XP:XPT) (k:Nat) (sc:Scope) (N:List Str) (mp:List Nat) (m:Nat),XSc X sc N->XW X XP cf W k->∀ (e:Expr),a.chk W sc N mp m e=true->SD X XP mp e (a.ev cf)/\(a.plain=true->KZ X XP mp e (a.ev cf))
noncomputable abbrev QG (cf:CF) (W:Wd) (a:IG):Prop:=∀ (X:Cx) (XP:XPT) (k:Nat) (sc:Scope) (N:List Str) (mp:List Nat) (m:Nat),XSc X sc N->XW X XP cf W k->∀ (tg e:Expr),a.chk W sc N mp m e tg=true->SIw X XP mp tg e (a.ev cf)/\∀ b,a=.std b->SI X XP mp tg e (b.ev cf)
theorem Qw {cf:CF}{W:Wd}(s i:Nat):QE cf W (.var s i):=by
 intro X XP k sc N mp m S T e g0
 obtain⟨⟨x,p⟩,eu,h⟩:=zh g0
 clear g0
 cases zG eu
 have n:=wb S h
 exact ql (zdj n.hN n.hv n.hm n.hd n.hcd) rfl
theorem Ql {cf:CF}{W:Wd}(s i:Nat):QE cf W (.frz s i):=by
 intro X XP k sc N mp m S T e g0
 obtain⟨⟨x,p⟩,eu,h⟩:=zh g0
 clear g0
 cases zG eu
 have n:=wb S h
 exact ql (zde n.hN n.hv n.hm n.hd n.hcd) rfl
theorem j5 {cf:CF}{W:Wd}(i:Int):QE cf W (.cint i):=by
 intro X XP k sc N mp m S T e g0
 obtain⟨⟨c,j,p⟩,eu,h⟩:=zh g0
 clear g0
 cases ZQ eu
 obtain⟨z,ez,h⟩:=zh h
 cases YF ez
 cases of_decide_eq_true h
 exact ql zdf rfl
theorem jj {cf:CF}{W:Wd}(i:Bool):QE cf W (.cbool i):=by
 intro X XP k sc N mp m S T e g0
 obtain⟨⟨c,j,p⟩,eu,h⟩:=zh g0
 clear g0
 cases ZQ eu
 obtain⟨z,ez,h⟩:=zh h
 cases yw ez
 cases of_decide_eq_true h
 exact ql zaX rfl
theorem jl {cf:CF}{W:Wd}  :QE cf W (.cnone):=by
 intro X XP k sc N mp m S T e g0
 obtain⟨⟨c,j,p⟩,eu,h⟩:=zh g0
 clear g0
 cases ZQ eu
 cases yx h
 exact ql za2 rfl
theorem j6 {cf:CF}{W:Wd}(x:Str) (i:Int):QE cf W (.gint x i):=by
 intro X XP k sc N mp m S T e g0
 obtain⟨⟨y,p⟩,eu,h⟩:=zh g0
 clear g0
 cases zG eu
 simp only[Bool.and_eq_true,decide_eq_true_eq] at h
 obtain⟨⟨⟨h1,h2⟩,h3⟩,h4⟩:=h
 subst h1
 exact ql (zaY (S.glo x h2) (T.gi x i h3) (vj h4)) rfl
theorem Qv {cf:CF}{W:Wd}(a:IL) (ih_a:QL cf W a):QE cf W (.tup a):=by
 intro X XP k sc N mp m S T e g0
 obtain⟨⟨es,j,p⟩,eu,h⟩:=zh g0
 clear g0
 cases Yk eu
 exact ql (zdi (ih_a _ _ _ _ _ _ _ S T es h)) rfl
theorem Qt {cf:CF}{W:Wd}(n:IN) (ih_n:QN cf W n):QE cf W (.new n):=by
 intro X XP k sc N mp m S T e h
 replace h:=Bool.and_eq_true_iff.mp h
 try simp only[Bool.and_eq_true] at h
 exact ql (SN.se (ih_n _ _ _ _ _ _ _ S T e h.2).1) h.1
theorem Qj {cf:CF}{W:Wd}(op:Operator) (a b:IE) (ih_a:QE cf W a) (ih_b:QE cf W b):QE cf W (.bin op a b):=by
 intro X XP k sc N mp m S T e g0
 obtain⟨⟨x,op',y,p⟩,eu,h⟩:=zh g0
 clear g0
 cases ZP eu
 simp only[Bool.and_eq_true,decide_eq_true_eq] at h
 obtain⟨⟨h1,h2⟩,h3⟩:=h
 subst h1
 exact ql (zdc (zb6 op) (ih_a _ _ _ _ _ _ _ S T x h2).1 (ih_b _ _ _ _ _ _ _ S T y h3).1) rfl
theorem Qk {cf:CF}{W:Wd}(op:CmpOp) (a b:IE) (ih_a:QE cf W a) (ih_b:QE cf W b):QE cf W (.cmp op a b):=by
 intro X XP k sc N mp m S T e g0
 obtain⟨⟨x,ops,ys,p⟩,eu,g1⟩:=zh g0
 clear g0
 cases wu eu
 obtain⟨op',eo,h⟩:=zh g1
 clear g1
 cases z9 eo
 obtain⟨y,ey,h⟩:=zh h
 cases z9 ey
 simp only[Bool.and_eq_true,decide_eq_true_eq] at h
 obtain⟨⟨⟨h1,h2⟩,h3⟩,h4⟩:=h
 subst h1
 have ha:=(ih_a _ XP _ _ _ _ _ S T x h3).1
 have hb:=(ih_b _ XP _ _ _ _ _ S T y h4).1
 exact⟨zdd (ZC (Room.at1 T) op) ha hb (Jb op h2),zdz (ZC (Room.at1 T) op) ha hb (Jb op h2)⟩
theorem jk {cf:CF}{W:Wd}(op1 op2:CmpOp) (a b c:IE) (ih_a:QE cf W a) (ih_b:QE cf W b) (ih_c:QE cf W c):QE cf W (.chain op1 op2 a b c):=by
 intro X XP k sc N mp m S T e g0
 obtain⟨⟨x,ops,ys,p⟩,eu,g1⟩:=zh g0
 clear g0
 cases wu eu
 obtain⟨⟨o1,o2⟩,eo,h⟩:=zh g1
 clear g1
 cases Js eo
 obtain⟨⟨y,z⟩,ey,h⟩:=zh h
 cases Js ey
 simp only[Bool.and_eq_true,decide_eq_true_eq] at h
 obtain⟨⟨⟨⟨⟨h1,h2⟩,h3⟩,h4⟩,h5⟩,h6⟩:=h
 subst h1 h2
 have ha:=(ih_a _ XP _ _ _ _ _ S T x h4).1
 have hb:=(ih_b _ XP _ _ _ _ _ S T y h5).1
 have hc:=(ih_c _ XP _ _ _ _ _ S T z h6).1
 exact⟨Ka (ZC (Room.at1 T) op1) (ZC (Room.at1 T) op2) ha hb hc (J8 op1 op2 h3),Ko (ZC (Room.at1 T) op1) (ZC (Room.at1 T) op2) ha hb hc (J8 op1 op2 h3)⟩
theorem Qu {cf:CF}{W:Wd}(a:IE) (ih_a:QE cf W a):QE cf W (.not a):=by
 intro X XP k sc N mp m S T e g0
 obtain⟨⟨op,x,p⟩,eu,h⟩:=zh g0
 clear g0
 cases vA eu
 simp only[Bool.and_eq_true,decide_eq_true_eq] at h
 cases h.1
 have hh:=ih_a _ XP _ _ _ _ _ S T x h.2
 exact⟨zdh hh.1,zdA hh.2⟩
theorem Qs {cf:CF}{W:Wd}(a:IE) (ih_a:QE cf W a):QE cf W (.neg a):=by
 intro X XP k sc N mp m S T e g0
 obtain⟨⟨op,x,p⟩,eu,h⟩:=zh g0
 clear g0
 cases vA eu
 simp only[Bool.and_eq_true,decide_eq_true_eq] at h
 cases h.1
 exact ql (zdg (ih_a _ _ _ _ _ _ _ S T x h.2).1) rfl
theorem Qh {cf:CF}{W:Wd}(a b:IE) (ih_a:QE cf W a) (ih_b:QE cf W b):QE cf W (.and a b):=by
 intro X XP k sc N mp m S T e g0
 obtain⟨⟨x,z⟩,eu,h⟩:=zh g0
 clear g0
 rw[Bool.and_eq_true] at h
 have ha:=ih_a _ XP _ _ _ _ _ S T x h.1
 have hb:=ih_b _ XP _ _ _ _ _ S T z h.2
 rcases wm eu with ⟨p,rfl⟩ | ⟨y,w,r,p,rfl,rfl⟩
 ·exact⟨k8 ha.1 (Kb hb.1),(Ks ha.2 (zbk hb.2)).st⟩
 ·exact⟨k8 ha.1 hb.1,(Ks ha.2 (vk hb.2)).st⟩
theorem Ws {cf:CF}{W:Wd}(a b:IE) (ih_a:QE cf W a) (ih_b:QE cf W b):QE cf W (.or a b):=by
 intro X XP k sc N mp m S T e g0
 obtain⟨⟨x,z⟩,eu,h⟩:=zh g0
 clear g0
 rw[Bool.and_eq_true] at h
 have ha:=ih_a _ XP _ _ _ _ _ S T x h.1
 have hb:=ih_b _ XP _ _ _ _ _ S T z h.2
 rcases wm eu with ⟨p,rfl⟩ | ⟨y,w,r,p,rfl,rfl⟩
 ·exact⟨zbR ha.1 (Kb hb.1),(zbU ha.2 (zbl hb.2)).st⟩
 ·exact⟨zbR ha.1 hb.1,(zbU ha.2 (vk hb.2)).st⟩
theorem Qo {cf:CF}{W:Wd}(c a b:IE) (ih_c:QE cf W c) (ih_a:QE cf W a) (ih_b:QE cf W b):QE cf W (.ite c a b):=by
 intro X XP k sc N mp m S T e g0
 obtain⟨⟨z,x,y,p⟩,eu,h⟩:=zh g0
 clear g0
 cases Yh eu
 simp only[Bool.and_eq_true] at h
 obtain⟨⟨h1,h2⟩,h3⟩:=h
 exact⟨zeB (ih_c _ _ _ _ _ _ _ S T z h1).2 (ih_a _ _ _ _ _ _ _ S T x h2).1 (ih_b _ _ _ _ _ _ _ S T y h3).1,fun M0 F Γ ν σ H Q rs hs hp=>hp.elim⟩
theorem Wr {cf:CF}{W:Wd}(a b:IE) (ih_a:QE cf W a) (ih_b:QE cf W b):QE cf W (.ix a b):=by
 intro X XP k sc N mp m S T e g0
 obtain⟨⟨x,y,p⟩,eu,h⟩:=zh g0
 clear g0
 cases wv eu
 simp only[Bool.and_eq_true] at h
 obtain⟨⟨h1,h2⟩,h3⟩:=h
 exact ql (zeC (ih_a _ _ _ _ _ _ _ S T x h2).1 (ih_b _ _ _ _ _ _ _ S T y h3).1 (v8 h1)) rfl
theorem Qp {cf:CF}{W:Wd}(a:IE) (ih_a:QE cf W a):QE cf W (.len a):=by
 intro X XP k sc N mp m S T e h
 conv at h=>lhs; whnf
 split at h
 ·rename_i f p x q eu
  cases zU eu
  simp only[Bool.and_eq_true] at h
  obtain⟨⟨h1,h2⟩,h3⟩:=h
  exact ql (k9 zcl (zZ S T h1 yt (by decide) (by decide)) (ih_a _ _ _ _ _ _ _ S T x h3).1 (zn h2)) rfl
 ·cases h
theorem Qm {cf:CF}{W:Wd}(a:IE) (ih_a:QE cf W a):QE cf W (.int a):=by
 intro X XP k sc N mp m S T e h
 conv at h=>lhs; whnf
 split at h
 ·rename_i f p x q eu
  cases zU eu
  simp only[Bool.and_eq_true] at h
  obtain⟨⟨h1,h2⟩,h3⟩:=h
  exact ql (zeD zck (zZ S T h1 JQ (by decide) (by decide)) (ih_a _ _ _ _ _ _ _ S T x h3).1 (zn h2)) rfl
 ·cases h
theorem Qg {cf:CF}{W:Wd}(a:IE) (ih_a:QE cf W a):QE cf W (.all a):=by
 intro X XP k sc N mp m S T e h
 conv at h=>lhs; whnf
 split at h
 ·rename_i f p x q eu
  cases zU eu
  simp only[Bool.and_eq_true] at h
  obtain⟨⟨h1,h2⟩,h3⟩:=h
  exact ql (k9 (zci T.calm) (zZ S T h1 yp (by decide) (by decide)) (ih_a _ _ _ _ _ _ _ S T x h3).1 (zn h2)) rfl
 ·cases h
theorem Qi {cf:CF}{W:Wd}(a:IE) (ih_a:QE cf W a):QE cf W (.any a):=by
 intro X XP k sc N mp m S T e h
 conv at h=>lhs; whnf
 split at h
 ·rename_i f p x q eu
  cases zU eu
  simp only[Bool.and_eq_true] at h
  obtain⟨⟨h1,h2⟩,h3⟩:=h
  exact ql (k9 (zcj T.calm) (zZ S T h1 yq (by decide) (by decide)) (ih_a _ _ _ _ _ _ _ S T x h3).1 (zn h2)) rfl
 ·cases h
theorem jm {cf:CF}{W:Wd}(a:IE) (ih_a:QE cf W a):QE cf W (.tuple a):=by
 intro X XP k sc N mp m S T e h
 conv at h=>lhs; whnf
 split at h
 ·rename_i f p x q eu
  cases zU eu
  simp only[Bool.and_eq_true] at h
  obtain⟨⟨h1,h2⟩,h3⟩:=h
  exact ql (Kc (zZ S T h1 ZS (by decide) (by decide)) (ih_a _ _ _ _ _ _ _ S T x h3).1 (zn h2)) rfl
 ·cases h
theorem Qn {cf:CF}{W:Wd}(TT:String) (a:IE) (ih_a:QE cf W a):QE cf W (.isi TT a):=by
 intro X XP k sc N mp m S T e h
 conv at h=>lhs; whnf
 split at h
 ·rename_i f p x y q eu
  cases We eu
  simp only[Bool.and_eq_true,Bool.or_eq_true,beq_iff_eq] at h
  obtain⟨⟨⟨⟨h1,h2⟩,h3⟩,h4⟩,h5⟩:=h
  obtain⟨⟨y,p2⟩,ey,h4⟩:=zh h4
  cases zG ey
  have B:=zZ S T h1 yr (by decide) (by decide)
  have ha:=(ih_a _ XP _ _ _ _ _ S T x h5).1
  rcases h3 with (((rfl | rfl) | rfl) | rfl) | rfl
  ·exact ql (Jl B (zZ S T h4 JQ (by decide) (by decide)) ha (zn h2)) rfl
  ·exact ql (Jl B (zZ S T h4 vK (by decide) (by decide)) ha (zn h2)) rfl
  ·exact ql (Jl B (zZ S T h4 jK (by decide) (by decide)) ha (zn h2)) rfl
  ·exact ql (Jl B (zZ S T h4 ZS (by decide) (by decide)) ha (zn h2)) rfl
  ·exact ql (Jl B (zZ S T h4 yv (by decide) (by decide)) ha (zn h2)) rfl
 ·cases h
theorem Qr {cf:CF}{W:Wd}(a b:IE) (ih_a:QE cf W a) (ih_b:QE cf W b):QE cf W (.min a b):=by
 intro X XP k sc N mp m S T e h
 conv at h=>lhs; whnf
 split at h
 ·rename_i f p x y q eu
  cases We eu
  simp only[Bool.and_eq_true] at h
  obtain⟨⟨⟨⟨h1,h2⟩,h3⟩,h4⟩,h5⟩:=h
  exact ql (za0 T.calm (zZ S T h1 JR (by decide) (by decide)) (ih_a _ _ _ _ _ _ _ S T x h4).1 (ih_b _ _ _ _ _ _ _ S T y h5).1 (zn h2) (zn h3)) rfl
 ·cases h
theorem Qq {cf:CF}{W:Wd}(a b:IE) (ih_a:QE cf W a) (ih_b:QE cf W b):QE cf W (.max a b):=by
 intro X XP k sc N mp m S T e h
 conv at h=>lhs; whnf
 split at h
 ·rename_i f p x y q eu
  cases We eu
  simp only[Bool.and_eq_true] at h
  obtain⟨⟨⟨⟨h1,h2⟩,h3⟩,h4⟩,h5⟩:=h
  exact ql (zaZ T.calm (zZ S T h1 yu (by decide) (by decide)) (ih_a _ _ _ _ _ _ _ S T x h4).1 (ih_b _ _ _ _ _ _ _ S T y h5).1 (zn h2) (zn h3)) rfl
 ·cases h
theorem j4 {cf:CF}{W:Wd}(o:IO) (ih_o:QO cf W o):QE cf W (.call o):=by
 intro X XP k sc N mp m S T e h
 replace h:=Bool.and_eq_true_iff.mp h
 try simp only[Bool.and_eq_true] at h
 exact ql (ih_o _ _ _ _ _ _ _ S T e h.2).se h.1
theorem QQ {cf:CF}{W:Wd}(a:IL) (ih_a:QL cf W a):QN cf W (.lst a):=by
 intro X XP k sc N mp m S T e g0
 obtain⟨⟨es,p⟩,eu,h⟩:=zh g0
 clear g0
 cases Yj eu
 exact⟨zdr (ih_a _ _ _ _ _ _ _ S T es h),fun _=>wV (fun _ _ _ _ q=>nomatch q)⟩
theorem QK {cf:CF}{W:Wd}(a b:IE) (ih_a:QE cf W a) (ih_b:QE cf W b):QN cf W (.cat a b):=by
 intro X XP k sc N mp m S T e g0
 obtain⟨⟨x,op,y,p⟩,eu,h⟩:=zh g0
 clear g0
 cases ZP eu
 simp only[Bool.and_eq_true,decide_eq_true_eq] at h
 obtain⟨⟨h0,h1⟩,h2⟩:=h
 cases h0
 exact⟨zdq (ih_a _ _ _ _ _ _ _ S T x h1).1 (ih_b _ _ _ _ _ _ _ S T y h2).1,fun _=>wV (fun _ _ _ _ q=>nomatch q)⟩
theorem Ze {cf:CF}{W:Wd}(a:IE) (ih_a:QE cf W a):QN cf W (.list a):=by
 intro X XP k sc N mp m S T e h
 conv at h=>lhs; whnf
 split at h
 ·rename_i f p x q eu
  cases zU eu
  simp only[Bool.and_eq_true] at h
  obtain⟨⟨h1,h2⟩,h3⟩:=h
  exact⟨zbd (zZ S T h1 jK (by decide) (by decide)) (ih_a _ _ _ _ _ _ _ S T x h3).1 (zn h2),fun _=>wV (fun _ _ _ _ q=>nomatch q)⟩
 ·cases h
theorem j7 {cf:CF}{W:Wd}(a:IE) (ih_a:QE cf W a):QE cf W (.minL a):=by
 intro X XP k sc N mp m S T e h
 conv at h=>lhs; whnf
 split at h
 ·rename_i f p x q eu
  cases zU eu
  simp only[Bool.and_eq_true] at h
  obtain⟨⟨h1,h2⟩,h3⟩:=h
  exact ql (za1 T.calm (zZ S T h1 JR (by decide) (by decide)) (ih_a _ _ _ _ _ _ _ S T x h3).1 (zn h2)) rfl
 ·cases h
theorem Zf {cf:CF}{W:Wd}(a b:IE) (ih_a:QE cf W a) (ih_b:QE cf W b):QN cf W (.sdif a b):=by
 intro X XP k sc N mp m S T e h
 conv at h=>lhs; whnf
 split at h
 ·rename_i f g h2 x y rest eu
  obtain⟨p1,p2,p3,q1,q2,q3,pb⟩:=rest
  cases Vp eu
  simp only[Bool.and_eq_true] at h
  obtain⟨⟨⟨⟨⟨⟨h1,h2'⟩,h3⟩,h4⟩,h5⟩,h6⟩,h7⟩:=h
  have nm:∀ {z t:Str},biB W sc z t=true->z=t:=fun {z t} hz=>by
   unfold biB at hz
   simp only[Bool.and_eq_true,decide_eq_true_eq] at hz
   exact hz.1.1
  have B1:=zZ S T h1 wF (by decide) (by decide)
  have B2:=zZ S T h2' L2.boot_setW (by decide) (by decide)
  have e1:=nm h1
  have e2:=nm h2'
  have e3:=nm h3
  subst e1 e2 e3
  exact⟨zbe T.calm B1.gl B1.mg B2.gl B2.mg (ih_a _ _ _ _ _ _ _ S T x h6).1 (ih_b _ _ _ _ _ _ _ S T y h7).1 (zn h4) (zn h5),fun _=>wV (fun _ _ _ _ q=>nomatch q)⟩
 ·cases h
theorem Zd {cf:CF}{W:Wd}(n kk:Nat) (ix:List Nat) (N':List Str) (t:IT) (src:II) (c:IC) (el:IE) (ih_src:QI cf W src) (ih_c:QC cf W c) (ih_el:QE cf W el):QN cf W (.comp n kk ix N' t src c el):=by
 intro X XP k sc N mp m S T e h
 conv at h=>lhs; whnf
 split at h
 ·rename_i elt tg iter ifs scope p eu
  cases KC eu
  simp only[Bool.and_eq_true,decide_eq_true_eq] at h
  obtain⟨⟨⟨⟨⟨⟨⟨⟨h1,h3⟩,h4⟩,h5⟩,h6⟩,h7⟩,h8⟩,h9⟩,h10⟩:=h
  subst h1
  have C0:CSc sc N scope N' kk ix:=CSc.of h3
  have C1:=YJ S C0
  have hm:∀ j i:Nat,ix[j]?=some i->∃ m,mp[i]?=some m/\m<n:=fun j i e=>by
   have:=List.all_eq_true.mp h5 i (List.mem_of_getElem? e)
   split at this
   ·rename_i q eq; exact⟨q,eq,by simpa using this⟩
   ·cases this
  have hi:=ih_src _ XP _ _ _ _ _ S T tg iter h7
  have hg:∀ σ cl C s2 H2 fp,Cat X σ C s2 H2 fp->SG (X.comp N' scope cl C s2 H2 fp) (mpC mp n kk ix) (·<n) tg t:=fun σ cl C s2 H2 fp cat=>Zz (XSc.comp C0 cl C s2 H2 fp) C0.nd h4 T.calm (fun i h=>by omega) t tg h8
  have hc:∀ σ cl C s2 H2 fp,Cat X σ C s2 H2 fp->SF (X.comp N' scope cl C s2 H2 fp) (XPc XP σ) (mpC mp n kk ix) ifs (c.ev cf):=fun σ cl C s2 H2 fp cat=>ih_c _ _ _ _ _ _ _ (XSc.comp C0 cl C s2 H2 fp) (T.comp cat) ifs h9
  have he:∀ σ cl C s2 H2 fp,Cat X σ C s2 H2 fp->SE (X.comp N' scope cl C s2 H2 fp) (XPc XP σ) (mpC mp n kk ix) elt (el.ev cf).1:=fun σ cl C s2 H2 fp cat=>(ih_el _ _ _ _ _ _ _ (XSc.comp C0 cl C s2 H2 fp) (T.comp cat) elt h10).1
  refine⟨zbc T.calm C1 hm hi hg hc he (qM h6),fun _ a b c' d q=>?_⟩
  cases q
  exact⟨tg,iter,ifs,N',kk,ix,rfl,C1,qM h6,vc C1 hm hi hg hc he⟩
 ·cases h
theorem Za {cf:CF}{W:Wd}(a:IE) (ih_a:QE cf W a):QI cf W (.list a):=by
 intro X XP k sc N mp m S T tg e h
 exact za8 (ih_a _ _ _ _ _ _ _ S T e h).1
theorem Qy {cf:CF}{W:Wd}(a:IE) (ih_a:QE cf W a):QI cf W (.tup a):=by
 intro X XP k sc N mp m S T tg e h
 exact zdn (ih_a _ _ _ _ _ _ _ S T e h).1
theorem jn {cf:CF}{W:Wd}(a:IE) (ih_a:QE cf W a):QI cf W (.range a):=by
 intro X XP k sc N mp m S T tg e h
 conv at h=>lhs; whnf
 split at h
 ·rename_i f p x q eu
  cases zU eu
  simp only[Bool.and_eq_true] at h
  obtain⟨⟨h1,h2⟩,h3⟩:=h
  have ef:f= "range" :=by
   unfold biB at h1
   simp only[Bool.and_eq_true,decide_eq_true_eq] at h1
   exact h1.1.1
  exact Ki (zZ S T h1 Wp (by decide) (by decide)) ef (ih_a _ _ _ _ _ _ _ S T x h3).1 (zn h2)
 ·cases h
theorem j9 {cf:CF}{W:Wd}(a:IE) (ih_a:QE cf W a):QI cf W (.enum a):=by
 intro X XP k sc N mp m S T tg e h
 conv at h=>lhs; whnf
 split at h
 ·rename_i f p x q eu
  cases zU eu
  simp only[Bool.and_eq_true] at h
  obtain⟨⟨⟨h0,h1⟩,h2⟩,h3⟩:=h
  have ef:f= "enumerate" :=by
   unfold biB at h1
   simp only[Bool.and_eq_true,decide_eq_true_eq] at h1
   exact h1.1.1
  cases tg with
  | Tuple es x1 pt=>exact za7 (zZ S T h1 L2.boot_enumW (by decide) (by decide)) ef (ih_a _ _ _ _ _ _ _ S T x h3).1 (zn h2)
  | _=>simp[Y3] at h0
 ·cases h
theorem QR {cf:CF}{W:Wd}(a:IE) (ih_a:QE cf W a):QO cf W (.dat a):=by
 intro X XP k sc N mp m S T e h
 exact (ih_a _ _ _ _ _ _ _ S T e h).1.so
theorem QT {cf:CF}{W:Wd}(n:IN) (ih_n:QN cf W n):QO cf W (.own n):=by
 intro X XP k sc N mp m S T e h
 exact (ih_n _ _ _ _ _ _ _ S T e h).1.so
theorem Zg {cf:CF}{W:Wd}(g:Str) (n:Nat) (a:IA) (ih_a:QA cf W a):QO cf W (.call g n a):=by
 intro X XP k sc N mp m S T e h
 conv at h=>lhs; whnf
 split at h
 ·rename_i f p xs q eu
  cases Wf eu
  simp only[Bool.and_eq_true,decide_eq_true_eq] at h
  obtain⟨⟨⟨⟨⟨h1,h2⟩,h3⟩,h4⟩,h5⟩,h6⟩:=h
  subst h1
  obtain⟨kn,hrun⟩:=T.fn _ _ h3
  cases xs with
  | nil=>
   cases a with
   | nil=>exact Kk T.px kn (Room.atk T) (S.glo _ h2) hrun (vj h4)
   | cons _ _=>cases h6
   | io _ _ _=>cases h6
   | tmp _=>cases h6
  | cons x xs=>
   rw[List.all_cons,Bool.and_eq_true] at h5
   exact zbf T.px kn (Room.atk T) (S.glo _ h2) hrun (ih_a _ _ _ _ _ _ _ S T (x::xs) h6) (vj h4) (zn h5.1) (Qb (Kq h5.2))
 ·cases h
theorem Zh {cf:CF}{W:Wd}(s i:Nat):QO cf W (.move s i):=by
 intro X XP k sc N mp m S T e g0
 obtain⟨⟨x,p⟩,eu,h⟩:=zh g0
 clear g0
 cases zG eu
 have n:=wb S h
 exact zbg n.hN n.hv n.hm n.hd n.hcd
theorem QD {cf:CF}{W:Wd}:QL cf W .nil:=by
 intro X XP k sc N mp m S T es h
 cases es with
 | nil=>exact zdp
 | cons _ _=>cases h
theorem Zb {cf:CF}{W:Wd}(e:IE) (a:IL) (ih_e:QE cf W e) (ih_a:QL cf W a):QL cf W (.cons e a):=by
 intro X XP k sc N mp m S T es h
 cases es with
 | nil=>cases h
 | cons x xs=>
  replace h:=Bool.and_eq_true_iff.mp h
  try simp only[Bool.and_eq_true] at h
  obtain⟨⟨h1,h2⟩,h3⟩:=h
  exact zba (ih_e _ _ _ _ _ _ _ S T x h2).1 (ih_a _ _ _ _ _ _ _ S T xs h3) (zn h1)
theorem Qc {cf:CF}{W:Wd}:QA cf W .nil:=by
 intro X XP k sc N mp m S T es h
 cases es with
 | nil=>exact zc6
 | cons _ _=>cases h
theorem j1 {cf:CF}{W:Wd}(e:IE) (a:IA) (ih_e:QE cf W e) (ih_a:QA cf W a):QA cf W (.cons e a):=by
 intro X XP k sc N mp m S T es h
 cases es with
 | nil=>cases h
 | cons x xs=>
  replace h:=Bool.and_eq_true_iff.mp h
  try simp only[Bool.and_eq_true] at h
  obtain⟨⟨h1,h2⟩,h3⟩:=h
  exact zaU (ih_e _ _ _ _ _ _ _ S T x h2).1 (ih_a _ _ _ _ _ _ _ S T xs h3) (zn h1)
theorem Wq {cf:CF}{W:Wd}(s i:Nat) (a:IA) (ih_a:QA cf W a):QA cf W (.io s i a):=by
 intro X XP k sc N mp m S T es h
 cases es with
 | nil=>cases h
 | cons e xs=>
  replace h:=Bool.and_eq_true_iff.mp h
  try simp only[Bool.and_eq_true] at h
  obtain⟨⟨x,p⟩,eu,h1⟩:=zh h.1
  cases zG eu
  have n:=wb S h1
  exact zeA n.hN n.hv n.hm n.hd n.hcd (ih_a _ _ _ _ _ _ _ S T xs h.2) rfl
theorem Qd {cf:CF}{W:Wd}(n:IN) (ih_n:QN cf W n):QA cf W (.tmp n):=by
 intro X XP k sc N mp m S T es h
 match es,h with
 | [],h=>nomatch h
 | [x],h=>
  replace h:=Bool.and_eq_true_iff.mp h
  try simp only[Bool.and_eq_true] at h
  exact zc7 (ih_n _ _ _ _ _ _ _ S T x h.2).1 (zn h.1)
 | _::_::_,h=>nomatch h
theorem QU {cf:CF}{W:Wd}:QP cf W .non:=by
 intro X XP k sc N mp m S T e h
 cases e with
 | none=>exact zbh
 | some _=>cases h
theorem QV {cf:CF}{W:Wd}(a:IE) (ih_a:QE cf W a):QP cf W (.one a):=by
 intro X XP k sc N mp m S T e h
 cases e with
 | none=>cases h
 | some x=>exact zbi (ih_a _ _ _ _ _ _ _ S T x h).1
theorem Qf {cf:CF}{W:Wd}:QC cf W .yes:=by
 intro X XP k sc N mp m S T es h
 cases es with
 | nil=>exact zdk
 | cons _ _=>cases h
theorem Qe {cf:CF}{W:Wd}(a:IE) (ih_a:QE cf W a):QC cf W (.one a):=by
 intro X XP k sc N mp m S T es h
 match es,h with
 | [],h=>nomatch h
 | [x],h=>exact zdl (ih_a _ _ _ _ _ _ _ S T x h).2
 | _::_::_,h=>nomatch h
theorem Qz {cf:CF}{W:Wd}:QJ cf W .nil:=by
 intro X XP k sc N mp m S T e h
 cases e with
 | nil=>exact zdo
 | cons _ _=>exact Bool.noConfusion (show false=true from h)
theorem zeJ {X:Cx}{XP:XPT}{mp:List Nat}{e:Expr}:ST X XP mp e fNo:=fun M0 F Γ ν σ H Q rs hs hp=>hp.elim
theorem j8 {cf:CF}{W:Wd}(n:IM) (ih_n:QM cf W n):QE cf W (.newD n):=by
 intro X XP k sc N mp m S T e h
 exact⟨(ih_n _ _ _ _ _ _ _ S T e h).1.se,zeJ⟩
theorem QF {cf:CF}{W:Wd}:QM cf W .nil:=by
 intro X XP k sc N mp m S T e g0
 obtain⟨⟨ks,vs,p⟩,eu,h⟩:=zh g0
 clear g0
 cases vz eu
 simp only[Bool.and_eq_true,List.isEmpty_iff] at h
 obtain⟨rfl,rfl⟩:=h
 exact⟨zda,fun _ _ _ _ _ _ q=>nomatch q⟩
theorem QH {cf:CF}{W:Wd}(a b:IE) (ih_a:QE cf W a) (ih_b:QE cf W b):QM cf W (.one a b):=by
 intro X XP k sc N mp m S T e g0
 obtain⟨⟨ks,vs,p⟩,eu,g1⟩:=zh g0
 clear g0
 cases vz eu
 obtain⟨kx,ek,g2⟩:=zh g1
 clear g1
 cases z9 ek
 obtain⟨x,ex,g3⟩:=zh g2
 clear g2
 cases ex
 obtain⟨y,ey,h⟩:=zh g3
 clear g3
 cases z9 ey
 rw[Bool.and_eq_true] at h
 exact⟨zdb (ih_a _ XP _ _ _ _ _ S T x h.1).1 (ih_b _ XP _ _ _ _ _ S T y h.2).1,fun _ _ _ _ _ _ q=>nomatch q⟩
theorem Zc {cf:CF}{W:Wd}(n kk:Nat) (ix:List Nat) (N':List Str) (t:IT) (src:IG) (c:IC) (ek ev:IE) (ih_src:QG cf W src) (ih_c:QC cf W c) (ih_ek:QE cf W ek) (ih_ev:QE cf W ev):QM cf W (.comp n kk ix N' t src c ek ev):=by
 intro X XP k sc N mp m S T e h
 conv at h=>lhs; whnf
 split at h
 ·rename_i kx vx tg iter ifs scope p eu
  cases KA eu
  simp only[Bool.and_eq_true,decide_eq_true_eq] at h
  obtain⟨⟨⟨⟨⟨⟨⟨⟨⟨h1,h3⟩,h4⟩,h5⟩,h6⟩,h7⟩,h8⟩,h9⟩,h10⟩,h11⟩:=h
  subst h1
  have C0:CSc sc N scope N' kk ix:=CSc.of h3
  have C1:=YJ S C0
  have hm:∀ j i:Nat,ix[j]?=some i->∃ m,mp[i]?=some m/\m<n:=fun j i e=>by
   have:=List.all_eq_true.mp h5 i (List.mem_of_getElem? e)
   split at this
   ·rename_i q eq; exact⟨q,eq,by simpa using this⟩
   ·cases this
  have hi:=ih_src _ XP _ _ _ _ _ S T tg iter h7
  have hg:∀ σ cl C s2 H2 fp,Cat X σ C s2 H2 fp->SG (X.comp N' scope cl C s2 H2 fp) (mpC mp n kk ix) (·<n) tg t:=fun σ cl C s2 H2 fp cat=>Zz (XSc.comp C0 cl C s2 H2 fp) C0.nd h4 T.calm (fun i h=>by omega) t tg h8
  have hc:∀ σ cl C s2 H2 fp,Cat X σ C s2 H2 fp->SF (X.comp N' scope cl C s2 H2 fp) (XPc XP σ) (mpC mp n kk ix) ifs (c.ev cf):=fun σ cl C s2 H2 fp cat=>ih_c _ _ _ _ _ _ _ (XSc.comp C0 cl C s2 H2 fp) (T.comp cat) ifs h9
  have hk:∀ σ cl C s2 H2 fp,Cat X σ C s2 H2 fp->SE (X.comp N' scope cl C s2 H2 fp) (XPc XP σ) (mpC mp n kk ix) kx (ek.ev cf).1:=fun σ cl C s2 H2 fp cat=>(ih_ek _ _ _ _ _ _ _ (XSc.comp C0 cl C s2 H2 fp) (T.comp cat) kx h10).1
  have hv:∀ σ cl C s2 H2 fp,Cat X σ C s2 H2 fp->SE (X.comp N' scope cl C s2 H2 fp) (XPc XP σ) (mpC mp n kk ix) vx (ev.ev cf).1:=fun σ cl C s2 H2 fp cat=>(ih_ev _ _ _ _ _ _ _ (XSc.comp C0 cl C s2 H2 fp) (T.comp cat) vx h11).1
  refine⟨zaW T.calm C1 hm hi.1 hg hc hk hv (qM h6),fun hp a b c' d e' q=>?_⟩
  cases q
  cases src with
  | std b=>exact⟨tg,iter,ifs,N',kk,ix,rfl,C1,qM h6,k6 C1 hm (hi.2 b rfl) hg hc hk hv⟩
 ·cases h
theorem Qx {cf:CF}{W:Wd}(b:II) (ih_b:QI cf W b):QG cf W (.std b):=by
 intro X XP k sc N mp m S T tg e h
 have h':=ih_b _ XP _ _ _ _ _ S T tg e h
 exact⟨za9 h',fun b' q=>by cases q; exact h'⟩
theorem Zi {cf:CF}{W:Wd}(n:IM) (ih_n:QM cf W n):QO cf W (.ownD n):=by
 intro X XP k sc N mp m S T e h
 exact (ih_n _ _ _ _ _ _ _ S T e h).1.so
theorem vb (cf:CF) (W:Wd) (a:IE):QE cf W a:=IE.rec (motive_1:=QE cf W) (motive_2:=QL cf W) (motive_3:=QA cf W) (motive_4:=QN cf W) (motive_5:=QP cf W) (motive_6:=QI cf W) (motive_7:=QC cf W) (motive_8:=QO cf W) (motive_9:=QJ cf W) (motive_10:=QM cf W) (motive_11:=QG cf W) Qw Ql j5 jj jl j6 Qv Qt Qj Qk jk Qu Qs Qh Ws Qo Wr Qp Qm Qg Qi jm Qn Qr Qq j4 j7 j8 QD Zb Qc j1 Wq Qd QQ QK Ze Zd Zf QU QV Za Qy jn j9 Qf Qe QR QT Zg Zh Zi Qz QF QH Zc Qx a
theorem zeH (cf:CF) (W:Wd) (a:IN):QN cf W a:=IN.rec (motive_1:=QE cf W) (motive_2:=QL cf W) (motive_3:=QA cf W) (motive_4:=QN cf W) (motive_5:=QP cf W) (motive_6:=QI cf W) (motive_7:=QC cf W) (motive_8:=QO cf W) (motive_9:=QJ cf W) (motive_10:=QM cf W) (motive_11:=QG cf W) Qw Ql j5 jj jl j6 Qv Qt Qj Qk jk Qu Qs Qh Ws Qo Wr Qp Qm Qg Qi jm Qn Qr Qq j4 j7 j8 QD Zb Qc j1 Wq Qd QQ QK Ze Zd Zf QU QV Za Qy jn j9 Qf Qe QR QT Zg Zh Zi Qz QF QH Zc Qx a
theorem zeF (cf:CF) (W:Wd) (a:II):QI cf W a:=II.rec (motive_1:=QE cf W) (motive_2:=QL cf W) (motive_3:=QA cf W) (motive_4:=QN cf W) (motive_5:=QP cf W) (motive_6:=QI cf W) (motive_7:=QC cf W) (motive_8:=QO cf W) (motive_9:=QJ cf W) (motive_10:=QM cf W) (motive_11:=QG cf W) Qw Ql j5 jj jl j6 Qv Qt Qj Qk jk Qu Qs Qh Ws Qo Wr Qp Qm Qg Qi jm Qn Qr Qq j4 j7 j8 QD Zb Qc j1 Wq Qd QQ QK Ze Zd Zf QU QV Za Qy jn j9 Qf Qe QR QT Zg Zh Zi Qz QF QH Zc Qx a
theorem zbT (cf:CF) (W:Wd) (a:IO):QO cf W a:=IO.rec (motive_1:=QE cf W) (motive_2:=QL cf W) (motive_3:=QA cf W) (motive_4:=QN cf W) (motive_5:=QP cf W) (motive_6:=QI cf W) (motive_7:=QC cf W) (motive_8:=QO cf W) (motive_9:=QJ cf W) (motive_10:=QM cf W) (motive_11:=QG cf W) Qw Ql j5 jj jl j6 Qv Qt Qj Qk jk Qu Qs Qh Ws Qo Wr Qp Qm Qg Qi jm Qn Qr Qq j4 j7 j8 QD Zb Qc j1 Wq Qd QQ QK Ze Zd Zf QU QV Za Qy jn j9 Qf Qe QR QT Zg Zh Zi Qz QF QH Zc Qx a
theorem zeG (cf:CF) (W:Wd) (a:IM):QM cf W a:=IM.rec (motive_1:=QE cf W) (motive_2:=QL cf W) (motive_3:=QA cf W) (motive_4:=QN cf W) (motive_5:=QP cf W) (motive_6:=QI cf W) (motive_7:=QC cf W) (motive_8:=QO cf W) (motive_9:=QJ cf W) (motive_10:=QM cf W) (motive_11:=QG cf W) Qw Ql j5 jj jl j6 Qv Qt Qj Qk jk Qu Qs Qh Ws Qo Wr Qp Qm Qg Qi jm Qn Qr Qq j4 j7 j8 QD Zb Qc j1 Wq Qd QQ QK Ze Zd Zf QU QV Za Qy jn j9 Qf Qe QR QT Zg Zh Zi Qz QF QH Zc Qx a
end
end L3
set_option maxHeartbeats 4000000
namespace L3
open PySem PySem.Spec PyProof.Rows L2
mutual
/-- what may stand in a try -/
inductive IQ where
 | asg (s i:Nat) (o:IO)
 | expr (e:IE)
 | ite (c:IE) (a b:IQs)
inductive IQs where
 | nil
 | cons (q:IQ) (b:IQs)
end
mutual
inductive IS where
 | pass
 | bad
 | asg (s i:Nat) (o:IO)
 | asgT (t:IT) (e:IE)
 | ite (c:IE) (a b:IB)
 | loop (t:IT) (src:II) (b:IB)
 | ret (o:IO)
 | app (s i:Nat) (e:IE)
 | set (s i:Nat) (ie ve:IE)
inductive IB where
 | nil
 | cons (s:IS) (b:IB)
end
mutual
noncomputable def IQ.ex (cf:CF) (io:List Nat):IQ->SM
 | .asg _ i o=>sAsg io i (o.ev cf)
 | .expr e=>sExpr (e.ev cf).1
 | .ite c a b=>sIf (c.ev cf).2 (a.ex cf io) (b.ex cf io)
noncomputable def IQs.ex (cf:CF) (io:List Nat):IQs->SM
 | .nil=>sNext
 | .cons s .nil=>s.ex cf io
 | .cons s b=>sSeq (s.ex cf io) (b.ex cf io)
end
mutual
noncomputable def IS.ex (cf:CF) (io:List Nat):IS->SM
 | .pass=>sNext
 | .bad=>zez
 | .asg _ i o=>sAsg io i (o.ev cf)
 | .asgT t e=>sAsgT t (e.ev cf).1
 | .ite c a b=>sIf (c.ev cf).2 (a.ex cf io) (b.ex cf io)
 | .loop t src b=>sFor t (src.ev cf) (b.ex cf io)
 | .ret o=>sRet (o.ev cf)
 | .app _ i e=>sApp i (e.ev cf).1
 | .set _ i ie ve=>sSet i (ie.ev cf).1 (ve.ev cf).1
noncomputable def IB.ex (cf:CF) (io:List Nat):IB->SM
 | .nil=>sNext
 | .cons s .nil=>s.ex cf io
 | .cons s b=>sSeq (s.ex cf io) (b.ex cf io)
end
noncomputable def Z4:IO->Option IN
 | .own n=>some n
 | .dat (.new n)=>some n
 | _=>none
noncomputable def jY:IO->Option IM
 | .ownD n=>some n
 | .dat (.newD n)=>some n
 | _=>none
noncomputable def YB (o:IO):Expr->Bool
 | .ListComp .. =>okO (Z4 o) IN.plain
 | .SetComp .. =>false
 | .DictComp .. =>okO (jY o) IM.plain
 | _=>true
noncomputable def Vr:Stmt->Option Pos
 | .Pass p=>some p
 | _=>none
noncomputable def Jt:Stmt->Option (Expr×Pos)
 | .Expr x p=>some (x,p)
 | _=>none
noncomputable def zbw:Stmt->Option (Expr×List Stmt×List Stmt×Pos)
 | .If x xs ys p=>some (x,xs,ys,p)
 | _=>none
noncomputable def KI:Stmt->Option (Expr×Expr×List Stmt×List Stmt×Pos)
 | .For tg it b e p=>some (tg,it,b,e,p)
 | _=>none
noncomputable def KK:Stmt->Option (Option Expr×Pos)
 | .Return x p=>some (x,p)
 | _=>none
noncomputable def yg:Stmt->Option (List Expr×Expr×Pos)
 | .Assign ts e p=>some (ts,e,p)
 | _=>none
theorem Vs {e:Stmt}{p:Pos}(h:Vr e=some p):e=.Pass p:=by
 unfold Vr at h
 split at h
 ·cases h; rfl
 ·cases h
theorem Vq {e:Stmt}{x:Expr}{p:Pos}(h:Jt e=some (x,p)):e=.Expr x p:=by
 unfold Jt at h
 split at h
 ·cases h; rfl
 ·cases h
theorem KJ {e:Stmt}{x:Expr}{xs ys:List Stmt}{p:Pos}(h:zbw e=some (x,xs,ys,p)):e=.If x xs ys p:=by
 unfold zbw at h
 split at h
 ·cases h; rfl
 ·cases h
theorem Yn {e:Stmt}{x y:Expr}{xs ys:List Stmt}{p:Pos}(h:KI e=some (x,y,xs,ys,p)):e=.For x y xs ys p:=by
 unfold KI at h
 split at h
 ·cases h; rfl
 ·cases h
theorem Yo {e:Stmt}{x:Option Expr}{p:Pos}(h:KK e=some (x,p)):e=.Return x p:=by
 unfold KK at h
 split at h
 ·cases h; rfl
 ·cases h
theorem Ym {e:Stmt}{ts:List Expr}{x:Expr}{p:Pos}(h:yg e=some (ts,x,p)):e=.Assign ts x p:=by
 unfold yg at h
 split at h
 ·cases h; rfl
 ·cases h
noncomputable def Ky (s:Stmt):Option (Str×Pos×Str×Pos×List Expr×Pos×Pos):=(Jt s).bind fun (e,q2)=>(zbs e).map fun (x,p,f,p2,xs,q)=>(x,p,f,p2,xs,q,q2)
theorem Ye {st:Stmt}{x f:Str}{p p2 q q2:Pos}{xs:List Expr}(h:Ky st=some (x,p,f,p2,xs,q,q2)):st=.Expr (.Call (.Attribute (.Name x p) f p2) xs [] q) q2:=by
 unfold Ky at h
 cases e1:Jt st with
 | none=>rw[e1] at h; cases h
 | some z=>
  obtain⟨e,q3⟩:=z
  cases e2:zbs e with
  | none=>simp[e1,e2] at h
  | some z=>
   obtain⟨a1,a2,a3,a4,a5,a6⟩:=z
   simp[e1,e2] at h
   obtain⟨rfl,rfl,rfl,rfl,rfl,rfl,rfl⟩:=h
   rw[Vq e1,KE e2]
noncomputable def vw (s:Stmt):Option (Expr×Expr×Pos):=(yg s).bind fun (ts,e,q)=>(Zs ts).map fun t=>(t,e,q)
theorem ZO {st:Stmt}{t e:Expr}{q:Pos}(h:vw st=some (t,e,q)):st=.Assign [t] e q:=by
 unfold vw at h
 cases e1:yg st with
 | none=>rw[e1] at h; cases h
 | some z=>
  obtain⟨ts,e',q'⟩:=z
  cases e2:Zs ts with
  | none=>simp[e1,e2] at h
  | some t'=>
   simp[e1,e2] at h
   obtain⟨rfl,rfl,rfl⟩:=h
   rw[Ym e1,z9 e2]
noncomputable def wW:Expr->Bool
 | .ListComp .. =>false
 | .SetComp .. =>false
 | .DictComp .. =>false
 | _=>true
noncomputable def zK:Expr->Bool
 | .Tuple .. =>false
 | .ListComp .. =>false
 | .SetComp .. =>false
 | .DictComp .. =>false
 | _=>true
noncomputable def K9 (W:Wd) (sc:Scope) (N:List Str) (mp:List Nat) (m:Nat) (s i:Nat) (o:IO) (st:Stmt):Bool:=okO (vw st) fun z=>okO (qd z.1) fun x=>decide (N[s]?=some x.1)&&decide (mp[s]?=some i)&&(decide (sc.names.lookup x.1=some .local)||decide (sc.names.lookup x.1=some .cell))&&YB o z.2.1&&o.chk W sc N mp m z.2.1
mutual
noncomputable def IQ.chk (W:Wd) (sc:Scope) (N:List Str) (mp:List Nat) (m:Nat):IQ->Stmt->Bool
 | .asg s i o,st=>K9 W sc N mp m s i o st
 | .expr e,st=>okO (Jt st) fun z=>zK z.1&&e.chk W sc N mp m z.1
 | .ite c a b,st=>okO (zbw st) fun z=>c.chk W sc N mp m z.1&&a.chk W sc N mp m z.2.1&&b.chk W sc N mp m z.2.2.1
noncomputable def IQs.chk (W:Wd) (sc:Scope) (N:List Str) (mp:List Nat) (m:Nat):IQs->List Stmt->Bool
 | .nil,[]=>true
 | .cons s b,x::xs=>s.chk W sc N mp m x&&b.chk W sc N mp m xs
 | _,_=>false
end
mutual
noncomputable def IS.chk (W:Wd) (sc:Scope) (N:List Str) (mp:List Nat) (m np:Nat):IS->Stmt->Bool
 | .pass,st=>okO (Vr st) fun _=>true
 | .bad,_=>true
 | .asg s i o,st=>K9 W sc N mp m s i o st
 | .asgT t e,st=>okO (vw st) fun z=>Y3 z.1&&zK z.2.1&&Jx sc N mp np t z.1&&e.chk W sc N mp m z.2.1
 | .ite c a b,st=>okO (zbw st) fun z=>c.chk W sc N mp m z.1&&a.chk W sc N mp m np z.2.1&&b.chk W sc N mp m np z.2.2.1
 | .loop t src b,st=>okO (KI st) fun z=>z.2.2.2.1.isEmpty&&qJ z.2.1&&Jx sc N mp np t z.1&&src.chk W sc N mp m z.2.1 z.1&&b.chk W sc N mp m np z.2.2.1
 | .ret o,st=>okO (KK st) fun z=>okO z.1 fun x=>o.chk W sc N mp m x
 | .app s i e,st=>okO (Ky st) fun (x,_,f,p2,xs,q,_)=>okO (Zs xs) fun a=>nmB sc N mp s i x&&decide (f= "append")&&zl a&&(p2.endLine==q.line)&&e.chk W sc N mp m a
 | .set s i ie ve,st=>okO (vw st) fun z=>okO (yf z.1) fun y=>okO (qd y.1) fun x=>nmB sc N mp s i x.1&&qP y.2.1&&wW z.2.1&&ie.chk W sc N mp m y.2.1&&ve.chk W sc N mp m z.2.1
noncomputable def IB.chk (W:Wd) (sc:Scope) (N:List Str) (mp:List Nat) (m np:Nat):IB->List Stmt->Bool
 | .nil,[]=>true
 | .cons s b,x::xs=>s.chk W sc N mp m np x&&b.chk W sc N mp m np xs
 | _,_=>false
end
theorem Vh {e:Expr}{t:Option Expr}{l:Nat}{env:Env}(h:zK e=true):swapsWith e t l env=pure false:=by
 cases e <;> first | rfl | (simp[zK] at h)
theorem Jq {t e:Expr}{l:Nat}{env:Env}(h:zK e=true):swapsWithSole [t] e l env=pure false:=Vh (t:=some t) h
theorem Z1 {t e:Expr}{env:Env}(h:zK e=true):swappedStores [t] e env=pure none:=by
 have hm:(match (generalizing:=false) [t],e with
  | [.Tuple ts _ _],.Tuple vs _ _=>some (ts,vs)
  | [.List ts _],.Tuple vs _ _=>some (ts,vs)
  | _,_=>none)=(none:Option (List Expr×List Expr)):=by
  split
  ·simp[zK] at h
  ·simp[zK] at h
  ·rfl
 unfold swappedStores
 split
 ·rename_i q
  exact absurd (q.symm.trans hm) (fun z=>nomatch z)
 ·rfl
theorem wg {x y e:Expr}{p:Pos}{l:Nat}{env:Env}(h:wW e=true):swapsWithSole [.Subscript x y p] e l env=pure false:=by
 show swapsWith e (some (.Subscript x y p)) l env=pure false
 cases e <;> first | rfl | (simp[wW] at h)
theorem Jp {x y e:Expr}{p:Pos}{env:Env}:swappedStores [.Subscript x y p] e env=pure none:=by
 cases e <;> rfl
theorem Yb {o:IO}{e:Expr}{x:Str}{p:Pos}{l:Nat}{env:Env}(h:YB o e=true) (hn:∀ a b c d,e≠ .ListComp a b c d) (hn2:∀ a b c d q,e≠ .DictComp a b c d q):swapsWith e (some (.Name x p)) l env=pure false:=by
 cases e with
 | ListComp a b c d=>exact absurd rfl (hn a b c d)
 | SetComp=>simp[YB] at h
 | DictComp a b c d q=>exact absurd rfl (hn2 a b c d q)
 | _=>rfl
theorem Vg {elt:Expr}{gens:List Comprehension}{scope:Scope}{q:Pos}{x:Str}{p:Pos}{l:Nat}{env:Env}:∃ b:Bool,swapsWith (.ListComp elt gens scope q) (some (.Name x p)) l env=pure b:=⟨_,rfl⟩
theorem vm {ek ev:Expr}{gens:List Comprehension}{scope:Scope}{q:Pos}{x:Str}{p:Pos}{l:Nat}{env:Env}:∃ b:Bool,swapsWith (.DictComp ek ev gens scope q) (some (.Name x p)) l env=pure b:=⟨_,rfl⟩
theorem vJ {o b:Expr}{p:Pos}{env:Env}(h:qP b=true) (v:Value):assign (.Subscript o b p) env v=(do
  let ov<-holding [v] (eval o env)
  let iv<-holding [v,ov] (eval b env)
  standAt p
  holding [v,ov,iv] (setItem ov iv v)
  release [v,ov,iv] []):=by
 cases b <;> first | rfl | (simp[qP] at h)
variable [Cs]
structure XB (X:Cx) (XP:XPT) (mp io:List Nat) (np:Nat):Prop where
 po:PassesOwn (model X.prog X.w) X.A X.env X.xe
 nd:X.N.Nodup
 mn:mp.Nodup
 io:∀ i∈io,i<np
 rz:RzOk X XP
 sk:X.stack=X.env::X.outer
 fr:X.env.frame=some X.env.locals
noncomputable abbrev QS (cf:CF) (W:Wd) (a:IS):Prop:=∀ (X:Cx) (XP:XPT) (k:Nat) (sc:Scope) (N:List Str) (mp:List Nat) (m np:Nat) (io:List Nat),XSc X sc N->XW X XP cf W k->XB X XP mp io np->∀ (e:Stmt),a.chk W sc N mp m np e=true->SS X XP mp io e (a.ex cf io)
noncomputable abbrev QB (cf:CF) (W:Wd) (a:IB):Prop:=∀ (X:Cx) (XP:XPT) (k:Nat) (sc:Scope) (N:List Str) (mp:List Nat) (m np:Nat) (io:List Nat),XSc X sc N->XW X XP cf W k->XB X XP mp io np->∀ (e:List Stmt),a.chk W sc N mp m np e=true->SB X XP mp io e (a.ex cf io)
section
variable {cf:CF} {W:Wd}
theorem zaf:QS cf W .pass:=by
 intro X XP k sc N mp m np io S T B e g0
 obtain⟨p,eu,_⟩:=zh g0
 clear g0
 cases Vs eu
 exact zbj
theorem zcc:QS cf W .bad:=fun X XP k sc N mp m np io S T B e h=>zdv
theorem Wn {o:IO}{n:IN}(h:Z4 o=some n):o=.own n∨o=.dat (.new n):=by
 unfold Z4 at h
 split at h <;> first | (cases h; exact .inl rfl) | (cases h; exact .inr rfl) | cases h
theorem wC {o:IO}{n:IM}(h:jY o=some n):o=.ownD n∨o=.dat (.newD n):=by
 unfold jY at h
 split at h <;> first | (cases h; exact .inl rfl) | (cases h; exact .inr rfl) | cases h
theorem zb3 {X:Cx}{XP:XPT}{k:Nat}{sc:Scope}{N:List Str}{mp io:List Nat}{m:Nat}(s i:Nat) (o:IO) (S:XSc X sc N) (T:XW X XP cf W k) (nd:X.N.Nodup) (mn:mp.Nodup) (st:Stmt) (g0:K9 W sc N mp m s i o st=true):SS X XP mp io st (sAsg io i (o.ev cf)):=by
 unfold K9 at g0
 obtain⟨⟨tx,e,q⟩,eu,g1⟩:=zh g0
 clear g0
 cases ZO eu
 obtain⟨⟨x,p⟩,ex,h⟩:=zh g1
 clear g1
 cases zG ex
 simp only[Bool.and_eq_true,Bool.or_eq_true,decide_eq_true_eq] at h
 obtain⟨⟨⟨⟨h1,h2⟩,h3⟩,h4⟩,h5⟩:=h
 have hi:X.N[s]?=some x:=by rw[S.hN]; exact h1
 have hx:Loc X.env.scope x:=by
  rcases h3 with h3 | h3
  ·exact .inl (S.loc x h3)
  ·exact .inr (S.cel x h3).1
 have hf:X.fn x=true∨X.env.scope.names.lookup x=some .local:=by
  rcases h3 with h3 | h3
  ·exact .inr (S.loc x h3)
  ·exact .inl (S.cel x h3).2
 have plain:swapsWith e (some (.Name x p)) q.line X.env=pure false->SS X XP mp io (.Assign [.Name x p] e q) (sAsg io i (o.ev cf)):=fun hsw=>
  zdu nd hi hx hf mn h2 (zbT cf W o _ XP _ _ _ _ _ S T e h5) hsw
 by_cases hl:∃ a b c d,e=.ListComp a b c d
 ·obtain⟨elt,gens,scope,pc,rfl⟩:=hl
  obtain⟨bb,hb⟩:=Vg (elt:=elt) (gens:=gens) (scope:=scope) (q:=pc) (x:=x) (p:=p) (l:=q.line) (env:=X.env)
  cases bb with
  | false=>exact plain hb
  | true=>
   obtain⟨n,en,hp⟩:=zh (show okO (Z4 o) IN.plain=true from h4)
   have go:n.chk W sc N mp m (.ListComp elt gens scope pc)=true->∀ (fo:EM OV),(∀ t,SNt XP mp t (n.ev cf)->SOt XP mp t fo)->SS X XP mp io (.Assign [.Name x p] (.ListComp elt gens scope pc) q) (sAsg io i fo):=fun hn fo hfo=>by
    obtain⟨tg,iter,ifs,N',kk,ix,rfl,C,hfold,hs⟩:=(zeH cf W n _ XP _ _ _ _ _ S T _ hn).2 hp elt gens scope pc rfl
    exact Wa (zaL nd hi hx T.calm C hb hfold hf) mn h2 (List.getElem?_eq_some_iff.mp hi).1 (hfo _ hs)
   rcases Wn en with rfl | rfl
   ·exact go h5 _ fun t ht=>ht.so
   ·exact go (Bool.and_eq_true_iff.mp (show IE.chk W sc N mp m (.new n) _=true from h5)).2 _ fun t ht=>ht.sd
 ·by_cases hl2:∃ a b c d q,e=.DictComp a b c d q
  ·obtain⟨kx,vx,gens,scope,pc,rfl⟩:=hl2
   obtain⟨bb,hb⟩:=vm (ek:=kx) (ev:=vx) (gens:=gens) (scope:=scope) (q:=pc) (x:=x) (p:=p) (l:=q.line) (env:=X.env)
   cases bb with
   | false=>exact plain hb
   | true=>
    obtain⟨n,en,hp⟩:=zh (show okO (jY o) IM.plain=true from h4)
    have go:n.chk W sc N mp m (.DictComp kx vx gens scope pc)=true->∀ (fo:EM OV),(∀ t,SDt XP mp t (n.ev cf)->SOt XP mp t fo)->SS X XP mp io (.Assign [.Name x p] (.DictComp kx vx gens scope pc) q) (sAsg io i fo):=fun hn fo hfo=>by
     obtain⟨tg,iter,ifs,N',kk,ix,rfl,C,hfold,hs⟩:=(zeG cf W n _ XP _ _ _ _ _ S T _ hn).2 hp kx vx gens scope pc rfl
     exact Wa (kS nd hi hx T.calm C hb hfold hf) mn h2 (List.getElem?_eq_some_iff.mp hi).1 (hfo _ hs)
    rcases wC en with rfl | rfl
    ·exact go h5 _ fun t ht=>ht.so
    ·exact go h5 _ fun t ht=>ht.sd
  ·exact plain (Yb h4 (fun a b c d z=>hl ⟨a,b,c,d,z⟩) fun a b c d q z=>hl2 ⟨a,b,c,d,q,z⟩)
theorem zcb (s i:Nat) (o:IO):QS cf W (.asg s i o):=by
 intro X XP k sc N mp m np io S T B st g0
 exact zb3 s i o S T B.nd B.mn st g0
theorem zad (t:IT) (e:IE):QS cf W (.asgT t e):=by
 intro X XP k sc N mp m np io S T B st g0
 obtain⟨⟨tx,x,q⟩,eu,h⟩:=zh g0
 clear g0
 cases ZO eu
 simp only[Bool.and_eq_true] at h
 obtain⟨⟨⟨h0,h1⟩,h2⟩,h3⟩:=h
 cases tx with
 | Tuple ts n p=>
  have hg:=Zz (kp:=(·∈io)) S (by rw[<- S.hN]; exact B.nd) B.mn T.calm (fun i hi hm=>absurd (B.io i hm) (by omega)) t _ h2
  exact Km (vb cf W e _ XP _ _ _ _ _ S T x h3).1 hg (Jq h1) (Z1 h1) (kO zf wX (Jq h1) (Z1 h1))
 | _=>cases h0
theorem zce (c:IE) (a b:IB) (ih_a:QB cf W a) (ih_b:QB cf W b):QS cf W (.ite c a b):=by
 intro X XP k sc N mp m np io S T B e g0
 obtain⟨⟨x,xs,ys,p⟩,eu,h⟩:=zh g0
 clear g0
 cases KJ eu
 simp only[Bool.and_eq_true] at h
 obtain⟨⟨h1,h2⟩,h3⟩:=h
 exact zeI (vb cf W c _ XP _ _ _ _ _ S T x h1).2 (ih_a _ XP _ _ _ _ _ _ _ S T B xs h2) (ih_b _ XP _ _ _ _ _ _ _ S T B ys h3)
theorem zae (t:IT) (src:II) (b:IB) (ih_b:QB cf W b):QS cf W (.loop t src b):=by
 intro X XP k sc N mp m np io S T B e g0
 obtain⟨⟨tg,iter,body,els,p⟩,eu,h⟩:=zh g0
 clear g0
 cases Yn eu
 simp only[Bool.and_eq_true] at h
 obtain⟨⟨⟨⟨h0,h1⟩,h2⟩,h3⟩,h4⟩:=h
 cases els with
 | cons _ _=>cases h0
 | nil=>
  have hg:=Zz (kp:=(·∈io)) S (by rw[<- S.hN]; exact B.nd) B.mn T.calm (fun i hi hm=>absurd (B.io i hm) (by omega)) t _ h2
  exact zdw B.po T.calm (zeF cf W src _ XP _ _ _ _ _ S T tg iter h3) hg (ih_b _ XP _ _ _ _ _ _ _ S T B body h4) (qM h1)
theorem zcf (o:IO):QS cf W (.ret o):=by
 intro X XP k sc N mp m np io S T B e g0
 obtain⟨⟨x,p⟩,eu,g1⟩:=zh g0
 clear g0
 cases Yo eu
 obtain⟨y,ey,h⟩:=zh g1
 clear g1
 cases ey
 exact zdx (zbT cf W o _ XP _ _ _ _ _ S T y h)
theorem zca (s i:Nat) (e:IE):QS cf W (.app s i e):=by
 intro X XP k sc N mp m np io S T B st g0
 obtain⟨⟨x,p,f,p2,xs,q,q2⟩,eu,g1⟩:=zh g0
 clear g0
 cases Ye eu
 obtain⟨a,ea,h⟩:=zh g1
 clear g1
 cases z9 ea
 simp only[Bool.and_eq_true,decide_eq_true_eq] at h
 obtain⟨⟨⟨⟨h1,h2⟩,h3⟩,h4⟩,h5⟩:=h
 subst h2
 exact zdt (wb S h1) (vb cf W e _ XP _ _ _ _ _ S T a h5).1 (zn h3) h4
theorem zcg (s i:Nat) (ie ve:IE):QS cf W (.set s i ie ve):=by
 intro X XP k sc N mp m np io S T B st g0
 obtain⟨⟨tx,a,q⟩,eu,g1⟩:=zh g0
 clear g0
 cases ZO eu
 obtain⟨⟨tn,b,p2⟩,et,g2⟩:=zh g1
 clear g1
 cases wv et
 obtain⟨⟨x,p⟩,ex,h⟩:=zh g2
 clear g2
 cases zG ex
 simp only[Bool.and_eq_true] at h
 obtain⟨⟨⟨⟨h1,h2⟩,h3⟩,h4⟩,h5⟩:=h
 exact zdy (wb S h1) (vb cf W ie _ XP _ _ _ _ _ S T b h4).1 (vb cf W ve _ XP _ _ _ _ _ S T a h5).1 (wg h3) Jp (fun he hg=>kO he hg (wg h3) Jp) (fun ho hi hs=>zcW ho hi hs (vJ h2))
theorem zc9 {X:Cx}{XP:XPT}{mp io:List Nat}{st:Stmt}{f:SM}(h:SS X XP mp io st f):SB X XP mp io [st] f:=fun M0 F Γ ν σ H D rs hs hl hp=>(w5 V2).wp (h M0 F Γ ν σ H D rs hs hl hp)
theorem zb8:QB cf W .nil:=by
 intro X XP k sc N mp m np io S T B e h
 cases e with
 | nil=>exact zc8
 | cons _ _=>exact Bool.noConfusion (show false=true from h)
theorem zac (s:IS) (b:IB) (ih_s:QS cf W s) (ih_b:QB cf W b):QB cf W (.cons s b):=by
 intro X XP k sc N mp m np io S T B e h
 cases e with
 | nil=>exact Bool.noConfusion (show false=true from h)
 | cons x xs=>
  replace h:=Bool.and_eq_true_iff.mp h
  try simp only[Bool.and_eq_true] at h
  have h1:=ih_s _ XP _ _ _ _ _ _ _ S T B x h.1
  have h2:=ih_b _ XP _ _ _ _ _ _ _ S T B xs h.2
  cases b with
  | nil=>
   cases xs with
   | nil=>exact zc9 h1
   | cons _ _=>exact Bool.noConfusion (show false=true from h.2)
  | cons s' b'=>exact zaV h1 h2
theorem zV {kf:List (Str×Str)}{k f:Str}(h:kf.lookup k=some f):(k,f)∈kf:=by
 induction kf with
 | nil=>cases h
 | cons p r ih=>
  obtain⟨a,b⟩:=p
  rw[List.lookup_cons] at h
  cases q:(k==a) with
  | true=>
   rw[q] at h
   cases h
   have:=eq_of_beq q
   subst this
   exact List.mem_cons_self
  | false=>rw[q] at h; exact List.mem_cons_of_mem _ (ih h)
theorem zbS (cf:CF) (W:Wd) (a:IB):QB cf W a :=
 IB.rec (motive_1:=QS cf W) (motive_2:=QB cf W) zaf zcc zcb zad zce zae zcf zca zcg zb8 zac a
end
end L3
set_option maxHeartbeats 4000000
namespace L3
open PySem PySem.Spec PyProof.Rows L2
variable [Cs]
inductive Kd where
 | fn
 | me (c m:Str)
 | ini (c:Str)
 deriving DecidableEq
structure DefI where
 name:Str
 st:Stmt
 ps:List Str
 N:List Str
 mask:List Bool
 io:List Nat
 body:IB
 kd:Kd:=.fn
noncomputable def outs:List Bool->Gv->List (Option OV)
 | [],_=> []
 | _::bs,[]=>none::outs bs []
 | b::bs,x::Γ=>(if b then x else none)::outs bs Γ
theorem Je:∀ (bs:List Bool) (Γ:Gv),(outs bs Γ).length=bs.length
 | [],_=>rfl
 | _::bs,[]=>by rw[outs,List.length_cons,Je,List.length_cons]
 | b::bs,x::Γ=>by rw[outs,List.length_cons,Je,List.length_cons]
theorem Jd:∀ {bs:List Bool}{Γ:Gv}{j:Nat}{o:OV},(outs bs Γ)[j]?=some (some o)->bs[j]?=some true/\Γ[j]?=some (some o)
 | [],_,_,_,h=>by simp[outs] at h
 | b::bs,[],0,_,h=>by simp[outs] at h
 | b::bs,[],j+1,o,h=>by
  have:=Jd (bs:=bs) (Γ:= []) (j:=j) (o:=o) (by simpa [outs] using h)
  simp at this
 | b::bs,x::Γ,0,o,h=>by
  simp only[outs,List.getElem?_cons_zero,Option.some.injEq] at h
  split at h
  ·rename_i hb; subst h; exact⟨by simp[hb],rfl⟩
  ·cases h
 | b::bs,x::Γ,j+1,o,h=>by
  have:=Jd (bs:=bs) (Γ:=Γ) (j:=j) (o:=o) (by simpa [outs] using h)
  simpa using this
noncomputable def fin (mask:List Bool):R (FL×Gv)->RF
 | .ok (.ret o,Γ)=>.ok o (outs mask Γ)
 | .ok (.next,Γ)=>.ok (.d .none) (outs mask Γ)
 | .exc x Γ=>.exc x (outs mask Γ)
 | _=>.bad
noncomputable def DefI.run (d:DefI) (cf:CF) (args:List OV):RF:=if args.length=d.mask.length then fin d.mask (d.body.ex cf d.io (args.map some++List.replicate (d.N.length-d.mask.length) none)) else .bad
theorem DefI.run_lenX {d:DefI}{cf:CF}{args:List OV}(h:d.run cf args≠ .bad):args.length=d.mask.length:=by
 unfold DefI.run at h
 split at h
 ·assumption
 ·exact absurd rfl h
noncomputable def zr (defs:List DefI):Nat->CF
 | 0,_,_=>.bad
 | n+1,x,args=>match defs.find? fun d=>decide (d.name=x) with
  | some d=>d.run (zr defs n) args
  | none=>.bad
section
variable {M0:Addr->Prop} {F:Fp} {Γ:Gv} {ν:Nu} {H:Hp}
theorem RS.outs {o:OV}{v:V}{mask:List Bool}{us:List V}(r:RS M0 F (Γ++ [some o]) (ν++ [some v]) H) (hu:us.length=mask.length) (hν:∀ j:Nat,mask[j]?=some true->ν[j]?=(us[j]?).map some) :
  ∃ F',RS M0 F' (outs mask Γ++ [some o]) (us.map some++ [some v]) H/\Stp F H F' H:=by
 have hνl:ν.length=Γ.length:=by have:=r.len; simpa using this
 have hjl:∀ j:Nat,mask[j]?=some true->j<Γ.length:=fun j hj=>by
  have h1:j<us.length:=by rw[hu]; exact (List.getElem?_eq_some_iff.mp hj).1
  have h2:=hν j hj
  rw[List.getElem?_eq_getElem h1] at h2
  have:=(List.getElem?_eq_some_iff.mp h2).1
  omega
 let n:=mask.length
 let F':Fp:=fun j=>if j<n then (if mask[j]?=some true then F j else []) else if j=n then F Γ.length else []
 have g1:∀ j,j<n->mask[j]?=some true->F' j=F j:=fun j h1 h2=>by show (if j<n then _ else _)=_; rw[if_pos h1,if_pos h2]
 have g2:∀ j,j<n->mask[j]?≠some true->F' j= []:=fun j h1 h2=>by show (if j<n then _ else _)=_; rw[if_pos h1,if_neg h2]
 have g3:F' n=F Γ.length:=by show (if n<n then _ else _)=_; rw[if_neg (Nat.lt_irrefl _),if_pos rfl]
 have g4:∀ j,n<j->F' j= []:=fun j h=>by show (if j<n then _ else _)=_; rw[if_neg (by omega),if_neg (by omega)]
 have cls:∀ j a,a∈F' j->(j<n/\mask[j]?=some true/\a∈F j)∨(j=n/\a∈F Γ.length):=fun j a h=>by
  by_cases h1:j<n
  ·by_cases h2:mask[j]?=some true
   ·rw[g1 j h1 h2] at h; exact .inl ⟨h1,h2,h⟩
   ·rw[g2 j h1 h2] at h; cases h
  ·by_cases h2:j=n
   ·subst h2; rw[g3] at h; exact .inr ⟨rfl,h⟩
   ·rw[g4 j (by omega)] at h; cases h
 have st:Stp F H F' H:=jy fun j a h=>by
  rcases cls j a h with ⟨_,_,h⟩ | ⟨_,h⟩
  ·exact⟨_,h⟩
  ·exact⟨_,h⟩
 have hol:(L3.outs mask Γ).length=n:=Je _ _
 refine⟨F',⟨r.al0,fun j a h=>?_,fun j=>?_,fun j k a h1 h2=>?_,fun j p e=>?_,fun j h=>?_,by simp[hol,hu,n]⟩,st⟩
 ·rcases cls j a h with ⟨_,_,h⟩ | ⟨_,h⟩
  ·exact r.dis0 _ a h
  ·exact r.dis0 _ a h
 ·by_cases h1:j<n
  ·by_cases h2:mask[j]?=some true
   ·rw[g1 j h1 h2]; exact r.nd _
   ·rw[g2 j h1 h2]; exact .nil
  ·by_cases h2:j=n
   ·subst h2; rw[g3]; exact r.nd _
   ·rw[g4 j (by omega)]; exact .nil
 ·rcases cls j a h1 with ⟨l1,m1,z1⟩ | ⟨rfl,z1⟩
  ·rcases cls k a h2 with ⟨l2,m2,z2⟩ | ⟨rfl,z2⟩
   ·exact r.dis _ _ a z1 z2
   ·have:=r.dis _ _ a z1 z2; have:=hjl _ m1; omega
  ·rcases cls k a h2 with ⟨l2,m2,z2⟩ | ⟨rfl,z2⟩
   ·have:=r.dis _ _ a z1 z2; have:=hjl _ m2; omega
   ·rfl
 ·by_cases hj:j<n
  ·rw[List.getElem?_append_left (by omega)] at e
   obtain⟨hm,hg⟩:=Jd e
   have hjj:=hjl j hm
   obtain⟨w,ew,q⟩:=r.at' j p (by rw[List.getElem?_append_left (by omega)]; exact hg)
   rw[List.getElem?_append_left (by omega),hν j hm] at ew
   refine⟨w,?_,?_⟩
   ·rw[List.getElem?_append_left (by simp[hu]; exact hj),List.getElem?_map]; exact ew
   ·rw[g1 j hj hm]; exact q.go (fun _ _ x=>zq st r.al0 x) st.tups fun _ _=>rfl
  ·have hjn:j=n:=by
    have:=(List.getElem?_eq_some_iff.mp e).1
    simp[hol] at this; omega
   subst hjn
   rw[List.getElem?_append_right (by omega),hol] at e
   have:o=p:=by simpa using e
   subst this
   obtain⟨w,ew,q⟩:=r.at' Γ.length o (by rw[List.getElem?_append_right (Nat.le_refl _)]; simp)
   rw[List.getElem?_append_right (by omega),hνl] at ew
   have:v=w:=by simpa using ew
   subst this
   refine⟨v,?_,?_⟩
   ·rw[List.getElem?_append_right (by simp[hu,n]),List.length_map,hu]; simp[n]
   ·rw[g3]; exact q.go (fun _ _ x=>zq st r.al0 x) st.tups fun _ _=>rfl
 ·by_cases hj:j<n
  ·by_cases hm:mask[j]?=some true
   ·rw[g1 j hj hm]
    have hjj:=hjl j hm
    refine r.emp j fun p ep=>?_
    rw[List.getElem?_append_left (by omega)] at ep
    refine h p ?_
    rw[List.getElem?_append_left (by omega)]
    exact outs_put hm ep
   ·exact g2 j hj hm
  ·by_cases hjn:j=n
   ·subst hjn
    exact absurd (by rw[List.getElem?_append_right (by omega),hol]; simp[n]) (h o)
   ·exact g4 j (by omega)
where
 outs_put:∀ {bs:List Bool} {Γ:Gv} {j:Nat} {o:OV},bs[j]?=some true->Γ[j]?=some (some o)->(L3.outs bs Γ)[j]?=some (some o)
  | [],_,_,_,h,_=>by simp at h
  | b::bs,[],_,_,_,h=>by simp at h
  | b::bs,x::Γ,0,o,h,e=>by
   simp at h e
   subst h e
   simp[L3.outs]
  | b::bs,x::Γ,j+1,o,h,e=>by
   have:=outs_put (bs:=bs) (Γ:=Γ) (j:=j) (o:=o) (by simpa using h) (by simpa using e)
   simpa [L3.outs] using this
end
noncomputable def Jj (N ps:List Str) (sc:Scope):Bool:=decide (sc.kind=.function)&& !sc.isCoroutine&& !sc.isGenerator&&decide N.Nodup&&decide (N.take ps.length=ps)&&ps.all (fun x=>decide (sc.names.lookup x=some .local)||decide (sc.names.lookup x=some .cell))&&sc.names.all (fun y=>decide (y.2≠ .free))
theorem Jk {N ps:List Str}{sc:Scope}(h:Jj N ps sc=true):qA N ps sc:=by
 unfold Jj at h
 simp only[Bool.and_eq_true,decide_eq_true_eq,List.all_eq_true,Bool.or_eq_true,Bool.not_eq_true'] at h
 obtain⟨⟨⟨⟨⟨⟨h1,h2⟩,h3⟩,h4⟩,h5⟩,h6⟩,h7⟩:=h
 exact⟨h1,h2,h3,h4,h5,h6,h7⟩
noncomputable def DefI.ok (W:Wd) (d:DefI):Bool:=Jj d.N d.ps (defScope d.st)&&decide (d.ps.length=d.mask.length)&&d.io.all (fun i=>decide (d.mask[i]?=some true))&&(List.range d.mask.length).all (fun j=>decide (d.mask[j]?≠some true)||d.io.contains j)
 && d.body.chk W (defScope d.st) d.N (List.range d.N.length) d.N.length d.mask.length (defBody d.st)
structure WK (P:Program) (w:World) (K:PySem.W.Frag) (mg:Str->Option Value) (base:Heap) (cf:CF) (W:Wd) (k:Nat):Prop where
 bi:∀ x,W.bi.contains x=true->mg x=none
 gi:∀ x i,W.gi.contains (x,i)=true->∃ t,mg x=some (.int i t)
 gs:∀ x i,W.gs.contains (x,i)=true->∃ t,mg x=some (.str i t)
 fn:∀ x n,W.fl.contains (x,n)=true->Kn P w K mg base (CX1 P w) x k (spX mg n (cf x))/\∀ args,cf x args≠ .bad->args.length=n
 ex:∀ x,W.ex.contains x=true->∃ C,mg x=some (.ref C)/\PySem.W.excIn K C bmV "ValueError.__new__" =true
 mr:∀ x C y C2,W.ex.contains x=true->mg x=some (.ref C)->W.ex.contains y=true->mg y=some (.ref C2)->(mroIn K C).contains (.ref C2)=decide (x=y)
 gd:∀ x kf,W.gd.contains (x,kf)=true->GD w K mg x kf
 fk:∀ c f,W.fk.contains (c,f)=true->Cls K (Cs.adr c)/\jF K (Cs.adr c) f
 mc:∀ c q n,W.mc.contains (c,q,n)=true->mg c=some (.ref (Cs.adr c))/\(∃ j,j+1<=k/\KnI P w K mg base (CX1 P w) (Cs.adr c) j (spX mg n (cf q)))/\∀ args,cf q args≠ .bad->args.length=n
 ml:∀ c m q n,W.ml.contains (c,m,q,n)=true->KnM P w K mg base (CX1 P w) (Cs.adr c) m k (spX mg n (cf q))/\∀ args,cf q args≠ .bad->args.length=n
noncomputable def Lk (K:PySem.W.Frag) (mg:Str->Option Value) (f:Addr) (nm:Str):Kd->Prop
 | .fn=>mg nm=some (.ref f)
 | .me c m=>Cls K (Cs.adr c)/\zbZ K (Cs.adr c) m f
 | .ini c=>Mk K (Cs.adr c) f/\mg c=some (.ref (Cs.adr c))
structure Dx (K:PySem.W.Frag) (mg:Str->Option Value) (d:DefI):Prop where
 ex:∃ (x:Str) (f:Addr) (fd:FuncData),Fun K x d.name d.st f fd/\Binds K fd d.ps []/\Lk K mg f d.name d.kd
section
variable {P:Program} {w:World} {K:PySem.W.Frag} {mg:Str->Option Value} {base:Heap} {cf:CF} {W:Wd} {k:Nat}
theorem zdM {N:List Str}{x:Str}{sc:Scope}{f:Addr}{cdv:Value}{A:Around}{outer:List Env}{s:Shared}{H:Hp}{E:XK}:XSc (jM CX0 P w K mg base N x sc f cdv A outer s H E).nox sc N where
 hN:=rfl
 vis x h:=by
  unfold KN at h
  simp only[Bool.or_eq_true,decide_eq_true_eq] at h
  rcases h with (h | h) | h
  ·exact .inl h
  ·exact .inr (.inl h)
  ·exact .inr (.inr h)
 loc x h:=h
 cel x h:=⟨h,rfl⟩
 fre x h:=.inr h
 glo x h:=by
  unfold vW at h
  simp only[decide_eq_true_eq] at h
  exact h
theorem zbz {N:List Str}{x:Str}{sc:Scope}{f:Addr}{cdv:Value}{A:Around}{outer:List Env}{s:Shared}{H:Hp}{E:XK}:XSc (jM (CX1 P w) P w K mg base N x sc f cdv A outer s H E) sc N where
 hN:=rfl
 vis x h:=by
  unfold KN at h
  simp only[Bool.or_eq_true,decide_eq_true_eq] at h
  rcases h with (h | h) | h
  ·exact .inl h
  ·exact .inr (.inl h)
  ·exact .inr (.inr h)
 loc x h:=h
 cel x h:=⟨h,rfl⟩
 fre x h:=.inr h
 glo x h:=by
  unfold vW at h
  simp only[decide_eq_true_eq] at h
  exact h
theorem za3 {n:Nat}{ν:Nu}:Sees (List.range n) ν ν:=fun s i v e1 e2=>by
 have hs:s<n:=by
  have:=(List.getElem?_eq_some_iff.mp e1).1
  simpa using this
 rw[List.getElem?_range hs] at e1
 cases e1
 exact e2
theorem zc3 {N:List Str}{x:Str}{sc:Scope}{f:Addr}{cdv:Value}{A:Around}{outer:List Env}{s:Shared}{H:Hp}{E:XK} :
  PxOk (jM (CX1 P w) P w K mg base N x sc f cdv A outer s H E) (fun x _ _ _ _ H'=>∀ C,mg x.cls=some (.ref C)->E (.ref C) none H'):=fun σ pins H1 e s' x Γ F ν C h1 h2 u=>Wu u rfl rfl rfl (h2 C h1)
theorem VQ {x qual:Str}{st:Stmt}{f:Addr}{fd:FuncData}{N ps:List Str}{sp:Sp}(F:Fun K x qual st f fd) (S:qA N ps (defScope st)) (len:∀ vs H Q E,sp vs H Q E->vs.length=ps.length)
  (hbody:∀ (cdv:Value) (A:Around) (outer:List Env) (s:Shared) (H:Hp) (vs:List V) (Q:VK) (E:XK),Room k (A.deeper (envOfC qual (defScope st) s.heap.objs.size f cdv))->sp vs H Q E ->
   wpB (jM (CX1 P w) P w K mg base N qual (defScope st) f cdv A outer s H E) (defBody st) { nx:=fun _ H'=>Q .non H',rt:=Q } (start N vs) H):FnOk P w K mg base (CX1 P w) (k+1) f fd ps sp:=by
 obtain⟨oc,od,kV,doc,pm,an,cdv,ct,osl,rfl,lk,hcd⟩:=F.ex
 exact zbK lk hcd S len fun A outer s H vs Q E hr hsp=>⟨_,qm,hbody cdv A outer s H vs Q E hr hsp⟩
theorem zd6 {d:DefI}{x:Str}{f:Addr}{fd:FuncData}(D:Fun K x d.name d.st f fd) (hok:d.ok W=true) (T:WK P w K mg base cf W k) (hk:1<=k):FnOk P w K mg base (CX1 P w) (k+1) f fd d.ps (spX mg d.mask.length (d.run cf)):=by
 unfold DefI.ok at hok
 simp only[Bool.and_eq_true,decide_eq_true_eq,List.all_eq_true,Bool.or_eq_true] at hok
 obtain⟨⟨⟨⟨h1,h2⟩,h3⟩,h4⟩,h5⟩:=hok
 have S:=Jk h1
 have hNl:d.mask.length<=d.N.length:=by
  have:=congrArg List.length S.pre
  rw[List.length_take] at this; omega
 refine VQ D S (fun vs H Q E h=>by rw[h.1,h2]) fun cdv A outer s H vs Q E hr hsp=>?_
 obtain⟨hv,M0,F,args,rs,hm⟩:=hsp
 have hal:args.length=d.mask.length:=by have:=rs.len; simpa [hv] using this.symm
 have rs1:=rs.ext (d.N.length-d.mask.length)
 have hst:L2.start d.N vs=vs.map some++List.replicate (d.N.length-d.mask.length) none:=by unfold L2.start; rw[hv]
 rw[hst]
 have hsl:(vs.map some++List.replicate (d.N.length-d.mask.length) none:L2.St).length=d.N.length:=by simp[hv]; omega
 refine zbS cf W d.body (jM (CX1 P w) P w K mg base d.N d.name (defScope d.st) f cdv A outer s H E) (fun x _ _ _ _ H'=>∀ C,mg x.cls=some (.ref C)->E (.ref C) none H') k (defScope d.st) d.N (List.range d.N.length) d.N.length d.mask.length d.io zbz
  ⟨T.bi,T.gi,T.gs,T.fn,hr,hk,rfl,T.ex,T.mr,T.gd,fun c f h=>⟨(T.fk c f h).1,(T.fk c f h).2⟩,T.mc,T.ml,zc3,⟨_,_,_,rfl,rfl,rfl⟩⟩ ⟨PassesOwn.leaving,S.nd,List.nodup_range,fun i hi=>?_,(fun x Γ F ν σ H' h C hC pins s1 I h' ea args hm=>W0 I rfl rfl rfl hm (h C hC)),rfl,rfl⟩ (defBody d.st) h5 M0 F _ _ _ H _ rs1 za3 hsl ?_
 ·exact (List.getElem?_eq_some_iff.mp (h3 i hi)).1
 ·have back:∀ {F':Fp} {Γ':Gv} {ν':Nu} {o:OV} {v:V} {H':Hp} {G:Prop},RS M0 F' (Γ'++ [some o]) (ν'++ [some v]) H'->(∀ i∈d.io,ν'[i]?=(vs.map some++List.replicate (d.N.length-d.mask.length) none:Nu)[i]?)->Stp F H F' H' ->
    (∀ F',RS M0 F' (outs d.mask Γ'++ [some o]) (vs.map some++ [some v]) H'->Stp F H F' H'->G)->G:=fun {F' Γ' ν' o v H' G} r' hn s' hq=>by
   obtain⟨F2,r2,s2⟩:=r'.outs hv fun j hj=>by
    have hjl:j<d.mask.length:=(List.getElem?_eq_some_iff.mp hj).1
    have hjm:j∈d.io:=by
     rcases h4 j (List.mem_range.mpr hjl) with z | z
     ·exact absurd hj z
     ·simpa using z
    rw[hn j hjm,List.getElem?_append_left (by simp[hv]; exact hjl),List.getElem?_map]
   exact hq F2 r2 (s'.trans s2)
  unfold DefI.run at hm
  rw[if_pos hal] at hm
  generalize d.body.ex cf d.io (args.map some++List.replicate (d.N.length-d.mask.length) none)=rr at hm
  cases rr with
  | bad=>exact hm.elim
  | exc x Γ'=>exact fun F' ν' σ' H' r' s' _ _ hn C hC=>back (r'.newD .none) hn s' fun F2 r2 s2=>hm C hC F2 H' r2 s2
  | ok z=>
   obtain⟨fl,Γ'⟩:=z
   cases fl with
   | brk=>exact hm.elim
   | cnt=>exact hm.elim
   | next=>
    intro F' ν' σ' H' r' s' hs' hl' hn
    exact back (r'.newD .none) hn s' fun F2 r2 s2=>hm F2 _ H' r2 s2
   | ret o=>
    intro F' ν' v H' r' s' hn
    exact back r' hn s' fun F2 r2 s2=>hm F2 v H' r2 s2
theorem zcs {d:DefI}{x:Str}{f:Addr}{fd:FuncData}(D:Fun K x d.name d.st f fd) (hok:d.ok W=true):FnOk P w K mg base (CX1 P w) 1 f fd d.ps (spX mg d.mask.length fun _=>.bad):=by
 unfold DefI.ok at hok
 simp only[Bool.and_eq_true,decide_eq_true_eq] at hok
 refine VQ (k:=0) D (Jk hok.1.1.1.1) (fun vs H Q E h=>by rw[h.1,hok.1.1.1.2]) fun cdv A outer s H vs Q E hr hsp=>?_
 obtain⟨hv,M0,F,args,rs,hm⟩:=hsp
 exact hm.elim
noncomputable def wOk (defs:List DefI) (W:Wd):Bool:=W.fl.all (fun p=>okO (defs.find? fun d=>decide (d.name=p.1)) fun d=>decide (d.mask.length=p.2)&&decide (d.kd=.fn))
 && W.mc.all (fun p=>okO (defs.find? fun d=>decide (d.name=p.2.1)) fun d=>decide (d.mask.length=p.2.2)&&decide (d.kd=.ini p.1))
 && W.ml.all (fun p=>okO (defs.find? fun d=>decide (d.name=p.2.2.1)) fun d=>decide (d.mask.length=p.2.2.2)&&decide (d.kd=.me p.1 p.2.1))
theorem yi {defs:List DefI}{j:Nat}(hd:∀ d∈defs,Dx K mg d/\d.ok W=true) (hw:wOk defs W=true) (hbi:∀ x,W.bi.contains x=true->mg x=none)
  (hgi:∀ x i,W.gi.contains (x,i)=true->∃ t,mg x=some (.int i t)) (hgs:∀ x i,W.gs.contains (x,i)=true->∃ t,mg x=some (.str i t))
  (hex:∀ x,W.ex.contains x=true->∃ C,mg x=some (.ref C)/\PySem.W.excIn K C bmV "ValueError.__new__" =true) (hmr:∀ x C y C2,W.ex.contains x=true->mg x=some (.ref C)->W.ex.contains y=true->mg y=some (.ref C2)->(mroIn K C).contains (.ref C2)=decide (x=y)) (hgd:∀ x kf,W.gd.contains (x,kf)=true->GD w K mg x kf)
  (hfk:∀ c f,W.fk.contains (c,f)=true->Cls K (Cs.adr c)/\jF K (Cs.adr c) f)
  (hF:∀ (d:DefI) (x:Str) (f:Addr) (fd:FuncData),defs.find? (fun e=>decide (e.name=d.name))=some d->Fun K x d.name d.st f fd->d.ok W=true->FnOk P w K mg base (CX1 P w) j f fd d.ps (spX mg d.mask.length (cf d.name))/\∀ args,cf d.name args≠ .bad->args.length=d.mask.length) (hj:j+1<=k):WK P w K mg base cf W k:=by
 unfold wOk at hw
 simp only[Bool.and_eq_true,List.all_eq_true] at hw
 obtain⟨⟨w1,w2⟩,w3⟩:=hw
 have get:∀ (x:Str) (n:Nat) (kd:Kd),okO (defs.find? fun d=>decide (d.name=x)) (fun d=>decide (d.mask.length=n)&&decide (d.kd=kd))=true->∃ (d:DefI) (y:Str) (f:Addr) (fd:FuncData),d.name=x/\Fun K y d.name d.st f fd/\Binds K fd d.ps []/\Lk K mg f x kd/\FnOk P w K mg base (CX1 P w) j f fd d.ps (spX mg n (cf x))/\∀ args,cf x args≠ .bad->args.length=n:=fun x n kd h=>by
  obtain⟨d,e,h⟩:=zh h
  simp only[Bool.and_eq_true,decide_eq_true_eq] at h
  obtain⟨rfl,rfl⟩:=h
  have hmem:=List.mem_of_find?_eq_some e
  have hnm:d.name=x:=by simpa using List.find?_some e
  subst hnm
  obtain⟨D,ok⟩:=hd d hmem
  obtain⟨y,f,fd,F,hb,lk⟩:=D.ex
  obtain⟨q1,q2⟩:=hF d y f fd e F ok
  exact⟨d,y,f,fd,rfl,F,hb,lk,q1,q2⟩
 refine⟨hbi,hgi,hgs,fun x n h=>?_,hex,hmr,hgd,hfk,fun c q n h=>?_,fun c m q n h=>?_⟩
 ·obtain⟨d,y,f,fd,e,F,hb,lk,q1,q2⟩:=get x n .fn (w1 (x,n) (List.elem_iff.mp h))
  exact⟨⟨f,fd,d.ps,q1.mono (by omega),lk,F.kp,hb⟩,q2⟩
 ·obtain⟨d,y,f,fd,e,F,hb,lk,q1,q2⟩:=get q n (.ini c) (w2 (c,q,n) (List.elem_iff.mp h))
  exact⟨lk.2,⟨j,hj,f,fd,d.ps,q1,lk.1,hb⟩,q2⟩
 ·obtain⟨d,y,f,fd,e,F,hb,lk,q1,q2⟩:=get q n (.me c m) (w3 (c,m,q,n) (List.elem_iff.mp h))
  exact⟨⟨f,fd,d.ps,q1.mono (by omega),lk.1,lk.2,hb⟩,q2⟩
theorem wk_all {defs:List DefI}(hd:∀ d∈defs,Dx K mg d/\d.ok W=true) (hw:wOk defs W=true) (hbi:∀ x,W.bi.contains x=true->mg x=none)
  (hgi:∀ x i,W.gi.contains (x,i)=true->∃ t,mg x=some (.int i t)) (hgs:∀ x i,W.gs.contains (x,i)=true->∃ t,mg x=some (.str i t))
  (hex:∀ x,W.ex.contains x=true->∃ C,mg x=some (.ref C)/\PySem.W.excIn K C bmV "ValueError.__new__" =true) (hmr:∀ x C y C2,W.ex.contains x=true->mg x=some (.ref C)->W.ex.contains y=true->mg y=some (.ref C2)->(mroIn K C).contains (.ref C2)=decide (x=y)) (hgd:∀ x kf,W.gd.contains (x,kf)=true->GD w K mg x kf)
  (hfk:∀ c f,W.fk.contains (c,f)=true->Cls K (Cs.adr c)/\jF K (Cs.adr c) f):∀ n,WK P w K mg base (zr defs n) W (2*n+2)
 | 0=>yi (j:=1) hd hw hbi hgi hgs hex hmr hgd hfk (fun d x f fd _ F ok=>⟨zcs F ok,fun args e=>absurd rfl e⟩) (by omega)
 | n+1=>yi (j:=2*n+2+1) hd hw hbi hgi hgs hex hmr hgd hfk (fun d x f fd e F ok=>by
   have ec:zr defs (n+1) d.name=d.run (zr defs n):=by
    funext args
    rw[zr,e]
   rw[ec]
   exact⟨zd6 F ok (wk_all hd hw hbi hgi hgs hex hmr hgd hfk n) (by omega),fun args e=>DefI.run_lenX e⟩) (by omega)
noncomputable def jB (cells:List Int) (i l t s:Int):OV:=.l [.d (.list (cells.map .int)),.d (.int i),.d (.int l),.d (.int t),.d (.int s)]
theorem law_ok {st:Stmt}{fa:Addr}{fd:FuncData}{N:List Str}{x:Str}{kb:Nat}{body:IB}{rest:List Stmt}{pos' p3 p2 p pos:Pos}(Fn:Fun K "law" "law" st fa fd) (hS:Jj N ["_law_script"] (defScope st)=true) (hkb:Kn P w K mg base CX0 "_law_box" kb (Kl K)) (hkb2:kb<=k) (T:WK P w K mg base cf W k) (hk:1<=k)
  (hb:defBody st=.Assign [.Name x pos'] (.Call (.Name "_law_box" p3) [.Name "_law_script" p2] [] p) pos::rest) (hN0:N[0]?=some ("_law_script" :Str)) (hN1:N[1]?=some x) (hv0:(defScope st).names.lookup ("_law_script" :Str)=some .local) (hx:Loc (defScope st) x) (hg:(defScope st).names.lookup ("_law_box" :Str)=some .globalImplicit)
  (hchk:body.chk W (defScope st) N (List.range N.length) N.length 0 rest=true)
  (hrun:∀ (cells:List Int) (i l t s:Int),0<=i->∃ Γ',body.ex cf [] (none::some (jB cells i l t s)::List.replicate (N.length-2) none)=.ok (.ret (.d (.bool true)),Γ')):FnOk P w K mg base CX0 (k+1) fa fd ["_law_script"] (V8 K):=by
 have S:=Jk hS
 refine Fn.law S fun cdv A outer s H Q E a ns hr hSq hlen kk=>?_
 have hl2:2<=N.length:=by have:=(List.getElem?_eq_some_iff.mp hN1).1; omega
 rw[hb]
 refine zdK (X:=(jM CX0 P w K mg base N "law" (defScope st) fa cdv A outer s H E).nox) (N:=N) S.nd hkb (hr.mono hkb2) hSq hlen (fun b σ1 H1 s1 nb hB rs1 l1=>?_) rfl hN0 hN1 (.inl hv0) hx (.inl rfl) hg rfl rfl
 obtain⟨c,cells,i,l,t,sd,B⟩:=hB
 have hσ:σ1[1]?=some (some (.ref b)):=rs1.av 1 (.ref b) (by
  rw[List.getElem?_set_self]
  simp
  exact hl2)
 have hF:∀ j a,a∈zF (fun _=> []) 1 [b] j->j=1/\a=b:=fun j a h=>by
  by_cases hj:j=1
  ·subst hj; rw[zg] at h; exact⟨rfl,by simpa using h⟩
  ·rw[zk hj] at h; cases h
 have hM:∀ a,MM zu (zF (fun _=> []) 1 [b]) a->a=b:=fun a h=>by
  rcases h with h | ⟨j,h⟩
  ·exact h.elim
  ·exact (hF j a h).2
 have rs:RS zu (zF (fun _=> []) 1 [b]) (none::some (jB cells i l t sd)::List.replicate (N.length-2) none) (none::some (.ref b)::List.replicate (N.length-2) none) H1:=by
  refine⟨fun a h=>h.elim,fun j a h z=>z,fun j=>?_,fun j k a h1 h2=>by rw[(hF j a h1).1,(hF k a h2).1],fun j o e=>?_,fun j h=>?_,by simp⟩
  ·by_cases hj:j=1
   ·subst hj; rw[zg]; exact List.nodup_cons.mpr ⟨(fun z=>nomatch z),.nil⟩
   ·rw[zk hj]; exact .nil
  ·match j,e with
   | 0,e=>simp at e
   | 1,e=>
    have e':jB cells i l t sd=o:=by simpa using e
    subst e'
    refine⟨.ref b,rfl,?_⟩
    rw[zg]
    refine .l B.hb (.cons (A:= []) (.d (B.hc.less fun a ha _=>hM a ha)) (.cons (A:= []) (.d (.int _)) (.cons (A:= []) (.d (.int _)) (.cons (A:= []) (.d (.int _)) (.cons (A:= []) (.d (.int _)) .nil)))))
   | j+2,e=>
    rw[List.getElem?_cons_succ,List.getElem?_cons_succ,List.getElem?_replicate] at e
    split at e <;> cases e
  ·by_cases hj:j=1
   ·subst hj; exact absurd rfl (h (jB cells i l t sd))
   ·rw[zk hj]
 have sees:Sees (List.range N.length) (none::some (.ref b)::List.replicate (N.length-2) none) σ1:=fun s' j v e1 e2=>by
  have hs:s'<N.length:=by
   have:=(List.getElem?_eq_some_iff.mp e1).1
   simpa using this
  rw[List.getElem?_range hs] at e1
  cases e1
  match s',e2 with
  | 0,e2=>simp at e2
  | 1,e2=>
   have:V.ref b=v:=by simpa using e2
   subst this; exact hσ
  | j+2,e2=>
   rw[List.getElem?_cons_succ,List.getElem?_cons_succ,List.getElem?_replicate] at e2
   split at e2 <;> cases e2
 obtain⟨Γ',er⟩:=hrun cells i l t sd B.hi
 refine zbS cf W body (jM CX0 P w K mg base N "law" (defScope st) fa cdv A outer s H E).nox XP0 k (defScope st) N (List.range N.length) N.length 0 [] zdM ⟨T.bi,T.gi,T.gs,T.fn,hr,hk,rfl,T.ex,T.mr,T.gd,fun c f h=>⟨(T.fk c f h).1,(T.fk c f h).2⟩,T.mc,T.ml,zaQ,⟨_,_,_,rfl,rfl,rfl⟩⟩ ⟨PassesOwn.never,S.nd,List.nodup_range,(fun i hi=>nomatch hi),(fun _ _ _ _ _ _ h=>h.elim),rfl,rfl⟩ rest hchk zu _ _ _ σ1 H1 _ rs sees l1 ?_
 rw[er]
 intro F' ν' v H' r' s' hn
 obtain⟨w',ew,q⟩:=r'.at' Γ'.length (.d (.bool true)) (by rw[List.getElem?_append_right (Nat.le_refl _)]; simp)
 have hlen:=r'.len
 have hνl:ν'.length=Γ'.length:=by simpa using hlen
 rw[List.getElem?_append_right (by omega),hνl] at ew
 have:v=w':=by simpa using ew
 subst this
 generalize F' Γ'.length=Az at q
 cases q with
 | d q=>cases q; exact kk H'
end
noncomputable def csOf (mg:Str->Option Value):Cs:=⟨fun x=>match mg x with
 | some (.ref C)=>C
 | _=>0⟩
theorem zah {mg:Str->Option Value}{c:Str}{C:Addr}(h:mg c=some (.ref C)):(csOf mg).adr c=C:=by
 show (match mg c with
  | some (.ref C)=>C
  | _=>0)=C
 rw[h]
section
variable {K:PySem.W.Frag} {mg:Str->Option Value} {h:Heap} {d:DefI}
theorem qf (hk:d.kd=.fn) (D:Df K mg d.name d.st d.ps): @Dx (csOf mg) K mg d:=by
 obtain⟨f,fd,F,hm,hb⟩:=D.ex
 exact @Dx.mk (csOf mg) _ _ _ ⟨d.name,f,fd,F,hb,by rw[hk]; exact hm⟩
structure Wg (K:PySem.W.Frag) (c:Str) (C:Addr):Prop where
 n:PySem.W.nsIn K mainGlobals c=some (some (.ref C))
 cl:Cls K C
structure Dm (K:PySem.W.Frag) (q c m:Str) (st:Stmt) (ps:List Str):Prop where
 ex:∃ (C f:Addr) (fd:FuncData),Wg K c C/\Fun K m q st f fd/\Binds K fd ps []/\zbZ K C m f
structure Di (K:PySem.W.Frag) (q c:Str) (st:Stmt) (ps:List Str):Prop where
 ex:∃ (C f:Addr) (fd:FuncData),Wg K c C/\Fun K "__init__" q st f fd/\Binds K fd ps []/\Mk K C f
theorem Dm.of {q c m:Str}{st:Stmt}{ps:List Str}{C f:Addr}{oc:Value}{od an:Option Addr}{sl:Array (Option Value)}{kV dc pm cd ct:Value}(o:Wg K c C) (a:PySem.W.findIn K (.ref C) m=some (some (.ref f))) (fn:PySem.W.isFn K (.ref f)=true)
  (l:K.lookup f=some ⟨oc,od,.func (PySem.W.fnOf m q (zT st) (defBody st) (defScope st) .none kV dc pm an cd ct),sl⟩) (e:PySem.W.codeIn K cd q=true) (k:PySem.W.keepIn K (.ref f)=true)
  (hb:∀ (kV doc pm:Value) (an:Option Addr) (cdv ct:Value) (us:List Value),us.length=ps.length->bindArgs (PySem.W.fnOf m q (zT st) (defBody st) (defScope st) .none kV doc pm an cdv ct) ⟨us,[]⟩=pure (ps.zip us)):Dm K q c m st ps :=
 ⟨C,f,_,o,jP (st:=st) l e k,(jP (st:=st) l e k).binds hb,a,fn,k⟩
theorem Di.of {q c:Str}{st:Stmt}{ps:List Str}{C f:Addr}{oc:Value}{od an:Option Addr}{sl:Array (Option Value)}{kV dc pm cd ct:Value}(o:Wg K c C) (mk:PySem.W.makesIn K C=true) (a:PySem.W.findIn K (.ref C) "__init__" =some (some (.ref f))) (fn:PySem.W.isFn K (.ref f)=true) (kc:PySem.W.keepIn K (.ref C)=true)
  (l:K.lookup f=some ⟨oc,od,.func (PySem.W.fnOf "__init__" q (zT st) (defBody st) (defScope st) .none kV dc pm an cd ct),sl⟩) (e:PySem.W.codeIn K cd q=true) (k:PySem.W.keepIn K (.ref f)=true)
  (hb:∀ (kV doc pm:Value) (an:Option Addr) (cdv ct:Value) (us:List Value),us.length=ps.length->bindArgs (PySem.W.fnOf "__init__" q (zT st) (defBody st) (defScope st) .none kV doc pm an cdv ct) ⟨us,[]⟩=pure (ps.zip us)):Di K q c st ps :=
 ⟨C,f,_,o,jP (st:=st) l e k,(jP (st:=st) l e k).binds hb,mk,a,fn,kc⟩
theorem zd5 {c f:Str}{C:Addr}(X:K.In h) (G:h.Ns mainGlobals mg) (o:Wg K c C) (n:jF K C f):Cls K ((csOf mg).adr c)/\jF K ((csOf mg).adr c) f:=by
 rw[zah (PySem.W.mg_of X G o.n)]
 exact⟨o.cl,n⟩
end
end L3
namespace Wx
open PySem L2 L3
scoped instance noCs:L2.Cs:=⟨fun _=>0⟩
noncomputable def p_lacking_1:IC:=(.one (.cmp .Gt (.ix (.var 3 5) (.var 4 1)) (.ix (.var 1 3) (.var 4 1))))
noncomputable def p_lacking_2:IE:=(.var 0 2)
noncomputable def ZJ:IB:=(.cons (.ret (.own (.comp 2 4 [1] ["at","stain","waxed","wish","dye"] (.tp (.cons (.nm 0 2) (.cons (.tp (.cons (.nm 1 3) (.cons (.nm 2 4) (.cons (.nm 3 5) .nil)))) .nil))) (.enum (.var 0 0)) p_lacking_1 p_lacking_2))) .nil)
noncomputable def jg:IB:=(.cons (.ret (.dat (.and (.isi "int" (.var 0 0)) (.not (.isi "bool" (.var 0 0)))))) .nil)
noncomputable def b_law_wholes_1:IE:=(.call (.call "_law_whole" 1 (.cons (.var 0 1) .nil)))
noncomputable def qU:IB:=(.cons (.ret (.dat (.and (.isi "list" (.var 0 0)) (.all (.new (.comp 1 1 [] ["_law_one"] (.nm 0 1) (.list (.var 0 0)) .yes b_law_wholes_1)))))) .nil)
noncomputable def jf:IB:=(.cons (.asg 2 2 (.dat (.bin .Mod (.bin .Add (.bin .Add (.bin .Mult (.var 0 0) (.cint 48271)) (.bin .Mult (.var 1 1) (.cint 69621))) (.cint 12345)) (.cint 2147483647)))) (.cons (.asg 3 3 (.dat (.bin .Mod (.bin .Add (.bin .Add (.bin .Mult (.var 2 2) (.bin .Add (.bin .Mod (.var 2 2) (.cint 65521)) (.cint 7))) (.bin .Mult (.var 1 1) (.cint 40692))) (.bin .Mod (.var 0 0) (.cint 104729))) (.cint 998244353)))) (.cons (.ret (.dat (.bin .FloorDiv (.var 3 3) (.cint 7)))) .nil)))
noncomputable def qi:IB:=(.cons (.set 0 0 (.cint 3) (.bin .Add (.ix (.var 0 0) (.cint 3)) (.cint 1))) (.cons (.ite (.cmp .Gt (.ix (.var 0 0) (.cint 2)) (.cint 0)) (.cons (.asg 2 2 (.dat (.ix (.var 0 0) (.cint 2)))) (.cons (.set 0 0 (.cint 2) (.bin .FloorDiv (.var 2 2) (.var 1 1))) (.cons (.ret (.dat (.bin .Mod (.var 2 2) (.var 1 1)))) .nil))) .nil) (.cons (.ite (.cmp .GtE (.ix (.var 0 0) (.cint 1)) (.len (.ix (.var 0 0) (.cint 0)))) (.cons (.ret (.dat (.bin .Mod (.call (.call "_law_mixed" 2 (.cons (.ix (.var 0 0) (.cint 4)) (.cons (.ix (.var 0 0) (.cint 3)) .nil)))) (.var 1 1)))) .nil) .nil) (.cons (.asg 3 3 (.dat (.ix (.ix (.var 0 0) (.cint 0)) (.ix (.var 0 0) (.cint 1))))) (.cons (.set 0 0 (.cint 1) (.bin .Add (.ix (.var 0 0) (.cint 1)) (.cint 1))) (.cons (.ite (.cmp .Lt (.var 3 3) (.bin .Pow (.cint 10) (.cint 18))) (.cons (.ret (.dat (.bin .Mod (.call (.call "_law_mixed" 2 (.cons (.var 3 3) (.cons (.ix (.var 0 0) (.cint 3)) .nil)))) (.var 1 1)))) .nil) .nil) (.cons (.set 0 0 (.cint 2) (.bin .FloorDiv (.var 3 3) (.var 1 1))) (.cons (.ret (.dat (.bin .Mod (.var 3 3) (.var 1 1)))) .nil))))))))
noncomputable def b_law_lacks_1:IE:=(.tup (.cons (.call (.call "_law_take" 2 (.io 1 0 (.cons (.bin .Add (.var 2 2) (.cint 1)) .nil)))) (.cons (.call (.call "_law_take" 2 (.io 1 0 (.cons (.bin .Add (.var 2 2) (.cint 1)) .nil)))) .nil)))
noncomputable def b_law_lacks_2:IB:=(.cons (.ite (.cmp .Eq (.var 3 3) (.cint 0)) (.cons (.app 7 7 (.cmp .Eq (.call (.call "_law_take" 2 (.io 0 0 (.cons (.cint 2) .nil)))) (.cint 1))) .nil) (.cons (.ite (.cmp .Eq (.var 3 3) (.cint 1)) (.cons (.app 7 7 (.chain .LtE .Lt (.min (.var 8 8) (.var 9 9)) (.var 6 6) (.max (.var 8 8) (.var 9 9)))) .nil) (.cons (.ite (.cmp .Eq (.var 3 3) (.cint 2)) (.cons (.app 7 7 (.cmp .Lt (.var 6 6) (.var 8 8))) .nil) (.cons (.app 7 7 (.cmp .NotEq (.cmp .Lt (.var 6 6) (.var 8 8)) (.cmp .Eq (.var 6 6) (.var 9 9)))) .nil)) .nil)) .nil)) .nil)
noncomputable def b_law_lacks_3:IB:=(.cons (.asg 7 7 (.own (.lst .nil))) (.cons (.loop (.tp (.cons (.nm 8 8) (.cons (.nm 9 9) .nil))) (.list (.var 4 4)) b_law_lacks_2) (.cons (.app 5 5 (.frz 7 7)) .nil)))
noncomputable def je:IB:=(.cons (.asg 3 3 (.dat (.call (.call "_law_take" 2 (.io 0 0 (.cons (.cint 4) .nil)))))) (.cons (.asg 4 4 (.dat (.new (.comp 10 1 [0,2] ["_law_dye","_law_box_here","_law_size"] (.nm 0 10) (.range (.var 1 1)) .yes b_law_lacks_1)))) (.cons (.asg 5 5 (.own (.lst .nil))) (.cons (.loop (.nm 6 6) (.range (.var 2 2)) b_law_lacks_3) (.cons (.ret (.move 5 5)) .nil)))))
noncomputable def b_law_cell_1:IB:=(.cons (.asg 7 7 (.dat (.call (.call "_law_take" 2 (.io 0 0 (.cons (.cint 9) .nil)))))) (.cons (.app 4 4 (.var 7 7)) (.cons (.app 5 5 (.bin .Add (.var 7 7) (.int (.var 6 6)))) (.cons (.ite (.and (.cmp .Gt (.var 2 2) (.cint 0)) (.cmp .Eq (.call (.call "_law_take" 2 (.io 0 0 (.cons (.var 2 2) .nil)))) (.cint 0))) (.cons (.set 4 4 (.neg (.cint 1)) (.call (.call "_law_take" 2 (.io 0 0 (.cons (.cint 10) .nil))))) (.cons (.set 5 5 (.neg (.cint 1)) (.call (.call "_law_take" 2 (.io 0 0 (.cons (.cint 10) .nil))))) .nil)) .nil) .nil))))
noncomputable def qT:IB:=(.cons (.asg 4 4 (.own (.lst .nil))) (.cons (.asg 5 5 (.own (.lst .nil))) (.cons (.loop (.nm 6 6) (.list (.var 1 1)) b_law_cell_1) (.cons (.ret (.dat (.tup (.cons (.tuple (.var 4 4)) (.cons (.and (.cmp .Gt (.var 3 3) (.cint 0)) (.cmp .Lt (.call (.call "_law_take" 2 (.io 0 0 (.cons (.cint 5) .nil)))) (.var 3 3))) (.cons (.tuple (.var 5 5)) .nil)))))) .nil))))
noncomputable def b_law_bolt_1:IE:=(.call (.call "_law_cell" 4 (.io 1 0 (.cons (.var 0 6) (.cons (.var 2 3) (.cons (.var 3 4) .nil))))))
noncomputable def jG:IB:=(.cons (.asg 4 4 (.dat (.call (.call "_law_take" 2 (.io 0 0 (.cons (.cint 4) .nil)))))) (.cons (.asg 5 5 (.dat (.call (.call "_law_lacks" 3 (.io 0 0 (.cons (.var 1 1) (.cons (.var 2 2) .nil))))))) (.cons (.ret (.own (.comp 6 1 [0,3,4] ["_law_row","_law_box_here","_law_loose","_law_wet"] (.nm 0 6) (.list (.var 5 5)) .yes b_law_bolt_1))) .nil)))
noncomputable def qC:IB:=(.cons (.ite (.cmp .Eq (.call (.call "_law_take" 2 (.io 0 0 (.cons (.cint 8) .nil)))) (.cint 0)) (.cons (.ret (.dat (.tup (.cons (.call (.call "_law_take" 2 (.io 0 0 (.cons (.cint 13) .nil)))) (.cons (.call (.call "_law_take" 2 (.io 0 0 (.cons (.cint 41) .nil)))) .nil))))) .nil) .nil) (.cons (.ret (.dat (.tup (.cons (.call (.call "_law_take" 2 (.io 0 0 (.cons (.cint 7) .nil)))) (.cons (.call (.call "_law_take" 2 (.io 0 0 (.cons (.cint 9) .nil)))) .nil))))) .nil))
noncomputable def b_law_lack_1:IC:=(.one (.cmp .Gt (.ix (.ix (.ix (.var 1 0) (.var 0 2)) (.cint 2)) (.var 2 1)) (.ix (.ix (.ix (.var 1 0) (.var 0 2)) (.cint 0)) (.var 2 1))))
noncomputable def b_law_lack_2:IE:=(.var 0 2)
noncomputable def jH:IB:=(.cons (.ret (.own (.comp 2 1 [0,1] ["_law_at","_law_rows","_law_dye"] (.nm 0 2) (.range (.len (.var 0 0))) b_law_lack_1 b_law_lack_2))) .nil)
noncomputable def b_law_need_1:IC:=(.one (.cmp .Gt (.len (.call (.call "_law_lack" 2 (.cons (.var 1 0) (.cons (.var 0 2) .nil))))) (.cint 0)))
noncomputable def b_law_need_2:IE:=(.var 0 2)
noncomputable def jI:IB:=(.cons (.ret (.own (.comp 2 1 [0] ["_law_dye","_law_rows"] (.nm 0 2) (.range (.var 1 1)) b_law_need_1 b_law_need_2))) .nil)
noncomputable def p_lacking_under_wax_1:IC:=(.one (.ix (.ix (.var 1 0) (.var 0 2)) (.cint 1)))
noncomputable def p_lacking_under_wax_2:IE:=(.var 0 2)
noncomputable def zP:IB:=(.cons (.ret (.own (.comp 2 1 [0] ["at","bolt"] (.nm 0 2) (.list (.call (.call "lacking" 2 (.cons (.var 0 0) (.cons (.var 1 1) .nil))))) p_lacking_under_wax_1 p_lacking_under_wax_2))) .nil)
noncomputable def b_law_under_1:IE:=(.ix (.ix (.var 1 0) (.var 0 5)) (.cint 1))
noncomputable def b_law_under_2:IE:=(.cmp .In (.var 0 5) (.var 1 4))
noncomputable def zH:IB:=(.cons (.ite (.or (.cmp .Eq (.var 1 1) (.var 2 2)) (.cmp .Eq (.var 1 1) (.cint 12))) (.cons (.ret (.dat (.cbool false))) .nil) .nil) (.cons (.asg 3 3 (.dat (.call (.call "_law_lack" 2 (.cons (.var 0 0) (.cons (.var 1 1) .nil)))))) (.cons (.ite (.cmp .Eq (.var 2 2) (.cint 12)) (.cons (.ret (.dat (.not (.any (.new (.comp 5 1 [0] ["_law_at","_law_rows"] (.nm 0 5) (.list (.var 3 3)) .yes b_law_under_1)))))) .nil) .nil) (.cons (.asg 4 4 (.dat (.call (.call "_law_lack" 2 (.cons (.var 0 0) (.cons (.var 2 2) .nil)))))) (.cons (.ite (.cmp .Eq (.var 3 3) (.var 4 4)) (.cons (.ret (.dat (.cmp .Gt (.var 1 1) (.var 2 2)))) .nil) .nil) (.cons (.ret (.dat (.all (.new (.comp 5 1 [4] ["_law_at","_law_theirs"] (.nm 0 5) (.list (.var 3 3)) .yes b_law_under_2))))) .nil))))))
noncomputable def b_law_pairs_1:IB:=(.cons (.app 2 2 (.tup (.cons (.var 3 3) (.cons (.var 4 4) .nil)))) .nil)
noncomputable def b_law_pairs_2:IB:=(.cons (.loop (.nm 4 4) (.list (.var 1 1)) b_law_pairs_1) .nil)
noncomputable def b_law_pairs_3:IB:=(.cons (.app 2 2 (.tup (.cons (.ix (.var 1 1) (.call (.call "_law_take" 2 (.io 0 0 (.cons (.len (.var 1 1)) .nil))))) (.cons (.ix (.var 1 1) (.call (.call "_law_take" 2 (.io 0 0 (.cons (.len (.var 1 1)) .nil))))) .nil)))) .nil)
noncomputable def qB:IB:=(.cons (.asg 2 2 (.own (.lst .nil))) (.cons (.ite (.cmp .LtE (.len (.var 1 1)) (.cint 4)) (.cons (.loop (.nm 3 3) (.list (.var 1 1)) b_law_pairs_2) (.cons (.ret (.move 2 2)) .nil)) .nil) (.cons (.loop (.nm 5 5) (.range (.cint 12)) b_law_pairs_3) (.cons (.ret (.move 2 2)) .nil))))
noncomputable def qk:IB:=(.cons (.ret (.dat (.and (.cmp .NotEq (.var 1 1) (.var 2 2)) (.and (.not (.call (.call "_law_under" 3 (.cons (.var 0 0) (.cons (.var 1 1) (.cons (.var 2 2) .nil)))))) (.not (.call (.call "_law_under" 3 (.cons (.var 0 0) (.cons (.var 2 2) (.cons (.var 1 1) .nil)))))))))) .nil)
end Wx
set_option maxHeartbeats 4000000
namespace Wx
open PySem L2 L3
noncomputable def runI (n:Nat) (mask:List Bool) (io:List Nat) (body:IB) (cf:CF) (args:List OV):RF:=if args.length=mask.length then fin mask (body.ex cf io (args.map some++List.replicate (n-mask.length) none)) else .bad
end Wx
local macro_rules
  | `(tactic| simp![$xs,*])=>`(tactic| simp[$xs,*,Wx.runI,L3.fin,L3.outs,L3.IB.ex,L3.IS.ex,L3.IE.ev,L3.IL.ev,L3.IA.ev,L3.IN.ev,L3.IP.ev,L3.II.ev,L3.IC.ev,L3.IO.ev,L3.sSeq,L3.sNext,L3.sAsg,L3.sIf,L3.sRet,L3.sRetN,L3.sSet,L3.sApp,L3.sFor,L3.sAsgT,L3.sExpr,L3.fVar,L3.fFrz,L3.fC,L3.fBin,L3.fCmp,L3.fB,L3.fTru,L3.fNotT,L3.fAndT,L3.fOrT,L3.fAndV,L3.fOrV,L3.fIf,L3.fIx,L3.f1,L3.f2,L3.fChain,L3.fTup,L3.fLst,L3.fCons,L3.fNil,L3.fNew,L3.fOwn,L3.fOD,L3.fD,L3.fMove,L3.fCall,L3.fCallW,L3.aNil,L3.aCons,L3.aIo,L3.toArg,L3.toArgs,L3.ios,L3.putBack,L3.derf,L3.derS,L3.derSs,L3.derL,L3.leaves,L3.derfs,L3.itemF,L3.binD,L3.cmpD,L3.truD,L3.R.bind,L3.isOwn,L3.fSeqL,L3.fSeqT,L3.fRange,L3.fEnum,L3.fYes,L3.fComp,L3.fListC,L3.fTupC,L3.gLen,L3.lenD,L3.gInt,L3.gAll,L3.gAny,L3.gMin,L3.gMax,L3.gNeg,L3.fIsi,L3.isiB,L2.tyD,L3.tgF,L3.tgFs,L2.noL])
namespace Wx
open PySem L2 L3
theorem km (cf:CF) (a b:Int):∃ r,runI 4 [false,false] [] jf cf [.d (.int a),.d (.int b)]=.ok (.d (.int r)) [none,none]:=by
 simp![jf,OV.view,OV.views,zt,ixN,atI]
 rw[if_pos]
 ·simp[outs]
 ·omega
noncomputable def VB (cf:CF):Prop:=∀ a b:Int,∃ r,cf "_law_mixed" [.d (.int a),.d (.int b)]=.ok (.d (.int r)) [none,none]
noncomputable def zx (b:OV):Prop:=∃ cells i l t s,0<=i/\b=jB cells i l t s
noncomputable def Yx (b:OV) (n:Int) (x:RF):Prop:=∃ (r:Int) (b':OV),0<=r/\r<n/\zx b'/\x=.ok (.d (.int r)) [some b',none]
theorem zbn (cf:CF) (hm:VB cf){b:OV}(hb:zx b){n:Int}(h1:1<=n) (h2:n<1073741824):Yx b n (runI 4 [true,false] [0] qi cf [b,.d (.int n)]):=by
 obtain⟨cells,i,l,t,s,hi,rfl⟩:=hb
 have h0:0<n:=by omega
 have hp:((10:Int) ^ 18)=1000000000000000000:=by decide
 by_cases hl:0<l
 ·refine⟨l % n,jB cells i (l / n) (t+1) s,Int.emod_nonneg _ (by omega),Int.emod_lt_of_pos _ h0,⟨_,_,_,_,_,hi,rfl⟩,?_⟩
  simp![qi,jB,hl,h0,h2,OV.view,OV.views,zt,ixN,atI]
 ·by_cases hc:(cells.length:Int)<=i
  ·obtain⟨r,er⟩:=hm s (t+1)
   refine⟨r % n,jB cells i l (t+1) s,Int.emod_nonneg _ (by omega),Int.emod_lt_of_pos _ h0,⟨_,_,_,_,_,hi,rfl⟩,?_⟩
   simp![qi,jB,hl,hc,h0,h2,er,OV.view,OV.views,zt,ixN,atI]
  ·have hix:i.toNat<cells.length:=by omega
   have hlt:i<(cells.length:Int):=by omega
   have hg:cells[i.toNat]?=some cells[i.toNat]:=List.getElem?_eq_getElem hix
   by_cases hs:cells[i.toNat]<1000000000000000000
   ·obtain⟨r,er⟩:=hm cells[i.toNat] (t+1)
    refine⟨r % n,jB cells (i+1) l (t+1) s,Int.emod_nonneg _ (by omega),Int.emod_lt_of_pos _ h0,⟨_,_,_,_,_,by omega,rfl⟩,?_⟩
    simp![qi,jB,hl,hc,h0,h2,hi,hlt,hg,hs,hp,er,OV.view,OV.views,zt,ixN,atI]
   ·refine⟨cells[i.toNat] % n,jB cells (i+1) (cells[i.toNat] / n) (t+1) s,Int.emod_nonneg _ (by omega),Int.emod_lt_of_pos _ h0,⟨_,_,_,_,_,by omega,rfl⟩,?_⟩
    simp![qi,jB,hl,hc,h0,h2,hi,hlt,hg,hs,hp,OV.view,OV.views,zt,ixN,atI]
theorem qu {t:IT}{body:SM}(I:List PyData->Gv->Prop){ds:List PyData}{Γ:Gv}(h0:I [] Γ)
  (hs:∀ pre d post,ds=pre++d::post->∀ Γ,I pre Γ->∃ Γ1 Γ2,tgF t d Γ=some Γ1/\body Γ1=.ok (.next,Γ2)/\I (pre++ [d]) Γ2):∃ Γ',qO t body ds Γ=.ok (.next,Γ')/\I ds Γ':=by
 suffices H:∀ post pre Γ,ds=pre++post->I pre Γ->∃ Γ',qO t body post Γ=.ok (.next,Γ')/\I ds Γ' from H ds [] Γ rfl h0
 intro post
 induction post with
 | nil=>intro pre Γ e h; rw[List.append_nil] at e; subst e; exact⟨Γ,rfl,h⟩
 | cons d post ih=>
  intro pre Γ e h
  obtain⟨Γ1,Γ2,e1,e2,h2⟩:=hs pre d post e Γ h
  obtain⟨Γ',e3,h3⟩:=ih (pre++ [d]) Γ2 (by rw[e]; simp) h2
  exact⟨Γ',by rw[qO,e1]; simp only[e2]; exact e3,h3⟩
theorem jo {k:Nat}{t:IT}{cond:EM Bool}{elt:EM FV}(I:List PyData->List PyData->Gv->Prop){ds:List PyData}{Γ:Gv}(h0:I [] [] Γ)
  (hs:∀ pre d post,ds=pre++d::post->∀ ys Γ,I pre ys Γ->∃ Γ2 c Γ3,tgF t d (Γ++List.replicate k none)=some Γ2/\cond Γ2=.ok (c,Γ3)/\(c=true->∃ u Γ4 y,elt Γ3=.ok (u,Γ4)/\derS Γ4 u=some y/\I (pre++ [d]) (ys++ [y]) (Γ4.take Γ.length))/\(c=false->I (pre++ [d]) ys (Γ3.take Γ.length))) :
  ∃ ys Γ',jD k t cond elt ds [] Γ=.ok (ys,Γ')/\I ds ys Γ':=by
 suffices H:∀ post pre ys Γ,ds=pre++post->I pre ys Γ->∃ ys' Γ',jD k t cond elt post ys Γ=.ok (ys',Γ')/\I ds ys' Γ' from H ds [] [] Γ rfl h0
 intro post
 induction post with
 | nil=>intro pre ys Γ e h; rw[List.append_nil] at e; subst e; exact⟨ys,Γ,rfl,h⟩
 | cons d post ih=>
  intro pre ys Γ e h
  obtain⟨Γ2,c,Γ3,e1,e2,ht,hf⟩:=hs pre d post e ys Γ h
  cases c with
  | true=>
   obtain⟨u,Γ4,y,e3,e4,h5⟩:=ht rfl
   obtain⟨ys',Γ',e6,h6⟩:=ih (pre++ [d]) _ _ (by rw[e]; simp) h5
   have hit:itL elt Γ3=.ok (y,Γ4):=by simp only[itL,e3,R.bind,e4]
   exact⟨ys',Γ',by unfold jD; rw[qr,e1]; simp only[e2,hit]; exact e6,h6⟩
  | false=>
   obtain⟨ys',Γ',e6,h6⟩:=ih (pre++ [d]) _ _ (by rw[e]; simp) (hf rfl)
   exact⟨ys',Γ',by unfold jD; rw[qr,e1]; simp only[e2]; exact e6,h6⟩
theorem zX {k:Nat}{t:IT}{cond:EM Bool}{elt:EM FV}(p:PyData->Bool) (f:PyData->PyData){ds:List PyData}{Γ:Gv}
  (hs:∀ d∈ds,∃ Γ2 Γ3,tgF t d (Γ++List.replicate k none)=some Γ2/\cond Γ2=.ok (p d,Γ3)/\Γ3.take Γ.length=Γ/\(p d=true->∃ u Γ4,elt Γ3=.ok (u,Γ4)/\derS Γ4 u=some (f d)/\Γ4.take Γ.length=Γ)) :
  jD k t cond elt ds [] Γ=.ok ((ds.filter p).map f,Γ):=by
 obtain⟨ys,Γ',e,hy,rfl⟩:=jo (k:=k) (t:=t) (cond:=cond) (elt:=elt) (fun pre ys Γ'=>ys=(pre.filter p).map f/\Γ'=Γ) (ds:=ds) (Γ:=Γ) ⟨rfl,rfl⟩ (by
  rintro pre d post e ys Γ' ⟨rfl,rfl⟩
  obtain⟨Γ2,Γ3,e1,e2,e3,h⟩:=hs d (by rw[e]; simp)
  refine⟨Γ2,p d,Γ3,e1,e2,fun hp=>?_,fun hp=>⟨by simp[List.filter_append,hp],e3⟩⟩
  obtain⟨u,Γ4,e4,e5,e6⟩:=h hp
  exact⟨u,Γ4,_,e4,e5,by simp[List.filter_append,hp],e6⟩)
 rw[e,hy]
noncomputable def qI (cf:CF):Prop:=∀ b,zx b->∀ n:Int,1<=n->n<1073741824->Yx b n (cf "_law_take" [b,.d (.int n)])
theorem Kj (cf:CF) (ht:qI cf){b:OV}(hb:zx b):∃ (p n:Int) (b':OV),0<=p/\p<=12/\0<=n/\n<=40/\zx b'/\runI 1 [true] [0] qC cf [b]=.ok (.d (.tuple [.int p,.int n])) [some b']:=by
 obtain⟨r1,b1,h1,h1',hb1,e1⟩:=ht b hb 8 (by decide) (by decide)
 by_cases hr:r1=0
 ·obtain⟨r2,b2,h2,h2',hb2,e2⟩:=ht b1 hb1 13 (by decide) (by decide)
  obtain⟨r3,b3,h3,h3',hb3,e3⟩:=ht b2 hb2 41 (by decide) (by decide)
  refine⟨r2,r3,b3,h2,by omega,h3,by omega,hb3,?_⟩
  simp![qC,e1,e2,e3,hr,lay,PyData.eqv,OV.view,OV.views,zt,ixN,atI]
 ·obtain⟨r2,b2,h2,h2',hb2,e2⟩:=ht b1 hb1 7 (by decide) (by decide)
  obtain⟨r3,b3,h3,h3',hb3,e3⟩:=ht b2 hb2 9 (by decide) (by decide)
  refine⟨r2,r3,b3,h2,by omega,h3,by omega,hb3,?_⟩
  simp![qC,e1,e2,e3,hr,lay,PyData.eqv,OV.view,OV.views,zt,ixN,atI]
end Wx
set_option maxHeartbeats 4000000
namespace Wx
open PySem L2 L3
theorem qQ {ds pre post:List PyData}{d:PyData}(e:ds=pre++d::post):pre.length<ds.length:=by rw[e]; simp
theorem Jh {n:Nat}{pre post:List PyData}{d:PyData}(e:zQ n=pre++d::post):d=.int pre.length/\pre.length<n:=by
 have h:(zQ n)[pre.length]?=some d:=by rw[e]; simp
 exact⟨(jT h).2,(jT h).1⟩
theorem v0 (cf:CF) (ht:qI cf){b:OV}(hb:zx b){pots way:Int}{size n:Nat}(hs:size<=1000){o4 o5 o6 o7 o8 o9:Option OV} :
  ∃ (ps:List (Int×Int)) (b':OV),ps.length=n/\zx b'/\jD 1 (.nm 0 10) fYes (b_law_lacks_1.ev cf).1 (zQ n) [] [some b,some (.d (.int pots)),some (.d (.int size)),some (.d (.int way)),o4,o5,o6,o7,o8,o9]=.ok (ps.map fun p=>.tuple [.int p.1,.int p.2],[some b',some (.d (.int pots)),some (.d (.int size)),some (.d (.int way)),o4,o5,o6,o7,o8,o9]):=by
 obtain⟨ys,Γ',e,⟨ps,b',hp,hb',rfl,rfl⟩⟩:=jo (k:=1) (t:=.nm 0 10) (cond:=fYes) (elt:=(b_law_lacks_1.ev cf).1) (ds:=zQ n) (Γ:= [some b,some (.d (.int pots)),some (.d (.int size)),some (.d (.int way)),o4,o5,o6,o7,o8,o9])
  (fun pre ys Γ=>∃ (ps:List (Int×Int)) (b':OV),ps.length=pre.length/\zx b'/\ys=ps.map (fun p=>PyData.tuple [.int p.1,.int p.2])/\Γ= [some b',some (.d (.int pots)),some (.d (.int size)),some (.d (.int way)),o4,o5,o6,o7,o8,o9]) ⟨[],b,rfl,hb,rfl,rfl⟩ (by
   rintro pre d post e ys Γ ⟨ps,b1,hp,hb1,rfl,rfl⟩
   obtain⟨r2,b2,h2,h2',hb2,e2⟩:=ht b1 hb1 (size+1) (by omega) (by omega)
   obtain⟨r3,b3,h3,h3',hb3,e3⟩:=ht b2 hb2 (size+1) (by omega) (by omega)
   refine⟨_,true,_,by simp[tgF]; rfl,rfl,fun _=>?_,fun z=>nomatch z⟩
   refine⟨.dat (.tuple [.int r2,.int r3]),[some b3,some (.d (.int pots)),some (.d (.int size)),some (.d (.int way)),o4,o5,o6,o7,o8,o9,some (.d d)],_,?_,rfl,ps++ [(r2,r3)],b3,by simp[hp],hb3,by simp,by simp⟩
   simp![b_law_lacks_1,e2,e3,OV.view,OV.views,zt,ixN,atI])
 rw[zB] at hp
 exact⟨ps,b',hp,hb',e⟩
theorem yO (cf:CF) (ht:qI cf){b:OV}(hb:zx b){pots way:Int}{size:Nat}{at_:Nat}(ps:List (Int×Int)) (hps:ps.length<=1000){o4 o5 o8 o9:Option OV} :
  ∃ (bs:List Bool) (b':OV) (o8' o9':Option OV),bs.length=ps.length/\zx b'/\qO (.tp (.cons (.nm 8 8) (.cons (.nm 9 9) .nil))) (b_law_lacks_2.ex cf [0]) (ps.map fun p=>PyData.tuple [.int p.1,.int p.2]) [some b,some (.d (.int pots)),some (.d (.int size)),some (.d (.int way)),o4,o5,some (.d (.int at_)),some (.l []),o8,o9]
   = .ok (.next,[some b',some (.d (.int pots)),some (.d (.int size)),some (.d (.int way)),o4,o5,some (.d (.int at_)),some (.l (bs.map fun x=>.d (.bool x))),o8',o9']):=by
 obtain⟨Γ',e,⟨bs,b',o8',o9',hl,hb',rfl⟩⟩:=qu (t:=.tp (.cons (.nm 8 8) (.cons (.nm 9 9) .nil))) (body:=b_law_lacks_2.ex cf [0]) (ds:=ps.map fun p=>PyData.tuple [.int p.1,.int p.2]) (Γ:= [some b,some (.d (.int pots)),some (.d (.int size)),some (.d (.int way)),o4,o5,some (.d (.int at_)),some (.l []),o8,o9])
  (fun pre Γ=>∃ (bs:List Bool) (b':OV) (o8' o9':Option OV),bs.length=pre.length/\zx b'/\Γ= [some b',some (.d (.int pots)),some (.d (.int size)),some (.d (.int way)),o4,o5,some (.d (.int at_)),some (.l (bs.map fun x=>.d (.bool x))),o8',o9']) ⟨[],b,o8,o9,rfl,hb,rfl⟩ (by
   rintro pre d post e Γ ⟨bs,b1,o8',o9',hl,hb1,rfl⟩
   have hlt:=qQ e
   rw[List.length_map] at hlt
   obtain⟨p,-,rfl⟩:∃ p∈ps,PyData.tuple [.int p.1,.int p.2]=d:=by
    have:d∈ps.map fun p=>PyData.tuple [.int p.1,.int p.2]:=by rw[e]; simp
    exact List.mem_map.mp this
   have hsz:bs.length<1000000:=by omega
   have key:∃ (x:Bool) (b2:OV),zx b2/\b_law_lacks_2.ex cf [0] [some b1,some (.d (.int pots)),some (.d (.int size)),some (.d (.int way)),o4,o5,some (.d (.int at_)),some (.l (bs.map fun x=>.d (.bool x))),some (.d (.int p.1)),some (.d (.int p.2))]
     = .ok (.next,[some b2,some (.d (.int pots)),some (.d (.int size)),some (.d (.int way)),o4,o5,some (.d (.int at_)),some (.l ((bs++ [x]).map fun x=>.d (.bool x))),some (.d (.int p.1)),some (.d (.int p.2))]):=by
    by_cases h0:way=0
    ·obtain⟨r2,b2,h2,h2',hb2,e2⟩:=ht b1 hb1 2 (by decide) (by decide)
     refine⟨r2==1,b2,hb2,?_⟩
     simp![b_law_lacks_2,h0,e2,hsz,lay,PyData.eqv,OV.view,OV.views,zt,ixN,atI]
    ·by_cases h1:way=1
     ·refine⟨decide ((if p.2<p.1 then p.2 else p.1)<=(at_:Int))&&decide ((at_:Int)<(if p.2>p.1 then p.2 else p.1)),b1,hb1,?_⟩
      by_cases h3:(if p.2<p.1 then p.2 else p.1)<=(at_:Int)
      ·simp![b_law_lacks_2,h0,h1,h3,hsz,lay,PyData.eqv,OV.view,OV.views,zt,ixN,atI]
      ·simp![b_law_lacks_2,h0,h1,h3,hsz,lay,PyData.eqv,OV.view,OV.views,zt,ixN,atI]
     ·by_cases h2:way=2
      ·refine⟨decide ((at_:Int)<p.1),b1,hb1,?_⟩
       simp![b_law_lacks_2,h0,h1,h2,hsz,lay,PyData.eqv,OV.view,OV.views,zt,ixN,atI]
      ·refine⟨!(decide ((at_:Int)<p.1)==((at_:Int)==p.2)),b1,hb1,?_⟩
       simp![b_law_lacks_2,h0,h1,h2,hsz,lay,PyData.eqv,OV.view,OV.views,zt,ixN,atI]
   obtain⟨x,b2,hb2,ek⟩:=key
   exact⟨_,_,by simp[tgF,tgFs],ek,bs++ [x],b2,_,_,by simp[hl],hb2,rfl⟩)
 refine⟨bs,b',o8',o9',by rw[hl,List.length_map],hb',e⟩
noncomputable def zw (bs:List Bool):PyData:=.list (bs.map .bool)
theorem vD (bs:List Bool):OV.views (bs.map fun x=>.d (.bool x))=bs.map .bool:=by
 rw[OV.views_map,List.map_map]; rfl
noncomputable def Vz (pots size:Nat) (x:RF):Prop:=∃ (rows:List (List Bool)) (b':OV),rows.length=size/\(∀ r∈rows,r.length=pots)/\zx b'/\x=.ok (.l (rows.map fun r=>.d (zw r))) [some b',none,none]
theorem Y6 (cf:CF) (ht:qI cf){b:OV}(hb:zx b){pots size:Nat}(hp:pots<=1000) (hs:size<=1000):Vz pots size (runI 10 [true,false,false] [0] je cf [b,.d (.int pots),.d (.int size)]):=by
 obtain⟨way,b1,h1,h1',hb1,e1⟩:=ht b hb 4 (by decide) (by decide)
 obtain⟨ps,b2,hpl,hb2,e2⟩:=v0 cf ht hb1 (pots:=pots) (way:=way) (size:=size) (n:=pots) hs (o4:=none) (o5:=none) (o6:=none) (o7:=none) (o8:=none) (o9:=none)
 obtain⟨Γ',e3,⟨rows,b3,o6,o7,o8,o9,hl,hr,hb3,rfl⟩⟩:=qu (t:=.nm 6 6) (body:=b_law_lacks_3.ex cf [0]) (ds:=zQ size) (Γ:= [some b2,some (.d (.int pots)),some (.d (.int size)),some (.d (.int way)),some (.d (.list (ps.map fun p=>.tuple [.int p.1,.int p.2]))),some (.l []),none,none,none,none])
  (fun pre Γ=>∃ (rows:List (List Bool)) (b':OV) (o6 o7 o8 o9:Option OV),rows.length=pre.length/\(∀ r∈rows,r.length=pots)/\zx b'/\Γ= [some b',some (.d (.int pots)),some (.d (.int size)),some (.d (.int way)),some (.d (.list (ps.map fun p=>.tuple [.int p.1,.int p.2]))),some (.l (rows.map fun r=>.d (zw r))),o6,o7,o8,o9]) ⟨[],b2,_,_,_,_,rfl,(fun _ h=>nomatch h),hb2,rfl⟩ (by
   rintro pre d post e Γ ⟨rows,b3,o6,o7,o8,o9,hl,hr,hb3,rfl⟩
   obtain⟨rfl,hlt⟩:=Jh e
   obtain⟨bs,b4,o8',o9',hbl,hb4,e4⟩:=yO cf ht hb3 (pots:=pots) (way:=way) (size:=size) (at_:=pre.length) ps (by omega) (o4:=some (.d (.list (ps.map fun p=>.tuple [.int p.1,.int p.2])))) (o5:=some (.l (rows.map fun r=>.d (zw r)))) (o8:=o8) (o9:=o9)
   refine⟨_,[some b4,some (.d (.int pots)),some (.d (.int size)),some (.d (.int way)),some (.d (.list (ps.map fun p=>.tuple [.int p.1,.int p.2]))),some (.l ((rows++ [bs]).map fun r=>.d (zw r))),some (.d (.int pre.length)),some (.d (zw bs)),o8',o9'],by simp[tgF]; rfl,?_,rows++ [bs],b4,_,_,_,_,by simp[hl],?_,hb4,rfl⟩
   ·have hz:rows.length<1000000:=by omega
    simp![b_law_lacks_3,OV.view,OV.views,zt,ixN,atI]
    rw[e4]
    simp![hz,vD,zw,OV.view,OV.views,zt,ixN,atI]
   ·intro r h
    rcases List.mem_append.mp h with h | h
    ·exact hr r h
    ·have:r=bs:=by simpa using h
     subst this; rw[hbl,hpl])
 rw[zB] at hl
 refine⟨rows,b3,hl,hr,hb3,?_⟩
 have hp1: -1000000<=(pots:Int)/\(pots:Int)<=1000000:=by omega
 have hs1: -1000000<=(size:Int)/\(size:Int)<=1000000:=by omega
 have hp2:pots<=1000000:=by omega
 simp![je,e1,e2,e3,hp1,hs1,hp2,zB,OV.view,OV.views,zt,ixN,atI]
theorem YY {α:Type}(f:Int->α) (xs:List Int) (a:α):(xs.map f++ [a])[xs.length]?=some a:=by
 rw[List.getElem?_append_right (by simp)]; simp
theorem Kg {α:Type}(f:Int->α) (xs:List Int) (a b:α):(xs.map f++ [a]).set xs.length b=xs.map f++ [b]:=by
 rw[List.set_append_right _ _ (by simp)]; simp
noncomputable def jb (xs:List Int):PyData:=.tuple (xs.map .int)
noncomputable def ja (st:List Int) (w:Bool) (wi:List Int):PyData:=.tuple [jb st,.bool w,jb wi]
noncomputable def In9 (xs:List Int):Prop:=∀ x∈xs,0<=x/\x<=9
structure ZA (pots:Nat) (st wi:List Int):Prop where
 sl:st.length=pots
 wl:wi.length=pots
 sn:In9 st
 wn:In9 wi
theorem In9.snoc {xs:List Int}{x:Int}(h:In9 xs) (h1:0<=x) (h2:x<=9):In9 (xs++ [x]):=by
 intro y hy
 rcases List.mem_append.mp hy with hy | hy
 ·exact h y hy
 ·have:y=x:=by simpa using hy
  subst this; exact⟨h1,h2⟩
theorem ZW (xs:List Int):leaves (xs.map fun x=>.d (.int x))=some (xs.map .int):=by
 induction xs with
 | nil=>rfl
 | cons x xs ih=>simp[leaves,ih]
noncomputable def Yu (pots:Nat) (x:RF):Prop:=∃ (st wi:List Int) (w:Bool) (b':OV),ZA pots st wi/\zx b'/\x=.ok (.d (ja st w wi)) [some b',none,none,none]
theorem yE (cf:CF) (ht:qI cf){b:OV}(hb:zx b) (bs:List Bool) (hl:bs.length<=1000){loose wet:Int}(h0:0<=loose) (h1:loose<=1000) :
  ∃ (st wi:List Int) (b':OV) (o6 o7:Option OV),ZA bs.length st wi/\zx b'/\qO (.nm 6 6) (b_law_cell_1.ex cf [0]) (bs.map .bool) [some b,some (.d (zw bs)),some (.d (.int loose)),some (.d (.int wet)),some (.l []),some (.l []),none,none]
   = .ok (.next,[some b',some (.d (zw bs)),some (.d (.int loose)),some (.d (.int wet)),some (.l (st.map fun x=>.d (.int x))),some (.l (wi.map fun x=>.d (.int x))),o6,o7]):=by
 obtain⟨Γ',e,⟨st,wi,b',o6,o7,hc,hb',rfl⟩⟩:=qu (t:=.nm 6 6) (body:=b_law_cell_1.ex cf [0]) (ds:=bs.map .bool) (Γ:= [some b,some (.d (zw bs)),some (.d (.int loose)),some (.d (.int wet)),some (.l []),some (.l []),none,none])
  (fun pre Γ=>∃ (st wi:List Int) (b':OV) (o6 o7:Option OV),ZA pre.length st wi/\zx b'/\Γ= [some b',some (.d (zw bs)),some (.d (.int loose)),some (.d (.int wet)),some (.l (st.map fun x=>.d (.int x))),some (.l (wi.map fun x=>.d (.int x))),o6,o7]) ⟨[],[],b,_,_,⟨rfl,rfl,(fun _ h=>nomatch h),(fun _ h=>nomatch h)⟩,hb,rfl⟩ (by
   rintro pre d post e Γ ⟨st,wi,b1,o6,o7,hc,hb1,rfl⟩
   have hlt:=qQ e
   rw[List.length_map] at hlt
   obtain⟨x,-,rfl⟩:∃ x∈bs,PyData.bool x=d:=by
    have:d∈bs.map PyData.bool:=by rw[e]; simp
    exact List.mem_map.mp this
   have hz1:st.length<1000000:=by have:=hc.sl; omega
   have hz2:wi.length<1000000:=by have:=hc.wl; omega
   have hn1:¬ ((st.length:Int)+1<=0):=by omega
   have key:∃ (s1 w1:Int) (b2:OV) (o7':Option OV),0<=s1/\s1<=9/\0<=w1/\w1<=9/\zx b2/\b_law_cell_1.ex cf [0] [some b1,some (.d (zw bs)),some (.d (.int loose)),some (.d (.int wet)),some (.l (st.map fun x=>.d (.int x))),some (.l (wi.map fun x=>.d (.int x))),some (.d (.bool x)),o7]
     = .ok (.next,[some b2,some (.d (zw bs)),some (.d (.int loose)),some (.d (.int wet)),some (.l ((st++ [s1]).map fun x=>.d (.int x))),some (.l ((wi++ [w1]).map fun x=>.d (.int x))),some (.d (.bool x)),o7']):=by
    obtain⟨r2,b2,h2,h2',hb2,e2⟩:=ht b1 hb1 9 (by decide) (by decide)
    have hw:0<=r2+(if x then 1 else 0)/\r2+(if x then 1 else 0)<=9:=by split <;> omega
    by_cases hlo:0<loose
    ·obtain⟨r3,b3,h3,h3',hb3,e3⟩:=ht b2 hb2 loose (by omega) (by omega)
     by_cases hr:r3=0
     ·obtain⟨r4,b4,h4,h4',hb4,e4⟩:=ht b3 hb3 10 (by decide) (by decide)
      obtain⟨r5,b5,h5,h5',hb5,e5⟩:=ht b4 hb4 10 (by decide) (by decide)
      refine⟨r4,r5,b5,some (.d (.int r2)),h4,by omega,h5,by omega,hb5,?_⟩
      have a1:(1:Int)<=st.length+1:=by omega
      have a2:(1:Int)<=wi.length+1:=by omega
      have t1:(-1+((st.length:Int)+1)).toNat=st.length:=by omega
      have t2:(-1+((wi.length:Int)+1)).toNat=wi.length:=by omega
      simp![b_law_cell_1,e2,e3,e4,e5,hr,hlo,hz1,hz2,a1,a2,t1,t2,YY,Kg,lay,PyData.eqv,OV.view,OV.views,zt,ixN,atI]
     ·refine⟨r2,r2+(if x then 1 else 0),b3,some (.d (.int r2)),h2,by omega,hw.1,hw.2,hb3,?_⟩
      simp![b_law_cell_1,e2,e3,hr,hlo,hz1,hz2,lay,PyData.eqv,OV.view,OV.views,zt,ixN,atI]
    ·refine⟨r2,r2+(if x then 1 else 0),b2,some (.d (.int r2)),h2,by omega,hw.1,hw.2,hb2,?_⟩
     simp![b_law_cell_1,e2,hlo,hz1,hz2,lay,PyData.eqv,OV.view,OV.views,zt,ixN,atI]
   obtain⟨s1,w1,b2,o7',q1,q2,q3,q4,hb2,ek⟩:=key
   exact⟨_,_,by simp[tgF],ek,st++ [s1],wi++ [w1],b2,_,_,⟨by simp[hc.sl],by simp[hc.wl],hc.sn.snoc q1 q2,hc.wn.snoc q3 q4⟩,hb2,rfl⟩)
 rw[List.length_map] at hc
 exact⟨st,wi,b',o6,o7,hc,hb',e⟩
theorem zag (cf:CF) (ht:qI cf){b:OV}(hb:zx b) (bs:List Bool) (hl:bs.length<=1000){loose wet:Int}(h0:0<=loose) (h1:loose<=1000):Yu bs.length (runI 8 [true,false,false,false] [0] qT cf [b,.d (zw bs),.d (.int loose),.d (.int wet)]):=by
 obtain⟨st,wi,b1,o6,o7,hc,hb1,e1⟩:=yE cf ht hb bs hl (wet:=wet) h0 h1
 have hz1:st.length<=1000000:=by have:=hc.sl; omega
 have hz2:wi.length<=1000000:=by have:=hc.wl; omega
 by_cases hw:0<wet
 ·obtain⟨r2,b2,h2,h2',hb2,e2⟩:=ht b1 hb1 5 (by decide) (by decide)
  refine⟨st,wi,decide (r2<wet),b2,hc,hb2,?_⟩
  simp![qT,zw,OV.view,OV.views,zt,ixN,atI]
  simp only[zw] at e1
  simp![e1,e2,hw,hz1,hz2,ZW,ja,jb,OV.view,OV.views,zt,ixN,atI]
 ·refine⟨st,wi,false,b1,hc,hb1,?_⟩
  simp![qT,zw,OV.view,OV.views,zt,ixN,atI]
  simp only[zw] at e1
  simp![e1,hw,hz1,hz2,ZW,ja,jb,OV.view,OV.views,zt,ixN,atI]
noncomputable def Vw (cf:CF):Prop:=∀ b,zx b->∀ (bs:List Bool) (loose wet:Int),bs.length<=1000->0<=loose->loose<=1000->Yu bs.length (cf "_law_cell" [b,.d (zw bs),.d (.int loose),.d (.int wet)])
noncomputable def VA (cf:CF):Prop:=∀ b,zx b->∀ (pots size:Nat),pots<=1000->size<=1000->Vz pots size (cf "_law_lacks" [b,.d (.int pots),.d (.int size)])
structure Cl where
 st:List Int
 w:Bool
 wi:List Int
noncomputable def Cl.D (c:Cl):PyData:=ja c.st c.w c.wi
noncomputable def Yt (pots size:Nat) (x:RF):Prop:=∃ (cs:List Cl) (b':OV),cs.length=size/\(∀ c∈cs,ZA pots c.st c.wi)/\zx b'/\x=.ok (.l (cs.map fun c=>.d c.D)) [some b',none,none,none]
theorem zab (cf:CF) (ht:qI cf) (hlk:VA cf) (hce:Vw cf){b:OV}(hb:zx b){pots size:Nat}(hp:pots<=1000) (hs:size<=1000){loose:Int}(h0:0<=loose) (h1:loose<=1000) :
  Yt pots size (runI 6 [true,false,false,false] [0] jG cf [b,.d (.int pots),.d (.int size),.d (.int loose)]):=by
 obtain⟨wet,b1,g1,g1',hb1,e1⟩:=ht b hb 4 (by decide) (by decide)
 obtain⟨rows,b2,hl,hr,hb2,e2⟩:=hlk b1 hb1 pots size hp hs
 obtain⟨ys,Γ',e3,⟨cs,b3,hcl,hck,hb3,rfl,rfl⟩⟩:=jo (k:=1) (t:=.nm 0 6) (cond:=fYes) (elt:=(b_law_bolt_1.ev cf).1) (ds:=rows.map zw) (Γ:= [some b2,some (.d (.int pots)),some (.d (.int size)),some (.d (.int loose)),some (.d (.int wet)),some (.d (.list (rows.map zw)))])
  (fun pre ys Γ=>∃ (cs:List Cl) (b':OV),cs.length=pre.length/\(∀ c∈cs,ZA pots c.st c.wi)/\zx b'/\ys=cs.map Cl.D/\Γ= [some b',some (.d (.int pots)),some (.d (.int size)),some (.d (.int loose)),some (.d (.int wet)),some (.d (.list (rows.map zw)))]) ⟨[],b2,rfl,(fun _ h=>nomatch h),hb2,rfl,rfl⟩ (by
   rintro pre d post e ys Γ ⟨cs,b3,hcl,hck,hb3,rfl,rfl⟩
   obtain⟨r,hrm,rfl⟩:∃ r∈rows,zw r=d:=by
    have:d∈rows.map zw:=by rw[e]; simp
    exact List.mem_map.mp this
   have hrl:=hr r hrm
   obtain⟨st,wi,w,b4,hc,hb4,e4⟩:=hce b3 hb3 r loose wet (by omega) h0 h1
   rw[hrl] at hc
   refine⟨_,true,_,by simp[tgF]; rfl,rfl,fun _=>?_,fun z=>nomatch z⟩
   refine⟨.dat (ja st w wi),[some b4,some (.d (.int pots)),some (.d (.int size)),some (.d (.int loose)),some (.d (.int wet)),some (.d (.list (rows.map zw))),some (.d (zw r))],ja st w wi,?_,rfl,cs++ [⟨st,w,wi⟩],b4,by simp[hcl],?_,hb4,by simp[Cl.D],by simp⟩
   ·simp![b_law_bolt_1,e4,OV.view,OV.views,zt,ixN,atI]
   ·intro c h
    rcases List.mem_append.mp h with h | h
    ·exact hck c h
    ·have:c=⟨st,w,wi⟩:=by simpa using h
     subst this; exact hc)
 rw[List.length_map] at hcl
 refine⟨cs,b3,by omega,hck,hb3,?_⟩
 have hz:rows.length<=1000000:=by omega
 have hv:OV.views (rows.map fun r=>.d (zw r))=rows.map zw:=by rw[OV.views_map,List.map_map]; rfl
 simp![jG,e1,e2,hv,hz,OV.view,OV.views,zt,ixN,atI]
 rw[e3]
 simp[outs]
end Wx
set_option maxHeartbeats 4000000
namespace Wx
open PySem L2 L3
theorem zm (n:Nat) (i:Int):lay n (.int i)=true:=by cases n <;> rfl
theorem Y9 (n:Nat) (i:Bool):lay n (.bool i)=true:=by cases n <;> rfl
theorem WX (n:Nat):lay n .none=true:=by cases n <;> rfl
theorem WV {n:Nat}{xs:List PyData}(h:∀ x∈xs,lay n x=true):lay (n+1) (.list xs)=true:=by rw[lay]; exact List.all_eq_true.mpr h
theorem Z7 {n:Nat}{xs:List PyData}(h:∀ x∈xs,lay n x=true):lay (n+1) (.tuple xs)=true:=by rw[lay]; exact List.all_eq_true.mpr h
theorem WW (n:Nat) (xs:List Nat):lay (n+1) (.list (xs.map fun (i:Nat)=>.int (i:Int)))=true:=WV fun x h=>by
 obtain⟨i,_,rfl⟩:=List.mem_map.mp h
 exact zm _ _
theorem ke (n:Nat) (c:Cl):lay (n+2) c.D=true:=Z7 fun x h=>by
 have:x=jb c.st∨x=.bool c.w∨x=jb c.wi:=by simpa using h
 rcases this with rfl | rfl | rfl
 ·exact Z7 fun x h=>by obtain⟨i,_,rfl⟩:=List.mem_map.mp h; exact zm _ _
 ·exact Y9 _ _
 ·exact Z7 fun x h=>by obtain⟨i,_,rfl⟩:=List.mem_map.mp h; exact zm _ _
theorem Y8 (n:Nat) (cs:List Cl):lay (n+3) (.list (cs.map Cl.D))=true:=WV fun x h=>by
 obtain⟨c,_,rfl⟩:=List.mem_map.mp h
 exact ke _ _
theorem VM {n:Nat}{d:PyData}(h:lay n d=true):PyData.eqv d d=true:=PySem.SeqAt.eqv_refl d (zI n d h).1
theorem zA (i j:Int):PyData.eqv (.int i) (.int j)=(i==j):=rfl
noncomputable def lk (cs:List Cl) (d i:Nat):Bool:=match cs[i]? with
 | some c=>decide (c.st.getD d 0<c.wi.getD d 0)
 | none=>false
noncomputable def zd (cs:List Cl) (d:Nat):List Nat:=(List.range cs.length).filter (lk cs d)
noncomputable def zc (xs:List Nat):List PyData:=xs.map fun (i:Nat)=>.int (i:Int)
noncomputable def zS (xs:List Nat):OV:=.l (xs.map fun (i:Nat)=>.d (.int (i:Int)))
noncomputable def zj (cs:List Cl):PyData:=.list (cs.map Cl.D)
noncomputable def qS (pots:Nat) (cs:List Cl):Prop:=cs.length<=1000/\∀ c∈cs,ZA pots c.st c.wi
theorem Z5 {xs:List Int}{d:Nat}(h:d<xs.length):atI (xs.map PyData.int) (d:Int)=some (.int (xs.getD d 0)):=by
 have e:(xs.map PyData.int)[d]?=some (.int (xs.getD d 0)):=by rw[List.getElem?_map,List.getElem?_eq_getElem h,List.getD_eq_getElem?_getD,List.getElem?_eq_getElem h]; rfl
 unfold atI ixN
 rw[if_pos (by omega),if_pos (by rw[List.length_map]; omega)]
 simpa using e
theorem zdU {α:Type}(a b c:α):atI [a,b,c] 0=some a:=rfl
theorem YC {α:Type}(a b c:α):atI [a,b,c] 1=some b:=rfl
theorem zdV {α:Type}(a b c:α):atI [a,b,c] 2=some c:=rfl
theorem J9 (xs:List Nat):(xs.map fun (i:Nat)=>PyData.int (i:Int)).map OV.d=xs.map fun (i:Nat)=>OV.d (.int (i:Int)):=by rw[List.map_map]; rfl
theorem zak {xs pre post:List PyData}{d:PyData}(e:ZT xs=pre++d::post):∃ x,xs[pre.length]?=some x/\d=.tuple [.int pre.length,x]:=J1 (by rw[e]; simp)
theorem vZ (cf:CF){pots:Nat}{cs:List Cl}(hb:qS pots cs){d:Nat}(hd:d<pots):runI 2 [false,false] [] ZJ cf [.d (zj cs),.d (.int d)]=.ok (zS (zd cs d)) [none,none]:=by
 obtain⟨ys,Γ',e,rfl,rfl⟩:=jo (k:=4) (t:=.tp (.cons (.nm 0 2) (.cons (.tp (.cons (.nm 1 3) (.cons (.nm 2 4) (.cons (.nm 3 5) .nil)))) .nil))) (cond:=p_lacking_1.ev cf) (elt:=(p_lacking_2.ev cf).1) (ds:=ZT (cs.map Cl.D)) (Γ:= [some (.d (zj cs)),some (.d (.int d))])
  (fun pre ys Γ=>ys=((List.range pre.length).filter (lk cs d)).map (fun (i:Nat)=>PyData.int (i:Int))/\Γ= [some (.d (zj cs)),some (.d (.int d))]) ⟨rfl,rfl⟩ (by
   rintro pre x post e ys Γ ⟨rfl,rfl⟩
   obtain⟨y,hy,rfl⟩:=zak e
   rw[List.getElem?_map] at hy
   cases hc:cs[pre.length]? with
   | none=>rw[hc] at hy; cases hy
   | some c=>
    rw[hc] at hy
    have:y=c.D:=by simpa using hy.symm
    subst this
    have ok:=hb.2 c (List.mem_of_getElem? hc)
    have a1:=Z5 (xs:=c.st) (d:=d) (by rw[ok.sl]; exact hd)
    have a2:=Z5 (xs:=c.wi) (d:=d) (by rw[ok.wl]; exact hd)
    have hlk:lk cs d pre.length=decide (c.st.getD d 0<c.wi.getD d 0):=by unfold lk; rw[hc]
    refine⟨_,lk cs d pre.length,[some (.d (zj cs)),some (.d (.int d)),some (.d (.int pre.length)),some (.d (jb c.st)),some (.d (.bool c.w)),some (.d (jb c.wi))],by simp[tgF,tgFs,Cl.D,ja]; rfl,?_,fun h=>⟨.dat (.int pre.length),[some (.d (zj cs)),some (.d (.int d)),some (.d (.int pre.length)),some (.d (jb c.st)),some (.d (.bool c.w)),some (.d (jb c.wi))],.int pre.length,by simp![p_lacking_2,OV.view,OV.views,zt,ixN,atI],rfl,?_,by simp⟩,fun h=>⟨?_,by simp⟩⟩
    ·rw[hlk]; simp![p_lacking_1,jb,a1,a2,OV.view,OV.views,zt]
    ·simp[List.range_succ,List.filter_append,h]
    ·simp[List.range_succ,List.filter_append,h])
 have hz:cs.length<=1000000:=by have:=hb.1; omega
 simp only[ZD,List.length_map] at e
 simp![ZJ,zj,hz,ZD,OV.view,OV.views,zt,ixN,atI]
 simp only[zj] at e
 rw[e]
 simp[zS,zd,J9,outs]
theorem zas (cf:CF){pots:Nat}{cs:List Cl}(hb:qS pots cs){d:Nat}(hd:d<pots):runI 2 [false,false] [] jH cf [.d (zj cs),.d (.int d)]=.ok (zS (zd cs d)) [none,none]:=by
 obtain⟨ys,Γ',e,rfl,rfl⟩:=jo (k:=1) (t:=.nm 0 2) (cond:=b_law_lack_1.ev cf) (elt:=(b_law_lack_2.ev cf).1) (ds:=zQ cs.length) (Γ:= [some (.d (zj cs)),some (.d (.int d))])
  (fun pre ys Γ=>ys=((List.range pre.length).filter (lk cs d)).map (fun (i:Nat)=>PyData.int (i:Int))/\Γ= [some (.d (zj cs)),some (.d (.int d))]) ⟨rfl,rfl⟩ (by
   rintro pre x post e ys Γ ⟨rfl,rfl⟩
   obtain⟨rfl,hlt⟩:=Jh e
   have hc:cs[pre.length]?=some cs[pre.length]:=List.getElem?_eq_getElem hlt
   generalize cs[pre.length]=c at hc
   have ok:=hb.2 c (List.mem_of_getElem? hc)
   have a1:=Z5 (xs:=c.st) (d:=d) (by rw[ok.sl]; exact hd)
   have a2:=Z5 (xs:=c.wi) (d:=d) (by rw[ok.wl]; exact hd)
   have a0:atI (cs.map Cl.D) (pre.length:Int)=some c.D:=jZ (by rw[List.getElem?_map,hc]; rfl)
   have hlk:lk cs d pre.length=decide (c.st.getD d 0<c.wi.getD d 0):=by unfold lk; rw[hc]
   refine⟨_,lk cs d pre.length,[some (.d (zj cs)),some (.d (.int d)),some (.d (.int pre.length))],by simp[tgF]; rfl,?_,fun h=>⟨.dat (.int pre.length),[some (.d (zj cs)),some (.d (.int d)),some (.d (.int pre.length))],.int pre.length,by simp![b_law_lack_2,OV.view,OV.views,zt,ixN,atI],rfl,?_,by simp⟩,fun h=>⟨?_,by simp⟩⟩
   ·rw[hlk]; simp![b_law_lack_1,zj,a0,OV.view,OV.views,zt,zdU,zdV,Cl.D,ja,jb,a1,a2]
   ·simp[List.range_succ,List.filter_append,h]
   ·simp[List.range_succ,List.filter_append,h])
 have hz:cs.length<=1000000:=by have:=hb.1; omega
 have hz1: -1000000<=(cs.length:Int)/\(cs.length:Int)<=1000000:=by omega
 simp only[zB] at e
 simp![jH,zj,hz,hz1,zB,OV.view,OV.views,zt,ixN,atI]
 simp only[zj] at e
 rw[e]
 simp[zS,zd,J9,outs]
noncomputable def qg (x:Str) (cf:CF):Prop:=∀ (pots:Nat) (cs:List Cl),qS pots cs->∀ d:Nat,d<pots->cf x [.d (zj cs),.d (.int d)]=.ok (zS (zd cs d)) [none,none]
noncomputable def jc (cs:List Cl) (pots:Nat):List Nat:=(List.range pots).filter fun d=> !(zd cs d).isEmpty
theorem zy (xs:List Nat):(zS xs).view=.list (zc xs):=by
 unfold zS zc
 rw[OV.view,OV.views_map,List.map_map]; rfl
theorem ZY (xs:List Nat):(zc xs).isEmpty=xs.isEmpty:=by cases xs <;> rfl
theorem zo (xs:List Nat):(zc xs).length=xs.length:=by simp[zc]
theorem zau (cf:CF) (hl:qg "_law_lack" cf){pots:Nat}(hp:pots<=1000){cs:List Cl}(hb:qS pots cs):runI 2 [false,false] [] jI cf [.d (zj cs),.d (.int pots)]=.ok (zS (jc cs pots)) [none,none]:=by
 have e:=zX (k:=1) (t:=.nm 0 2) (cond:=b_law_need_1.ev cf) (elt:=(b_law_need_2.ev cf).1) (ds:=zQ pots) (Γ:= [some (.d (zj cs)),some (.d (.int pots))])
   (fun x=>match x with | .int i=> !(zd cs i.toNat).isEmpty | _=>false) id (by
    intro x hx
    obtain⟨i,hi,rfl⟩:∃ i,i<pots/\x=.int (i:Nat):=by
     obtain⟨i,hi,rfl⟩:=List.mem_map.mp hx
     exact⟨i,by simpa using hi,rfl⟩
    have el:=hl pots cs hb i hi
    refine⟨_,[some (.d (zj cs)),some (.d (.int pots)),some (.d (.int i))],by simp[tgF]; rfl,?_,by simp,fun _=>⟨.dat (.int i),[some (.d (zj cs)),some (.d (.int pots)),some (.d (.int i))],by simp![b_law_need_2,OV.view,OV.views,zt,ixN,atI],rfl,by simp⟩⟩
    have hem:decide (0<((zd cs i).length:Int))= !(zd cs i).isEmpty:=by
     cases zd cs i with
     | nil=>rfl
     | cons a l=>simp
    simp only[Int.toNat_natCast,<- hem]
    simp![b_law_need_1,el,zt,ixN,atI,zy,zo])
 have hz1: -1000000<=(pots:Int)/\(pots:Int)<=1000000:=by omega
 have hz:pots<=1000000:=by omega
 have ef:(zQ pots).filter (fun x=>match x with | .int i=> !(zd cs i.toNat).isEmpty | _=>false)=zc (jc cs pots):=by
  unfold zQ jc zc
  rw[List.filter_map]
  rfl
 rw[ef,List.map_id] at e
 simp only[zj] at e
 simp![jI,zj,hz1,hz,zB,OV.view,OV.views,zt,ixN,atI]
 rw[e]
 simp[zS,zc,outs]
theorem ZE {α:Type}(l:List α):l.filter (fun _=>true)=l:=List.filter_eq_self.mpr fun _ _=>rfl
theorem KU (cf:CF) (i:Int):runI 1 [false] [] jg cf [.d (.int i)]=.ok (.d (.bool true)) [none]:=by
 simp![jg,OV.view,OV.views,zt,ixN,atI]
noncomputable def VG (cf:CF):Prop:=∀ i:Int,cf "_law_whole" [.d (.int i)]=.ok (.d (.bool true)) [none]
theorem Yp (cf:CF) (hw:VG cf){xs:List Nat}(hl:xs.length<=1000):runI 1 [false] [] qU cf [.d (.list (zc xs))]=.ok (.d (.bool true)) [none]:=by
 have e:=zX (k:=1) (t:=.nm 0 1) (cond:=fYes) (elt:=(b_law_wholes_1.ev cf).1) (ds:=zc xs) (Γ:= [some (.d (.list (zc xs)))]) (fun _=>true) (fun _=>.bool true) (by
  intro x hx
  obtain⟨i,_,rfl⟩:=List.mem_map.mp hx
  refine⟨_,_,by simp[tgF]; rfl,rfl,by simp,fun _=>⟨.dat (.bool true),[some (.d (.list (zc xs))),some (.d (.int i))],?_,rfl,by simp⟩⟩
  simp![b_law_wholes_1,hw (i:Int),OV.view,OV.views,zt,ixN,atI])
 have hz:xs.length<=1000000:=by omega
 have hb:z8 (List.map (fun _=>PyData.bool true) (List.filter (fun _=>true) (zc xs)))=some ((zc xs).map fun _=>true):=by
  rw[ZE,<- ji,List.map_map]; rfl
 have ha:((zc xs).map fun _=>true).all id=true:=by simp
 simp![qU,zo,hz,OV.view,OV.views,zt,ixN,atI]
 rw[e]
 simp only[Option.bind_some,gAll,hb,Option.map_some,ha,outs]; rfl
noncomputable def VE (cf:CF):Prop:=∀ b,zx b->∃ (p n:Int) (b':OV),0<=p/\p<=12/\0<=n/\n<=40/\zx b'/\cf "_law_sizes" [b]=.ok (.d (.tuple [.int p,.int n])) [some b']
noncomputable def Vv (cf:CF):Prop:=∀ b,zx b->∀ (pots size:Nat) (loose:Int),pots<=1000->size<=1000->0<=loose->loose<=1000->Yt pots size (cf "_law_bolt" [b,.d (.int pots),.d (.int size),.d (.int loose)])
noncomputable def Wl (cf:CF):Prop:=∀ xs:List Nat,xs.length<=1000->cf "_law_wholes" [.d (.list (zc xs))]=.ok (.d (.bool true)) [none]
theorem vE (cs:List Cl):OV.view (.l (cs.map fun c=>.d c.D))=zj cs:=by
 rw[OV.view,OV.views_map,List.map_map]; rfl
end Wx
set_option maxHeartbeats 4000000
namespace Wx
open PySem L2 L3
theorem ZU:∀ xs ys:List Nat,PyData.eqvAll (zc xs) (zc ys)=decide (xs=ys)
 | [],[]=>rfl
 | [],y::ys=>by simp[zc,PyData.eqvAll]
 | x::xs,[]=>by simp[zc,PyData.eqvAll]
 | x::xs,y::ys=>by
  have ih:=ZU xs ys
  unfold zc at ih |-
  rw[List.map_cons,List.map_cons,PyData.eqvAll,zA,ih]
  by_cases h:x=y
  ·subst h; simp
  ·have:((x:Int)==(y:Int))=false:=by simp; omega
   simp[this,h]
theorem WH (xs ys:List Nat):PyData.eqv (.list (zc xs)) (.list (zc ys))=decide (xs=ys):=by
 rw[PyData.eqv]; exact ZU xs ys
theorem WO (xs:List Nat):zO (zc xs)=some (xs.map fun (i:Nat)=>(i:Int)):=by
 have:=vX (xs.map fun (i:Nat)=>(i:Int))
 rw[List.map_map] at this
 exact this
noncomputable def ki (a b:Nat) (xs ys:List Nat):Bool:=if xs=ys then decide (b<a) else xs.all fun x=>ys.contains x
noncomputable def qK (cs:List Cl) (i:Nat):Bool:=match cs[i]? with
 | some c=>c.w
 | none=>false
theorem Vt {cs:List Cl}{i:Nat}(h:i<cs.length):atI (cs.map Cl.D) (i:Int)=some (ja cs[i].st (qK cs i) cs[i].wi):=by
 refine jZ ?_
 rw[List.getElem?_map,List.getElem?_eq_getElem h]
 unfold qK
 rw[List.getElem?_eq_getElem h]; rfl
theorem Q9 {cs:List Cl}{d i:Nat}(h:i∈zd cs d):i<cs.length:=List.mem_range.mp (List.mem_filter.mp h).1
theorem qE (xs:List Nat) (q:Nat->Bool):(zc xs).filter (fun x=>match x with | .int i=>q i.toNat | _=>false)=zc (xs.filter q):=by
 unfold zc
 rw[List.filter_map]; rfl
theorem zdJ (cf:CF) (hl:qg "lacking" cf){pots:Nat}{cs:List Cl}(hb:qS pots cs){d:Nat}(hd:d<pots):runI 2 [false,false] [] zP cf [.d (zj cs),.d (.int d)]=.ok (zS ((zd cs d).filter (qK cs))) [none,none]:=by
 have el:=hl pots cs hb d hd
 have e:=zX (k:=1) (t:=.nm 0 2) (cond:=p_lacking_under_wax_1.ev cf) (elt:=(p_lacking_under_wax_2.ev cf).1) (ds:=zc (zd cs d)) (Γ:= [some (.d (zj cs)),some (.d (.int d))])
  (fun x=>match x with | .int i=>qK cs i.toNat | _=>false) id (by
   intro x hx
   obtain⟨i,hi,rfl⟩:=List.mem_map.mp hx
   have hw:=Vt (Q9 hi)
   refine⟨_,[some (.d (zj cs)),some (.d (.int d)),some (.d (.int i))],by simp[tgF]; rfl,?_,by simp,fun _=>⟨.dat (.int i),[some (.d (zj cs)),some (.d (.int d)),some (.d (.int i))],by simp![p_lacking_under_wax_2,OV.view,OV.views,zt,ixN,atI],rfl,by simp⟩⟩
   simp![p_lacking_under_wax_1,zj,hw,OV.view,OV.views,zt,ja,YC])
 rw[qE,List.map_id] at e
 have hz:(zd cs d).length<=1000000:=by
  have h1:=List.length_filter_le (lk cs d) (List.range cs.length)
  rw[List.length_range] at h1
  have:=hb.1
  unfold zd; omega
 simp![zP,el,zy,zo,hz,zt,ixN,atI]
 rw[e]
 simp[zS,zc,outs]
noncomputable def ub (cs:List Cl) (a b:Nat):Bool:=if a=b∨a=12 then false else if b=12 then !(zd cs a).any (qK cs) else ki a b (zd cs a) (zd cs b)
theorem Zo (cs:List Cl) (d:Nat):(zd cs d).length<=cs.length:=by
 have:=List.length_filter_le (lk cs d) (List.range cs.length)
 rw[List.length_range] at this; exact this
noncomputable def zbC (cf:CF):Prop:=∀ (pots:Nat) (cs:List Cl),qS pots cs->∀ d:Nat,d<pots->cf "lacking_under_wax" [.d (zj cs),.d (.int d)]=.ok (zS ((zd cs d).filter (qK cs))) [none,none]
noncomputable def Mem (pots a:Nat):Prop:=a<pots∨a=12
theorem vU (xs:List Nat) (q:Nat->Bool):(!(zc (xs.filter q)).isEmpty)=xs.any q:=by
 rw[ZY]
 induction xs with
 | nil=>rfl
 | cons x xs ih=>
  rw[List.filter_cons,List.any_cons]
  cases q x with
  | true=>simp
  | false=>simpa using ih
theorem wR (xs:List Nat) (i:Nat):inD (.int (i:Int)) (zc xs)=xs.contains i:=by
 unfold inD zc
 rw[List.any_map,Bool.eq_iff_iff,List.any_eq_true]
 constructor
 ·rintro⟨x,hx,e⟩
  have e2:((x:Int)==(i:Int))=true:=e
  have e3:(x:Int)=(i:Int):=by simpa using e2
  have:x=i:=by omega
  subst this; simpa using hx
 ·intro h
  refine⟨i,by simpa using h,?_⟩
  show ((i:Int)==(i:Int))=true
  simp
theorem wz (xs:List Nat):(zc xs).all (lay 20)=true:=by
 rw[List.all_eq_true]
 intro x hx
 obtain⟨i,_,rfl⟩:=List.mem_map.mp hx
 exact zm _ _
theorem KG (cf:CF) (hl:qg "_law_lack" cf){pots:Nat}(hp:pots<=12){cs:List Cl}(hb:qS pots cs){a b:Nat}(ha:Mem pots a) (hbm:Mem pots b) :
  runI 5 [false,false,false] [] zH cf [.d (zj cs),.d (.int a),.d (.int b)]=.ok (.d (.bool (ub cs a b))) [none,none,none]:=by
 by_cases h0:a=b
 ·subst h0
  simp![zH,ub,zm,zA,OV.view,OV.views,zt,ixN,atI]
 ·have n0:((a:Int)==(b:Int))=false:=by simp; omega
  by_cases h1:a=12
  ·subst h1
   simp![zH,ub,n0,zm,zA,OV.view,OV.views,zt,ixN,atI]
  ·have ha':a<pots:=ha.resolve_right h1
   have n1:((a:Int)==12)=false:=by simp; omega
   have e1:=hl pots cs hb a ha'
   have v1:=zy (zd cs a)
   have hz:(zd cs a).length<=1000000:=by have:=Zo cs a; have:=hb.1; omega
   simp only[zS] at e1 v1
   by_cases h2:b=12
   ·subst h2
    have e:=zX (k:=1) (t:=.nm 0 5) (cond:=fYes) (elt:=(b_law_under_1.ev cf).1) (ds:=zc (zd cs a)) (Γ:= [some (.d (zj cs)),some (.d (.int a)),some (.d (.int 12)),some (.d (.list (zc (zd cs a)))),none])
     (fun _=>true) (fun x=>match x with | .int i=>.bool (qK cs i.toNat) | _=>.none) (by
      intro x hx
      obtain⟨i,hi,rfl⟩:=List.mem_map.mp hx
      have hw:=Vt (Q9 hi)
      refine⟨_,_,by simp[tgF]; rfl,rfl,by simp,fun _=>⟨.dat (.bool (qK cs i)),[some (.d (zj cs)),some (.d (.int a)),some (.d (.int 12)),some (.d (.list (zc (zd cs a)))),none,some (.d (.int i))],?_,rfl,by simp⟩⟩
      simp![b_law_under_1,zj,hw,OV.view,OV.views,zt,ja,YC])
    have em:((zc (zd cs a)).filter fun _=>true).map (fun x=>match x with | .int i=>PyData.bool (qK cs i.toNat) | _=>.none)=((zd cs a).map (qK cs)).map .bool:=by
     rw[ZE]; unfold zc; rw[List.map_map,List.map_map]; rfl
    rw[em] at e
    have hba:=ji ((zd cs a).map (qK cs))
    have hany:((zd cs a).map (qK cs)).any id=(zd cs a).any (qK cs):=by rw[List.any_map]; rfl
    simp![zH,ub,h1,n0,n1,zm,zA,e1,v1,zo,hz,zt,ixN,atI]
    rw[e]
    simp only[Option.bind_some,gAny,hba,Option.map_some,hany,truD,outs]
    rfl
   ·have hb':b<pots:=hbm.resolve_right h2
    have n2:((b:Int)==12)=false:=by simp; omega
    have e2:=hl pots cs hb b hb'
    have v2:=zy (zd cs b)
    have l1:lay 20 (.list (zc (zd cs a)))=true:=WW 19 _
    have l2:lay 20 (.list (zc (zd cs b)))=true:=WW 19 _
    simp only[zS] at e2 v2
    by_cases he:zd cs a=zd cs b
    ·have hu:ub cs a b=decide (b<a):=by unfold ub ki; simp[h0,h1,h2,he]
     have v1':=v1
     rw[he] at e1 v1'
     simp![zH,hu,n0,n1,n2,zm,zA,e1,e2,v2,l2,WH,zt,ixN,atI]
    ·have e:=zX (k:=1) (t:=.nm 0 5) (cond:=fYes) (elt:=(b_law_under_2.ev cf).1) (ds:=zc (zd cs a)) (Γ:= [some (.d (zj cs)),some (.d (.int a)),some (.d (.int b)),some (.d (.list (zc (zd cs a)))),some (.d (.list (zc (zd cs b))))])
      (fun _=>true) (fun x=>match x with | .int i=>.bool ((zd cs b).contains i.toNat) | _=>.none) (by
       intro x hx
       obtain⟨i,hi,rfl⟩:=List.mem_map.mp hx
       have hin:=wR (zd cs b) i
       have hal:=wz (zd cs b)
       refine⟨_,_,by simp[tgF]; rfl,rfl,by simp,fun _=>⟨.dat (.bool ((zd cs b).contains i)),[some (.d (zj cs)),some (.d (.int a)),some (.d (.int b)),some (.d (.list (zc (zd cs a)))),some (.d (.list (zc (zd cs b)))),some (.d (.int i))],?_,rfl,by simp⟩⟩
       generalize (zd cs b).contains i=z at *
       generalize zc (zd cs b)=ds at *
       have hal':∀ x∈ds,lay 20 x=true:=List.all_eq_true.mp hal
       simp![b_law_under_2,hin,zm,OV.view,OV.views,zt,ixN,atI]
       rw[if_pos hal'])
     have em:((zc (zd cs a)).filter fun _=>true).map (fun x=>match x with | .int i=>PyData.bool ((zd cs b).contains i.toNat) | _=>.none)=((zd cs a).map fun i=>(zd cs b).contains i).map .bool:=by
      rw[ZE]; unfold zc; rw[List.map_map,List.map_map]; rfl
     rw[em] at e
     have hba:=ji ((zd cs a).map fun i=>(zd cs b).contains i)
     have hall:((zd cs a).map fun i=>(zd cs b).contains i).all id=(zd cs a).all fun i=>(zd cs b).contains i:=by rw[List.all_map]; rfl
     have hu:ub cs a b=(zd cs a).all fun i=>(zd cs b).contains i:=by unfold ub ki; simp[h0,h1,h2,he]
     have he':PyData.eqv (.list (zc (zd cs a))) (.list (zc (zd cs b)))=false:=by rw[WH]; simp[he]
     rw[hu]
     generalize hzz:(zd cs a).all (fun i=>(zd cs b).contains i)=zz at *
     simp![zH,n0,n1,n2,zm,zA,e1,v1,e2,v2,l1,l2,he',zo,hz,zt,ixN,atI]
     rw[e]
     simp only[Option.bind_some,gAll,hba,Option.map_some,hall,outs]
     rfl
noncomputable def JF (some_:List Nat) (x:PyData):Prop:=∃ a∈some_,∃ b∈some_,x=.tuple [.int (a:Nat),.int (b:Nat)]
noncomputable def VC (some_:List Nat) (x:RF):Prop:=∃ (ps:List PyData) (b':OV),(∀ p∈ps,JF some_ p)/\ps.length<=1000/\zx b'/\x=.ok (.l (ps.map .d)) [some b',none]
theorem yV (cf:CF){b:OV}{L:List Nat}(hL:L.length<=4){a:Nat}(ha:a∈L){ps:List PyData}(hps:∀ p∈ps,JF L p) (hpl:ps.length<=100){o4 o5:Option OV} :
  ∃ (qs:List PyData) (o4':Option OV),(∀ p∈qs,JF L p)/\qs.length<=ps.length+4/\qO (.nm 4 4) (b_law_pairs_1.ex cf [0]) (zc L) [some b,some (.d (.list (zc L))),some (.l (ps.map .d)),some (.d (.int a)),o4,o5]=.ok (.next,[some b,some (.d (.list (zc L))),some (.l (qs.map .d)),some (.d (.int a)),o4',o5]):=by
 obtain⟨Γ',e,⟨qs,o4',h1,h2,rfl⟩⟩:=qu (t:=.nm 4 4) (body:=b_law_pairs_1.ex cf [0]) (ds:=zc L) (Γ:= [some b,some (.d (.list (zc L))),some (.l (ps.map .d)),some (.d (.int a)),o4,o5])
  (fun pre Γ=>∃ (qs:List PyData) (o4':Option OV),(∀ p∈qs,JF L p)/\qs.length=ps.length+pre.length/\Γ= [some b,some (.d (.list (zc L))),some (.l (qs.map .d)),some (.d (.int a)),o4',o5]) ⟨ps,o4,hps,rfl,rfl⟩ (by
   rintro pre x post e Γ ⟨qs,o4',h1,h2,rfl⟩
   have hlt:=qQ e
   rw[zo] at hlt
   obtain⟨i,hi,rfl⟩:∃ i∈L,PyData.int (i:Int)=x:=by
    have:x∈zc L:=by rw[e]; simp
    exact List.mem_map.mp this
   have hz:qs.length<1000000:=by omega
   refine⟨_,[some b,some (.d (.list (zc L))),some (.l ((qs++ [PyData.tuple [.int a,.int i]]).map .d)),some (.d (.int a)),some (.d (.int i)),o5],by simp[tgF]; rfl,?_,qs++ [PyData.tuple [.int a,.int i]],_,?_,by simp[h2]; omega,rfl⟩
   ·simp![b_law_pairs_1,hz,OV.view,OV.views,zt,ixN,atI]
   ·intro p hp
    rcases List.mem_append.mp hp with hp | hp
    ·exact h1 p hp
    ·have:p=PyData.tuple [.int a,.int i]:=by simpa using hp
     subst this; exact⟨a,ha,i,hi,rfl⟩)
 rw[zo] at h2
 exact⟨qs,o4',h1,by omega,e⟩
theorem kC (cf:CF) (ht:qI cf){b:OV}(hb:zx b){L:List Nat}(hL0:1<=L.length) (hL:L.length<=1000):VC L (runI 6 [true,false] [0] qB cf [b,.d (.list (zc L))]):=by
 by_cases h4:L.length<=4
 ·obtain⟨Γ',e,⟨ps,o3,o4,h1,h2,rfl⟩⟩:=qu (t:=.nm 3 3) (body:=b_law_pairs_2.ex cf [0]) (ds:=zc L) (Γ:= [some b,some (.d (.list (zc L))),some (.l []),none,none,none])
   (fun pre Γ=>∃ (ps:List PyData) (o3 o4:Option OV),(∀ p∈ps,JF L p)/\ps.length<=4*pre.length/\Γ= [some b,some (.d (.list (zc L))),some (.l (ps.map .d)),o3,o4,none]) ⟨[],_,_,(fun _ h=>nomatch h),Nat.le_refl _,rfl⟩ (by
    rintro pre x post e Γ ⟨ps,o3,o4,h1,h2,rfl⟩
    have hlt:=qQ e
    rw[zo] at hlt
    obtain⟨i,hi,rfl⟩:∃ i∈L,PyData.int (i:Int)=x:=by
     have:x∈zc L:=by rw[e]; simp
     exact List.mem_map.mp this
    obtain⟨qs,o4',g1,g2,e1⟩:=yV cf (b:=b) h4 hi h1 (by omega) (o4:=o4) (o5:=none)
    refine⟨_,_,by simp[tgF]; rfl,?_,qs,some (.d (.int i)),o4',g1,by simp; omega,rfl⟩
    simp![b_law_pairs_2,OV.view,OV.views,zt,ixN,atI]
    exact e1)
  rw[zo] at h2
  refine⟨ps,b,h1,by omega,hb,?_⟩
  have h4':(L.length:Int)<=4:=by omega
  simp![qB,zo,h4',e,OV.view,OV.views,zt,ixN,atI]
 ·have h4':¬ (L.length:Int)<=4:=by omega
  obtain⟨Γ',e,⟨ps,b',o5,h1,h2,hb',rfl⟩⟩:=qu (t:=.nm 5 5) (body:=b_law_pairs_3.ex cf [0]) (ds:=zQ 12) (Γ:= [some b,some (.d (.list (zc L))),some (.l []),none,none,none])
   (fun pre Γ=>∃ (ps:List PyData) (b':OV) (o5:Option OV),(∀ p∈ps,JF L p)/\ps.length=pre.length/\zx b'/\Γ= [some b',some (.d (.list (zc L))),some (.l (ps.map .d)),none,none,o5]) ⟨[],b,_,(fun _ h=>nomatch h),rfl,hb,rfl⟩ (by
    rintro pre x post e Γ ⟨ps,b1,o5,h1,h2,hb1,rfl⟩
    obtain⟨rfl,hlt⟩:=Jh e
    obtain⟨r2,b2,g2,g2',hb2,e2⟩:=ht b1 hb1 L.length (by omega) (by omega)
    obtain⟨r3,b3,g3,g3',hb3,e3⟩:=ht b2 hb2 L.length (by omega) (by omega)
    obtain⟨j2,rfl⟩:∃ j:Nat,r2=j:=⟨r2.toNat,by omega⟩
    obtain⟨j3,rfl⟩:∃ j:Nat,r3=j:=⟨r3.toNat,by omega⟩
    have l2:j2<L.length:=by omega
    have l3:j3<L.length:=by omega
    have a2:atI (zc L) (j2:Int)=some (.int (L[j2]:Nat)):=jZ (by unfold zc; rw[List.getElem?_map,List.getElem?_eq_getElem l2]; rfl)
    have a3:atI (zc L) (j3:Int)=some (.int (L[j3]:Nat)):=jZ (by unfold zc; rw[List.getElem?_map,List.getElem?_eq_getElem l3]; rfl)
    have hz:ps.length<1000000:=by omega
    refine⟨_,[some b3,some (.d (.list (zc L))),some (.l ((ps++ [PyData.tuple [.int (L[j2]:Nat),.int (L[j3]:Nat)]]).map .d)),none,none,some (.d (.int pre.length))],by simp[tgF]; rfl,?_,ps++ [PyData.tuple [.int (L[j2]:Nat),.int (L[j3]:Nat)]],b3,_,?_,by simp[h2],hb3,rfl⟩
    ·simp![b_law_pairs_3,zo,e2,e3,a2,a3,hz,OV.view,OV.views,zt]
    ·intro p hp
     rcases List.mem_append.mp hp with hp | hp
     ·exact h1 p hp
     ·have:p=PyData.tuple [.int (L[j2]:Nat),.int (L[j3]:Nat)]:=by simpa using hp
      subst this; exact⟨_,List.getElem_mem l2,_,List.getElem_mem l3,rfl⟩)
  rw[zB] at h2
  refine⟨ps,b',h1,by omega,hb',?_⟩
  simp![qB,zo,h4',e,OV.view,OV.views,zt,ixN,atI]
end Wx
namespace Ku
noncomputable abbrev FL:=List (Option Nat)
noncomputable def fat (F:FL) (p:Nat):Option Nat:=(F[p]?).getD none
theorem zcq {F:FL}{p s:Nat}(h:fat F p=some s):p<F.length:=by
 by_cases hp:p<F.length
 ·exact hp
 ·unfold fat at h; rw[List.getElem?_eq_none (by omega)] at h; cases h
theorem ZI:∀ {l T:List Nat},l.Nodup->(∀ x∈l,x∈T)->l.length<=T.length
 | [],T,_,_=>Nat.zero_le _
 | a::l,T,h,hs=>by
  have ha:a∈T:=hs a (by simp)
  have hn:=List.nodup_cons.mp h
  have:=ZI (l:=l) (T:=T.erase a) hn.2 (fun x hx=>by
   have hxa:x≠a:=fun e=>hn.1 (e ▸ hx)
   exact (List.mem_erase_of_ne hxa).mpr (hs x (List.mem_cons_of_mem _ hx)))
  rw[List.length_erase_of_mem ha] at this
  have hp:=List.length_pos_of_mem ha
  simp only[List.length_cons]
  omega
theorem zcG {T:List Nat}{N:Nat}(h:T.Nodup) (hl:∀ p∈T,p<N):T.length<=N:=by
 have:=ZI (T:=List.range N) h fun x hx=>List.mem_range.mpr (hl x hx)
 rwa [List.length_range] at this
noncomputable abbrev RT:=Bool×FL×List Nat
noncomputable def KO (rec:Nat->FL->List Nat->RT) (a:Nat):List Nat->FL->List Nat->RT
 | [],F,T=>(false,F,T)
 | p::ps,F,T=>if T.contains p then KO rec a ps F T else
  match fat F p with
  | none=>(true,F.set p (some a),T++ [p])
  | some s=>match rec s F (T++ [p]) with
   | (true,F',T')=>(true,F'.set p (some a),T')
   | (false,F',T')=>KO rec a ps F' T'
noncomputable def up (ab:List (List Nat)) (a:Nat):List Nat:=(ab[a]?).getD []
noncomputable def w6 (ab:List (List Nat)):Nat->Nat->FL->List Nat->RT
 | 0,_,F,T=>(false,F,T)
 | n+1,a,F,T=>KO (w6 ab n) a (up ab a) F T
structure Val (ab:List (List Nat)) (N:Nat) (F:FL) (T:List Nat):Prop where
 len:F.length=N
 edge:∀ p s,fat F p=some s->s<N/\p∈up ab s
 inj:∀ p q s,p∉T->q∉T->fat F p=some s->fat F q=some s->p=q
structure TOk (N:Nat) (T:List Nat):Prop where
 nd:T.Nodup
 lt:∀ p∈T,p<N
theorem TOk.snoc {N:Nat}{T:List Nat}{p:Nat}(h:TOk N T) (hp:p∉T) (hl:p<N):TOk N (T++ [p]):=by
 refine⟨?_,fun q hq=>?_⟩
 ·rw[List.nodup_append]
  refine⟨h.nd,by simp,fun a ha b hb=>?_⟩
  have:b=p:=by simpa using hb
  subst this
  exact fun e=>hp (e ▸ ha)
 ·rcases List.mem_append.mp hq with hq | hq
  ·exact h.lt q hq
  ·have:q=p:=by simpa using hq
   omega
structure Succ (ab:List (List Nat)) (N:Nat) (F:FL) (T:List Nat) (a:Nat) (F':FL):Prop where
 val:Val ab N F' T
 keep:∀ p∈T,fat F' p=fat F p
 vals:∀ p s,p∉T->fat F' p=some s->s=a∨∃ q,q∉T/\fat F q=some s
 has:∃ p,p∉T/\fat F' p=some a
 old:∀ q s,q∉T->fat F q=some s->∃ p,p∉T/\fat F' p=some s
structure Spec (ab:List (List Nat)) (N:Nat) (F:FL) (T:List Nat) (a:Nat) (ps:List Nat) (r:RT):Prop where
 tok:TOk N r.2.2
 sub:∀ p∈T,p∈r.2.2
 same:r.1=false->r.2.1=F
 all:r.1=false->∀ p∈ps,p∈r.2.2
 dead:r.1=false->∀ p∈r.2.2,p∉T->∃ s,fat F p=some s/\∀ q∈up ab s,q∈r.2.2
 succ:r.1=true->Succ ab N F T a r.2.1
section
variable {ab:List (List Nat)} {N:Nat} (hab:∀ a p,p∈up ab a->p<N)
include hab
end
noncomputable def Dead (ab:List (List Nat)) (F:FL) (Z:Nat->Prop):Prop:=∀ p,Z p->∃ s,fat F p=some s/\∀ q∈up ab s,Z q
section
variable {ab:List (List Nat)}
end
structure Inv (ab:List (List Nat)) (N k:Nat) (F:FL):Prop where
 val:Val ab N F []
 lt:∀ p s,fat F p=some s->s<k
 dead:∃ Z,Dead ab F Z/\∀ a,a<k->(∀ p,fat F p≠some a)->∀ q∈up ab a,Z q
noncomputable def zbL (ab:List (List Nat)) (m:Nat):Nat->FL->FL
 | 0,F=>F
 | k+1,F=>(w6 ab m k (zbL ab m k F) []).2.1
end Ku
set_option maxHeartbeats 4000000
namespace Wx
open PySem L2 L3
theorem kt (cs:List Cl) (p:Nat):(jc cs p).length<=p:=by
 have:=List.length_filter_le (fun d=> !(zd cs d).isEmpty) (List.range p)
 rw[List.length_range] at this; exact this
theorem y9 (Γ:Gv) (cs:List Cl):zt Γ (.dat (zj cs))=some (cs.map Cl.D):=rfl
theorem yo (cs:List Cl):PyData.list (cs.map Cl.D)=zj cs:=rfl
theorem zL (x:PyData):(OV.d x).view=x:=rfl
theorem zbx (xs:List PyData):(OV.l (xs.map .d)).view=.list xs:=by rw[OV.view,OV.views_d]
noncomputable def lcks (c:Cl) (d:Nat):Bool:=decide (c.st.getD d 0<c.wi.getD d 0)
theorem y4:∀ p,(List.range p).Pairwise (·<·):=fun p=>List.pairwise_lt_range
end Wx
set_option maxHeartbeats 4000000
namespace Wx
open PySem L2 L3 Ku
end Wx
namespace Ku
noncomputable def Vd (F:FL):Nat->Nat->List Nat
 | 0,_=> []
 | n+1,p=>match fat F p with
  | none=> []
  | some s=>s::Vd F n s
theorem wI (F:FL) (a:Nat):F.contains (some a)=true↔∃ p,fat F p=some a:=by
 rw[List.contains_iff_mem]
 constructor
 ·intro h
  obtain⟨p,hp⟩:=List.getElem?_of_mem h
  exact⟨p,by unfold fat; rw[hp]; rfl⟩
 ·rintro⟨p,h⟩
  have hl:=zcq h
  unfold fat at h
  rw[List.getElem?_eq_getElem hl] at h
  have e:F[p]=some a:=h
  rw[<- e]; exact List.getElem_mem hl
noncomputable def ZF (N:Nat) (F:FL):List Nat:=(List.range N).filter fun a=> !F.contains (some a)
theorem Jc (N:Nat) (F:FL) (a:Nat):a∈ZF N F↔a<N/\∀ p,fat F p≠some a:=by
 unfold ZF
 rw[List.mem_filter,List.mem_range]
 refine and_congr_right fun _=>?_
 have:=wI F a
 constructor
 ·intro h p e
  rw[this.mpr ⟨p,e⟩] at h; cases h
 ·intro h
  cases e:F.contains (some a) with
  | false=>rfl
  | true=>
   obtain⟨p,e⟩:=this.mp e
   exact absurd e (h p)
theorem nodup_range (N:Nat):(List.range N).Nodup:=List.pairwise_lt_range.imp fun h=>Nat.ne_of_lt h
section
variable {ab:List (List Nat)} {N:Nat} {F:FL}
variable (hab:∀ a p,p∈up ab a->p<N) (irr:∀ a,a∉up ab a) (tr:∀ a b c,b∈up ab a->c∈up ab b->c∈up ab a)
noncomputable def hgt (ab:List (List Nat)) (N x:Nat):Nat:=((List.range N).filter fun y=>(up ab x).contains y).length
include hab irr tr in
theorem Y0 {s p:Nat}(h:p∈up ab s):hgt ab N p<hgt ab N s:=by
 have hp:p∉(List.range N).filter fun y=>(up ab p).contains y:=fun z=>irr p (by simpa using (List.mem_filter.mp z).2)
 have hn:(p::(List.range N).filter fun y=>(up ab p).contains y).Nodup:=List.nodup_cons.mpr ⟨hp,(nodup_range N).filter _⟩
 have:=ZI (T:=(List.range N).filter fun y=>(up ab s).contains y) hn fun x hx=>by
  rcases List.mem_cons.mp hx with rfl | hx
  ·exact List.mem_filter.mpr ⟨List.mem_range.mpr (hab s x h),by simpa using h⟩
  ·have hx':=List.mem_filter.mp hx
   exact List.mem_filter.mpr ⟨hx'.1,by have:=tr s p x h (by simpa using hx'.2); simpa using this⟩
 show _+1<=_
 simpa [hgt] using this
variable (v:Val ab N F [])
theorem V4:∀ n p x,x∈Vd F n p->∃ q,fat F q=some x/\(q=p∨q∈Vd F n p)
 | 0,p,x,h=>by cases h
 | n+1,p,x,h=>by
  rw[Vd] at h |-
  cases e1:fat F p with
  | none=>rw[e1] at h; cases h
  | some s=>
   rw[e1] at h
   rcases List.mem_cons.mp h with rfl | h
   ·exact⟨p,e1,.inl rfl⟩
   ·obtain⟨q,e,hq⟩:=V4 n s x h
    refine⟨q,e,.inr ?_⟩
    show q∈s::Vd F n s
    rcases hq with rfl | hq
    ·exact List.mem_cons_self
    ·exact List.mem_cons_of_mem _ hq
noncomputable def zaT (N:Nat) (F:FL) (f:Nat):List Nat:=f::Vd F N f
include hab irr tr v in
theorem apart:∀ (k x f g:Nat),hgt ab N x<=k->f∈ZF N F->g∈ZF N F->x∈zaT N F f->x∈zaT N F g->f=g:=by
 have val:∀ {f x:Nat},x∈Vd F N f->∃ q,fat F q=some x/\q∈zaT N F f:=fun {f x} h=>by
  obtain⟨q,e,hq⟩:=V4 N f x h
  refine⟨q,e,?_⟩
  rcases hq with rfl | hq
  ·exact List.mem_cons_self
  ·exact List.mem_cons_of_mem _ hq
 intro k
 induction k with
 | zero=>
  intro x f g hk hf hg h1 h2
  have no:∀ {f:Nat},f∈ZF N F->x∈zaT N F f->x=f:=fun {f} hf h=>by
   rcases List.mem_cons.mp h with e | h
   ·exact e
   ·obtain⟨q,e,_⟩:=val h
    have:=Y0 hab irr tr (v.edge q x e).2
    omega
  rw[<- no hf h1,<- no hg h2]
 | succ k ih=>
  intro x f g hk hf hg h1 h2
  rcases List.mem_cons.mp h1 with e1 | h1
  ·rcases List.mem_cons.mp h2 with e2 | h2
   ·rw[<- e1,<- e2]
   ·obtain⟨q,e,_⟩:=val h2
    rw[e1] at e
    exact absurd e (((Jc N F f).mp hf).2 q)
  ·rcases List.mem_cons.mp h2 with e2 | h2
   ·obtain⟨q,e,_⟩:=val h1
    rw[e2] at e
    exact absurd e (((Jc N F g).mp hg).2 q)
   ·obtain⟨q,e,hq⟩:=val h1
    obtain⟨q',e',hq'⟩:=val h2
    have:q=q':=v.inj q q' x (fun h=>nomatch h) (fun h=>nomatch h) e e'
    subst this
    have:=Y0 hab irr tr (v.edge q x e).2
    exact ih q f g (by omega) hf hg hq hq'
noncomputable def zbO (ab:List (List Nat)) (m:Nat) (F:FL):List Nat->List Nat->List Nat
 | [],T=>T
 | a::as,T=>zbO ab m F as (w6 ab m a F T).2.2
structure HT (ab:List (List Nat)) (N:Nat) (F:FL) (T:List Nat):Prop where
 tk:TOk N T
 cl:∀ p∈T,∃ s,fat F p=some s/\∀ q∈up ab s,q∈T
end
end Ku
set_option maxHeartbeats 4000000
namespace Wx
open PySem L2 L3 Ku
end Wx
set_option maxHeartbeats 4000000
namespace Wx
open PySem L2 L3 Ku
structure Dys (pots:Nat) (D:List Nat):Prop where
 inc:D.Pairwise (·<·)
 lt:∀ d∈D,d<pots
theorem Dys.nodup {pots:Nat}{D:List Nat}(h:Dys pots D):D.Nodup:=h.inc.imp fun h=>Nat.ne_of_lt h
theorem Dys.len {pots:Nat}{D:List Nat}(h:Dys pots D):D.length<=pots:=zcG h.nodup h.lt
theorem Dys.filter {pots:Nat}{D:List Nat}(h:Dys pots D) (q:Nat->Bool):Dys pots (D.filter q):=⟨h.inc.filter _,fun d hd=>h.lt d (List.mem_filter.mp hd).1⟩
theorem Dys.le {pots:Nat}{D:List Nat}(h:Dys pots D):D.Pairwise (·<=·):=h.inc.imp fun h=>Nat.le_of_lt h
noncomputable def zex (cs:List Cl) (D:List Nat) (d:Nat):List Nat:=((List.range D.length).filter fun j=>ki d (D.getD j 0) (zd cs d) (zd cs (D.getD j 0)))++(if (zd cs d).any (qK cs) then [] else [D.length])
noncomputable def abv (cs:List Cl) (D:List Nat):List (List Nat):=D.map (zex cs D)++ [[]]
end Wx
set_option maxHeartbeats 4000000
namespace Wx
open PySem L2 L3 Ku
theorem Dys.getD {pots:Nat}{D:List Nat}(h:Dys pots D){i:Nat}(hi:i<D.length):D.getD i 0<pots:=by
 refine h.lt _ ?_
 rw[List.getD_eq_getElem?_getD,List.getElem?_eq_getElem hi]
 exact List.getElem_mem hi
section
variable {pots:Nat} (hp:pots<=12) {D:List Nat} (hD:Dys pots D) (cs:List Cl)
noncomputable def FF (cs:List Cl) (D:List Nat):Ku.FL:=zbL (abv cs D) 14 (D.length+1) (List.replicate (D.length+1) none)
noncomputable def TT (cs:List Cl) (D:List Nat):List Nat:=zbO (abv cs D) 14 (FF cs D) (ZF (D.length+1) (FF cs D)) []
end
end Wx
set_option maxHeartbeats 4000000
namespace Wx
open PySem L2 L3 Ku
noncomputable def SameC (cs cs':List Cl):Prop:=∀ c,(∃ d,lcks c d=true)->(c∈cs↔c∈cs')
theorem SameC.symm {cs cs':List Cl}(h:SameC cs cs'):SameC cs' cs:=fun c hc=>(h c hc).symm
end Wx
set_option maxHeartbeats 4000000
namespace Wx
open PySem L2 L3 Ku
end Wx
set_option maxHeartbeats 4000000
namespace Wx
open PySem L2 L3 Ku
end Wx
set_option maxHeartbeats 4000000
namespace Wx
open PySem L2 L3 Ku
noncomputable def Yw (cf:CF):Prop:=∀ (pots:Nat) (cs:List Cl),pots<=1000->qS pots cs->cf "_law_need" [.d (zj cs),.d (.int pots)]=.ok (zS (jc cs pots)) [none,none]
noncomputable def VF (cf:CF):Prop:=∀ (pots:Nat) (cs:List Cl) (a b:Nat),pots<=12->qS pots cs->Mem pots a->Mem pots b->cf "_law_under" [.d (zj cs),.d (.int a),.d (.int b)]=.ok (.d (.bool (ub cs a b))) [none,none,none]
end Wx
set_option maxHeartbeats 4000000
namespace Wx
open PySem L2 L3 Ku
section
variable {pots:Nat} (hp:pots<=12) {D:List Nat} (hD:Dys pots D) (cs:List Cl)
end
end Wx
set_option maxHeartbeats 4000000
namespace Wx
open PySem L2 L3 Ku
end Wx
set_option maxHeartbeats 4000000
namespace Wx
open PySem L2 L3 Ku
noncomputable def Chn (cs:List Cl) (rw1:List Nat):Prop:=rw1.Pairwise fun x y=>ub cs y x=true
theorem Chn.at' {cs:List Cl}{rw1:List Nat}(h:Chn cs rw1){k:Nat}(hk:k<rw1.length):((rw1.take k).map fun o=>ub cs (rw1.getD k 0) o).all id=true:=by
 rw[List.all_eq_true]
 intro b hb
 obtain⟨o,ho,rfl⟩:=List.mem_map.mp hb
 obtain⟨j,hj,rfl⟩:=List.getElem_of_mem ho
 have hj':j<k/\j<rw1.length:=by simp at hj; omega
 have:=List.pairwise_iff_getElem.mp h j k hj'.2 hk hj'.1
 rw[List.getElem_take,List.getD_eq_getElem?_getD,List.getElem?_eq_getElem hk]
 exact this
section
variable {pots:Nat} (hp:pots<=12) {D:List Nat} (hD:Dys pots D) (cs:List Cl)
end
end Wx
set_option maxHeartbeats 4000000
namespace Wx
open PySem L2 L3 Ku
end Wx
set_option maxHeartbeats 4000000
namespace Wx
open PySem L2 L3 Ku
noncomputable def clB (cs:List Cl) (a b:Nat):Bool:= !(a==b)&&(!ub cs a b&& !ub cs b a)
theorem YI (cf:CF) (hu:VF cf){pots:Nat}(hp:pots<=12){cs:List Cl}(hb:qS pots cs){a b:Nat}(ha:Mem pots a) (hb2:Mem pots b) :
  runI 3 [false,false,false] [] qk cf [.d (zj cs),.d (.int a),.d (.int b)]=.ok (.d (.bool (clB cs a b))) [none,none,none]:=by
 have e1:=hu pots cs a b hp hb ha hb2
 have e2:=hu pots cs b a hp hb hb2 ha
 have hq:((a:Int)==(b:Int))=(a==b):=by
  rw[Bool.eq_iff_iff,beq_iff_eq,beq_iff_eq]; omega
 unfold clB
 cases h1:(a==b) with
 | true=>
  rw[h1] at hq
  simp![qk,zm,zA,hq]
 | false=>
  rw[h1] at hq
  cases h2:ub cs a b with
  | true=>
   rw[h2] at e1
   simp![qk,zm,zA,hq,e1,zL]
  | false=>
   rw[h2] at e1
   simp![qk,zm,zA,hq,e1,e2,zL]
noncomputable def Vx (cf:CF):Prop:=∀ (pots:Nat) (cs:List Cl) (a b:Nat),pots<=12->qS pots cs->Mem pots a->Mem pots b->cf "_law_clash" [.d (zj cs),.d (.int a),.d (.int b)]=.ok (.d (.bool (clB cs a b))) [none,none,none]
end Wx
namespace Wx
open PySem L2 L3
noncomputable def qF:IB:=(.cons (.ite (.cmp .Eq (.var 1 1) (.var 2 2)) (.cons (.ret (.dat .cnone)) .nil) .nil) (.cons (.ite (.cmp .Eq (.var 1 1) (.gint "NOW" (12))) (.cons (.ret (.call "apart_from_now" 2 (.cons (.var 0 0) (.cons (.var 2 2) .nil)))) .nil) .nil) (.cons (.ite (.cmp .Eq (.var 2 2) (.gint "NOW" (12))) (.cons (.ret (.call "apart_from_now" 2 (.cons (.var 0 0) (.cons (.var 1 1) .nil)))) .nil) .nil) (.cons (.asg 3 3 (.dat (.call (.call "lacking" 2 (.cons (.var 0 0) (.cons (.var 1 1) .nil)))))) (.cons (.asg 4 4 (.dat (.call (.call "lacking" 2 (.cons (.var 0 0) (.cons (.var 2 2) .nil)))))) (.cons (.asg 5 5 (.dat (.new (.sdif (.var 3 3) (.var 4 4))))) (.cons (.asg 6 6 (.dat (.new (.sdif (.var 4 4) (.var 3 3))))) (.cons (.ite (.and (.var 5 5) (.var 6 6)) (.cons (.ret (.dat (.tup (.cons (.ix (.var 5 5) (.cint 0)) (.cons (.ix (.var 6 6) (.cint 0)) .nil))))) .nil) .nil) (.cons (.ret (.dat .cnone)) .nil)))))))))
noncomputable def zN:IB:=(.cons (.asg 2 2 (.dat (.call (.call "lacking_under_wax" 2 (.cons (.var 0 0) (.cons (.var 1 1) .nil)))))) (.cons (.ite (.var 2 2) (.cons (.ret (.dat (.tup (.cons (.ix (.var 2 2) (.cint 0)) .nil)))) .nil) .nil) (.cons (.ret (.dat .cnone)) .nil)))
noncomputable def b_law_reason_1:IC:=(.one (.ix (.ix (.var 1 0) (.var 0 5)) (.cint 1)))
noncomputable def b_law_reason_2:IE:=(.var 0 5)
noncomputable def b_law_reason_3:IC:=(.one (.cmp .NotIn (.var 0 5) (.var 1 3)))
noncomputable def b_law_reason_4:IE:=(.var 0 5)
noncomputable def b_law_reason_5:IC:=(.one (.cmp .NotIn (.var 0 5) (.var 1 4)))
noncomputable def b_law_reason_6:IE:=(.var 0 5)
noncomputable def zM:IB:=(.cons (.ite (.not (.call (.call "_law_clash" 3 (.cons (.var 0 0) (.cons (.var 1 1) (.cons (.var 2 2) .nil)))))) (.cons (.ret (.dat .cnone)) .nil) .nil) (.cons (.ite (.cmp .In (.cint 12) (.tup (.cons (.var 1 1) (.cons (.var 2 2) .nil)))) (.cons (.ret (.dat (.tup (.cons (.minL (.new (.comp 5 1 [0] ["_law_at","_law_rows"] (.nm 0 5) (.list (.call (.call "_law_lack" 2 (.cons (.var 0 0) (.cons (.min (.var 1 1) (.var 2 2)) .nil))))) b_law_reason_1 b_law_reason_2))) .nil)))) .nil) .nil) (.cons (.asg 3 3 (.dat (.call (.call "_law_lack" 2 (.cons (.var 0 0) (.cons (.var 1 1) .nil)))))) (.cons (.asg 4 4 (.dat (.call (.call "_law_lack" 2 (.cons (.var 0 0) (.cons (.var 2 2) .nil)))))) (.cons (.ret (.dat (.tup (.cons (.minL (.new (.comp 5 1 [4] ["_law_at","_law_theirs"] (.nm 0 5) (.list (.var 3 3)) b_law_reason_5 b_law_reason_6))) (.cons (.minL (.new (.comp 5 1 [3] ["_law_at","_law_mine"] (.nm 0 5) (.list (.var 4 4)) b_law_reason_3 b_law_reason_4))) .nil))))) .nil)))))
end Wx
set_option maxHeartbeats 8000000
namespace Wx
open PySem L2 L3 Ku
variable [Cs]
noncomputable def Z (xs:List Nat):List Int:=xs.map fun (i:Nat)=>(i:Int)
theorem qN (xs:List Nat):zO (zc xs)=some (Z xs):=WO xs
theorem kj {xs:List Nat}{k:Int}:k∈Z xs↔∃ i∈xs,(i:Int)=k:=by unfold Z; rw[List.mem_map]
theorem Yy (xs:List Nat):(Z xs).length=xs.length:=by unfold Z; simp
theorem zdS {xs:List Nat}(h:xs.Pairwise (·<·)):(Z xs).Pairwise (·<=·):=by
 unfold Z
 rw[List.pairwise_map]
 exact h.imp fun h=>by omega
theorem K4 {xs:List Nat}(h:xs.Pairwise (·<·)):(Z xs).Nodup:=by
 unfold Z List.Nodup
 rw[List.pairwise_map]
 exact h.imp fun h=>by omega
theorem k5 {xs ys:List Nat}(h:xs.Pairwise (·<·)):sdif (Z xs) (Z ys)=Z (xs.filter fun x=> !ys.contains x):=by
 have hf:=h.filter fun x=> !ys.contains x
 have hm:∀ k,k∈Z (xs.filter fun x=> !ys.contains x)↔(k∈Z xs/\k∉Z ys):=fun k=>by
  rw[kj,kj,kj]
  constructor
  ·rintro⟨i,hi,rfl⟩
   obtain⟨h1,h2⟩:=List.mem_filter.mp hi
   refine⟨⟨i,h1,rfl⟩,?_⟩
   rintro⟨j,hj,e⟩
   have:j=i:=by omega
   subst this
   simp at h2
   exact h2 hj
  ·rintro⟨⟨i,hi,rfl⟩,hn⟩
   refine⟨i,List.mem_filter.mpr ⟨hi,?_⟩,rfl⟩
   simp
   exact fun z=>hn ⟨i,z,rfl⟩
 exact (V5 (WZ (K4 hf) rfl hm) (zdS hf) hm).symm
theorem zds {xs:List Nat}(h:xs.Pairwise (·<·)):Jn (Z xs)=Z xs:=(vd (.refl _) (zdS h)).symm
theorem zee {xs:List Nat}(h:xs.Pairwise (·<·)):wU (Z xs)=((xs.headD 0:Nat):Int):=by
 unfold wU
 rw[zds h]
 cases xs <;> rfl
theorem ju (cs:List Cl) (d:Nat):(zd cs d).Pairwise (·<·):=(y4 _).filter _
noncomputable def zD (ls:List (List Nat)):PyData:=if ls.all fun l=> !l.isEmpty then .tuple (ls.map fun l=>.int ((l.headD 0:Nat):Int)) else .none
noncomputable def qe (cs:List Cl) (a b:Nat):List Nat:=(zd cs a).filter fun x=> !(zd cs b).contains x
noncomputable def qR (cs:List Cl) (a:Nat):List Nat:=(zd cs a).filter (qK cs)
noncomputable def qh (cs:List Cl) (a b:Nat):PyData:=if a=b then .none else if a=12 then zD [qR cs b] else if b=12 then zD [qR cs a] else zD [qe cs a b,qe cs b a]
noncomputable def Yr (cf:CF):Prop:=∀ (pots:Nat) (cs:List Cl),qS pots cs->∀ d:Nat,d<pots->cf "apart_from_now" [.d (zj cs),.d (.int d)]=.ok (.d (zD [qR cs d])) [none,none]
theorem at0 (x:PyData) (r:List PyData):atI (x::r) 0=some x:=by
 have h:(x::r)[0]?=some x:=rfl
 exact jZ h
theorem K8 (cf:CF) (hw:zbC cf){pots:Nat}{cs:List Cl}(hb:qS pots cs){d:Nat}(hd:d<pots):runI 3 [false,false] [] zN cf [.d (zj cs),.d (.int d)]=.ok (.d (zD [qR cs d])) [none,none]:=by
 have e1:=hw pots cs hb d hd
 have hv:=zy ((zd cs d).filter (qK cs))
 unfold qR
 generalize (zd cs d).filter (qK cs)=xs at *
 generalize zS xs=V at *
 cases xs with
 | nil=>simp![zN,e1,hv,zc,zD,zL]
 | cons x r=>simp![zN,e1,hv,zc,zD,at0,zL]
noncomputable def Vu (cf:CF):Prop:=∀ (pots:Nat) (cs:List Cl) (a b:Nat),pots<=12->qS pots cs->cs.length<=60->Mem pots a->Mem pots b->cf "apart" [.d (zj cs),.d (.int a),.d (.int b)]=.ok (.d (qh cs a b)) [none,none,none]
theorem YA (cf:CF) (hl:qg "lacking" cf) (hn:Yr cf){pots:Nat}(hp:pots<=12){cs:List Cl}(hb:qS pots cs) (hc:cs.length<=60){a b:Nat}(ha:Mem pots a) (hbm:Mem pots b) :
  runI 7 [false,false,false] [] qF cf [.d (zj cs),.d (.int a),.d (.int b)]=.ok (.d (qh cs a b)) [none,none,none]:=by
 unfold qh
 by_cases h0:a=b
 ·subst h0
  simp![qF,zm,zA,zL]
 ·have n0:((a:Int)==(b:Int))=false:=by simp; omega
  rw[if_neg h0]
  by_cases h1:a=12
  ·subst h1
   have e:=hn pots cs hb b (hbm.resolve_right fun z=>h0 z.symm)
   rw[if_pos rfl]
   generalize zD [qR cs b]=D at *
   have n0':((12:Int)==(b:Int))=false:=n0
   simp![qF,n0',zm,zA,e,zL]
  ·have ha':a<pots:=ha.resolve_right h1
   have n1:((a:Int)==12)=false:=by simp; omega
   rw[if_neg h1]
   by_cases h2:b=12
   ·subst h2
    have e:=hn pots cs hb a ha'
    rw[if_pos rfl]
    generalize zD [qR cs a]=D at *
    simp![qF,n1,zm,zA,e,zL]
   ·have hb':b<pots:=hbm.resolve_right h2
    have n2:((b:Int)==12)=false:=by simp; omega
    rw[if_neg h2]
    have e1:=hl pots cs hb a ha'
    have e2:=hl pots cs hb b hb'
    have v1:=zy (zd cs a)
    have v2:=zy (zd cs b)
    have i1:=qN (zd cs a)
    have i2:=qN (zd cs b)
    have l1:(Z (zd cs a)).length<=60:=by rw[Yy]; exact Nat.le_trans (Zo cs a) hc
    have l2:(Z (zd cs b)).length<=60:=by rw[Yy]; exact Nat.le_trans (Zo cs b) hc
    have s1:sdif (Z (zd cs a)) (Z (zd cs b))=Z (qe cs a b):=k5 (ju cs a)
    have s2:sdif (Z (zd cs b)) (Z (zd cs a))=Z (qe cs b a):=k5 (ju cs b)
    generalize qe cs a b=A at *
    generalize qe cs b a=B at *
    simp only[zS] at e1 e2 v1 v2
    generalize Z (zd cs a)=za at *
    generalize Z (zd cs b)=zb at *
    generalize zc (zd cs a)=da at *
    generalize zc (zd cs b)=db at *
    cases A with
    | nil=>simp![qF,n0,n1,n2,zm,zA,e1,e2,v1,v2,WL,i1,i2,l1,l2,s1,s2,Z,zD,zL]
    | cons x r=>
     cases B with
     | nil=>simp![qF,n0,n1,n2,zm,zA,e1,e2,v1,v2,WL,i1,i2,l1,l2,s1,s2,Z,zD,zL]
     | cons y r'=>simp![qF,n0,n1,n2,zm,zA,e1,e2,v1,v2,WL,i1,i2,l1,l2,s1,s2,Z,zD,at0,zL]
end Wx
set_option maxHeartbeats 8000000
namespace Wx
open PySem L2 L3 Ku
variable [Cs]
theorem Q3 {α:Type}(q:α->Bool):∀ xs:List α,(xs.filter fun x=> !q x).isEmpty=xs.all q
 | []=>rfl
 | x::xs=>by
  rw[List.filter_cons,List.all_cons,<- Q3 q xs]
  cases q x <;> simp
theorem JJ (cs:List Cl) (a b:Nat):(qe cs a b).isEmpty=(zd cs a).all fun i=>(zd cs b).contains i:=Q3 _ _
theorem KS (cs:List Cl) (a:Nat):(!(qR cs a).isEmpty)=(zd cs a).any (qK cs):=by
 unfold qR
 have:=vU (zd cs a) (qK cs)
 rw[ZY] at this
 exact this
theorem YH (cs:List Cl){a b:Nat}(h0:a≠b) (h1:a≠12) (h2:b≠12):clB cs a b=(!(qe cs a b).isEmpty&& !(qe cs b a).isEmpty):=by
 have n0:(a==b)=false:=by simpa using h0
 have h0':b≠a:=fun e=>h0 e.symm
 unfold clB ub ki
 rw[JJ,JJ,n0]
 simp only[h0,h0',h1,h2,or_self,if_false,Bool.not_false,Bool.true_and]
 by_cases he:zd cs a=zd cs b
 ·have hs:(zd cs b).all (fun i=>(zd cs b).contains i)=true:=by simp
  rw[he,if_pos rfl,if_pos rfl,hs]
  rcases Nat.lt_or_gt_of_ne h0 with z | z
  ·simp[z]
  ·simp[z]
 ·rw[if_neg he,if_neg fun e=>he e.symm]
theorem wH (cs:List Cl){a:Nat}(h1:a≠12):clB cs a 12= !(qR cs a).isEmpty/\clB cs 12 a= !(qR cs a).isEmpty:=by
 have n0:(a==12)=false:=by simpa using h1
 have n1:((12:Nat)==a)=false:=by simp; omega
 have h2:¬ (12:Nat)=a:=fun e=>h1 e.symm
 unfold clB ub
 rw[KS,n0,n1]
 simp[h1]
theorem qY {ls:List (List Nat)}(h:(ls.all fun l=> !l.isEmpty)=false):zD ls=.none:=by unfold zD; rw[h]; rfl
theorem qZ {ls:List (List Nat)}(h:(ls.all fun l=> !l.isEmpty)=true):zD ls=.tuple (ls.map fun l=>.int ((l.headD 0:Nat):Int)):=by unfold zD; rw[h]; rfl
theorem vH {cs:List Cl}{a b:Nat}(h:clB cs a b=false):qh cs a b=.none:=by
 unfold qh
 by_cases h0:a=b
 ·rw[if_pos h0]
 ·rw[if_neg h0]
  by_cases h1:a=12
  ·subst h1
   rw[(wH cs fun e=>h0 e.symm).2] at h
   rw[if_pos rfl]; exact qY (by simp[h])
  ·rw[if_neg h1]
   by_cases h2:b=12
   ·subst h2
    rw[(wH cs h1).1] at h
    rw[if_pos rfl]; exact qY (by simp[h])
   ·rw[YH cs h0 h1 h2] at h
    rw[if_neg h2]; exact qY (by simpa using h)
theorem jv {xs:List Nat}(h:xs.Pairwise (·<·)) (hne:(!xs.isEmpty)=true):0<(Z xs).length/\wU (Z xs)=((xs.headD 0:Nat):Int):=⟨by rw[Yy]; cases xs; cases hne; simp,zee h⟩
theorem vF (cs:List Cl) (a:Nat):(qR cs a).Pairwise (·<·):=(ju cs a).filter _
theorem JH (cs:List Cl) (a b:Nat):(qe cs a b).Pairwise (·<·):=(ju cs a).filter _
theorem zbF (cf:CF){cs:List Cl}(d:Nat){o1 o2:Option OV}:jD 1 (.nm 0 5) (b_law_reason_1.ev cf) (b_law_reason_2.ev cf).1 (zc (zd cs d)) [] [some (.d (zj cs)),o1,o2,none,none]=.ok (zc (qR cs d),[some (.d (zj cs)),o1,o2,none,none]):=by
 have e:=zX (k:=1) (t:=.nm 0 5) (cond:=b_law_reason_1.ev cf) (elt:=(b_law_reason_2.ev cf).1) (ds:=zc (zd cs d)) (Γ:= [some (.d (zj cs)),o1,o2,none,none])
  (fun x=>match x with | .int i=>qK cs i.toNat | _=>false) id (by
   intro x hx
   obtain⟨i,hi,rfl⟩:=List.mem_map.mp hx
   have hw:=Vt (Q9 hi)
   refine⟨_,[some (.d (zj cs)),o1,o2,none,none,some (.d (.int i))],by simp[tgF]; rfl,?_,by simp,fun _=>⟨.dat (.int i),[some (.d (zj cs)),o1,o2,none,none,some (.d (.int i))],by simp![b_law_reason_2,OV.view,OV.views,zt,ixN,atI],rfl,by simp⟩⟩
   simp![b_law_reason_1,zj,hw,ja,YC,zL])
 have em:(zc (zd cs d)).filter (fun x=>match x with | .int i=>qK cs i.toNat | _=>false)=zc (qR cs d):=qE _ _
 rw[em,List.map_id] at e
 exact e
theorem zdX (cf:CF){xs ys:List Nat}{o0 o1 o2 o3:Option OV}:jD 1 (.nm 0 5) (b_law_reason_5.ev cf) (b_law_reason_6.ev cf).1 (zc xs) [] [o0,o1,o2,o3,some (.d (.list (zc ys)))]=.ok (zc (xs.filter fun x=> !ys.contains x),[o0,o1,o2,o3,some (.d (.list (zc ys)))]):=by
 have e:=zX (k:=1) (t:=.nm 0 5) (cond:=b_law_reason_5.ev cf) (elt:=(b_law_reason_6.ev cf).1) (ds:=zc xs) (Γ:= [o0,o1,o2,o3,some (.d (.list (zc ys)))])
  (fun x=>match x with | .int i=> !ys.contains i.toNat | _=>false) id (by
   intro x hx
   obtain⟨i,hi,rfl⟩:=List.mem_map.mp hx
   have hin:=wR ys i
   have hal:=wz ys
   refine⟨_,[o0,o1,o2,o3,some (.d (.list (zc ys))),some (.d (.int i))],by simp[tgF]; rfl,?_,by simp,fun _=>⟨.dat (.int i),[o0,o1,o2,o3,some (.d (.list (zc ys))),some (.d (.int i))],by simp![b_law_reason_6,OV.view,OV.views,zt,ixN,atI],rfl,by simp⟩⟩
   show _=R.ok (!ys.contains i,_)
   generalize ys.contains i=z at *
   generalize zc ys=ds at *
   have hal':∀ x∈ds,lay 20 x=true:=List.all_eq_true.mp hal
   simp![b_law_reason_5,hin,zm,OV.view,OV.views,zt,ixN,atI]
   rw[if_pos hal'])
 have em:(zc xs).filter (fun x=>match x with | .int i=> !ys.contains i.toNat | _=>false)=zc (xs.filter fun x=> !ys.contains x):=qE _ (fun x=> !ys.contains x)
 rw[em,List.map_id] at e
 exact e
theorem zdY (cf:CF){xs ys:List Nat}{o0 o1 o2 o4:Option OV}:jD 1 (.nm 0 5) (b_law_reason_3.ev cf) (b_law_reason_4.ev cf).1 (zc xs) [] [o0,o1,o2,some (.d (.list (zc ys))),o4]=.ok (zc (xs.filter fun x=> !ys.contains x),[o0,o1,o2,some (.d (.list (zc ys))),o4]):=by
 have e:=zX (k:=1) (t:=.nm 0 5) (cond:=b_law_reason_3.ev cf) (elt:=(b_law_reason_4.ev cf).1) (ds:=zc xs) (Γ:= [o0,o1,o2,some (.d (.list (zc ys))),o4])
  (fun x=>match x with | .int i=> !ys.contains i.toNat | _=>false) id (by
   intro x hx
   obtain⟨i,hi,rfl⟩:=List.mem_map.mp hx
   have hin:=wR ys i
   have hal:=wz ys
   refine⟨_,[o0,o1,o2,some (.d (.list (zc ys))),o4,some (.d (.int i))],by simp[tgF]; rfl,?_,by simp,fun _=>⟨.dat (.int i),[o0,o1,o2,some (.d (.list (zc ys))),o4,some (.d (.int i))],by simp![b_law_reason_4,OV.view,OV.views,zt,ixN,atI],rfl,by simp⟩⟩
   show _=R.ok (!ys.contains i,_)
   generalize ys.contains i=z at *
   generalize zc ys=ds at *
   have hal':∀ x∈ds,lay 20 x=true:=List.all_eq_true.mp hal
   simp![b_law_reason_3,hin,zm,OV.view,OV.views,zt,ixN,atI]
   rw[if_pos hal'])
 have em:(zc xs).filter (fun x=>match x with | .int i=> !ys.contains i.toNat | _=>false)=zc (xs.filter fun x=> !ys.contains x):=qE _ (fun x=> !ys.contains x)
 rw[em,List.map_id] at e
 exact e
noncomputable def Wi (cf:CF):Prop:=∀ (pots:Nat) (cs:List Cl) (a b:Nat),pots<=12->qS pots cs->Mem pots a->Mem pots b->cf "_law_reason" [.d (zj cs),.d (.int a),.d (.int b)]=.ok (.d (qh cs a b)) [none,none,none]
theorem y6 (cf:CF) (hc:Vx cf) (hl:qg "_law_lack" cf){pots:Nat}(hp:pots<=12){cs:List Cl}(hb:qS pots cs){a b:Nat}(ha:Mem pots a) (hbm:Mem pots b) :
  runI 5 [false,false,false] [] zM cf [.d (zj cs),.d (.int a),.d (.int b)]=.ok (.d (qh cs a b)) [none,none,none]:=by
 have ec:=hc pots cs a b hp hb ha hbm
 have hz:∀ d,(zd cs d).length<=1000000:=fun d=>by have:=Zo cs d; have:=hb.1; omega
 cases hcl:clB cs a b with
 | false=>
  rw[hcl] at ec
  rw[vH hcl]
  unfold zM
  simp![ec,OV.view,OV.views,zt,ixN,atI]
 | true=>
  rw[hcl] at ec
  have h0:a≠b:=fun e=>by subst e; simp[clB] at hcl
  unfold qh
  rw[if_neg h0]
  by_cases h1:a=12
  ·subst h1
   have hb':b<pots:=hbm.resolve_right fun z=>h0 z.symm
   rw[(wH cs fun e=>h0 e.symm).2] at hcl
   rw[if_pos rfl,qZ (by simp[hcl])]
   obtain⟨g1,g2⟩:=jv (vF cs b) hcl
   have ec':cf "_law_clash" [.d (zj cs),.d (.int 12),.d (.int b)]=.ok (.d (.bool true)) [none,none,none]:=ec
   have e1:=hl pots cs hb b hb'
   have v1:=zy (zd cs b)
   have e:=zbF cf (cs:=cs) b (o1:=some (.d (.int 12))) (o2:=some (.d (.int b)))
   have i1:=qN (qR cs b)
   have hz1:=hz b
   have hm:(b:Int)<12:=by omega
   simp only[zS] at e1 v1
   generalize Z (qR cs b)=zz at *
   generalize zc (qR cs b)=ww at *
   unfold zM
   simp![ec',e1,v1,hm,zo,hz1,zm,zA,inD,yG,e,i1,g1,g2,zL]
  ·have ha':a<pots:=ha.resolve_right h1
   have n1:((12:Int)==(a:Int))=false:=by simp; omega
   rw[if_neg h1]
   by_cases h2:b=12
   ·subst h2
    rw[(wH cs h1).1] at hcl
    rw[if_pos rfl,qZ (by simp[hcl])]
    obtain⟨g1,g2⟩:=jv (vF cs a) hcl
    have ec':cf "_law_clash" [.d (zj cs),.d (.int a),.d (.int 12)]=.ok (.d (.bool true)) [none,none,none]:=ec
    have e1:=hl pots cs hb a ha'
    have v1:=zy (zd cs a)
    have e:=zbF cf (cs:=cs) a (o1:=some (.d (.int a))) (o2:=some (.d (.int 12)))
    have i1:=qN (qR cs a)
    have hz1:=hz a
    have hm:¬ (12:Int)<a:=by omega
    simp only[zS] at e1 v1
    generalize Z (qR cs a)=zz at *
    generalize zc (qR cs a)=ww at *
    unfold zM
    simp![ec',e1,v1,hm,n1,zo,hz1,zm,zA,inD,yG,e,i1,g1,g2,zL]
   ·have hb':b<pots:=hbm.resolve_right h2
    have n2:((12:Int)==(b:Int))=false:=by simp; omega
    rw[YH cs h0 h1 h2,Bool.and_eq_true] at hcl
    rw[if_neg h2,qZ (by simp[hcl.1,hcl.2])]
    obtain⟨g1,g2⟩:=jv (JH cs a b) hcl.1
    obtain⟨g3,g4⟩:=jv (JH cs b a) hcl.2
    have e1:=hl pots cs hb a ha'
    have e2:=hl pots cs hb b hb'
    have v1:=zy (zd cs a)
    have v2:=zy (zd cs b)
    have c1:=zdX cf (xs:=zd cs a) (ys:=zd cs b) (o0:=some (.d (zj cs))) (o1:=some (.d (.int a))) (o2:=some (.d (.int b))) (o3:=some (.d (.list (zc (zd cs a)))))
    have c2:=zdY cf (xs:=zd cs b) (ys:=zd cs a) (o0:=some (.d (zj cs))) (o1:=some (.d (.int a))) (o2:=some (.d (.int b))) (o4:=some (.d (.list (zc (zd cs b)))))
    have i1:=qN (qe cs a b)
    have i2:=qN (qe cs b a)
    have q1:(zc (zd cs a)).length<=1000000:=by rw[zo]; exact hz a
    have q2:(zc (zd cs b)).length<=1000000:=by rw[zo]; exact hz b
    change _=R.ok (zc (qe cs a b),_) at c1
    change _=R.ok (zc (qe cs b a),_) at c2
    simp only[zS] at e1 e2 v1 v2
    generalize Z (qe cs a b)=z1 at *
    generalize Z (qe cs b a)=z2 at *
    generalize zc (qe cs a b)=w1 at *
    generalize zc (qe cs b a)=w2 at *
    generalize zc (zd cs a)=da at *
    generalize zc (zd cs b)=db at *
    unfold zM
    have m1:¬ (a:Int)=12:=by omega
    have m2:¬ (b:Int)=12:=by omega
    simp![ec,e1,v1,e2,v2,n1,n2,m1,m2,q1,q2,zm,zA,inD,yG,c1,c2,i1,i2,g1,g2,g3,g4,zL]
noncomputable def VD (cf:CF):Prop:=∀ b,zx b->∀ S:List Nat,1<=S.length->S.length<=1000->VC S (cf "_law_pairs" [b,.d (.list (zc S))])
theorem ZV (ls:List (List Nat)):zD ls=.none∨zD ls=.tuple (zc (ls.map fun l=>l.headD 0)):=by
 cases h:ls.all fun l=> !l.isEmpty with
 | false=>exact .inl (qY h)
 | true=>exact .inr (by rw[qZ h]; unfold zc; rw[List.map_map]; rfl)
theorem Wm (cs:List Cl) (a b:Nat):qh cs a b=.none∨∃ hs:List Nat,hs.length<=2/\qh cs a b=.tuple (zc hs):=by
 have one:∀ x:List Nat,zD [x]=.none∨∃ hs:List Nat,hs.length<=2/\zD [x]=.tuple (zc hs):=fun x=>(ZV [x]).imp id fun h=>⟨_,by simp,h⟩
 have two:∀ x y:List Nat,zD [x,y]=.none∨∃ hs:List Nat,hs.length<=2/\zD [x,y]=.tuple (zc hs):=fun x y=>(ZV [x,y]).imp id fun h=>⟨_,by simp,h⟩
 unfold qh
 split
 ·exact .inl rfl
 ·split
  ·exact one _
  ·split
   ·exact one _
   ·exact two _ _
end Wx
namespace L3
open PySem L2
section
variable [Cs] {K:PySem.W.Frag} {mg:Str->Option Value} {h:Heap} {d:DefI}
theorem el1 {α:Type}{P:List α->Prop}(h:∀ a0,P [a0]):∀ us:List α,us.length=1->P us:=fun us e=>by
 match us,e with
 | [a0],_=>exact h a0
theorem el2 {α:Type}{P:List α->Prop}(h:∀ a0 a1,P [a0,a1]):∀ us:List α,us.length=2->P us:=fun us e=>by
 match us,e with
 | [a0,a1],_=>exact h a0 a1
theorem el3 {α:Type}{P:List α->Prop}(h:∀ a0 a1 a2,P [a0,a1,a2]):∀ us:List α,us.length=3->P us:=fun us e=>by
 match us,e with
 | [a0,a1,a2],_=>exact h a0 a1 a2
theorem el4 {α:Type}{P:List α->Prop}(h:∀ a0 a1 a2 a3,P [a0,a1,a2,a3]):∀ us:List α,us.length=4->P us:=fun us e=>by
 match us,e with
 | [a0,a1,a2,a3],_=>exact h a0 a1 a2 a3
noncomputable def biOk (K:PySem.W.Frag) (L:List Str):Bool:=L.all fun x=>match PySem.W.nsIn K mainGlobals x with
 | some none=>true
 | _=>false
theorem bi_all {L:List Str}(X:K.In h) (G:h.Ns mainGlobals mg) (hk:biOk K L=true) (x:Str) (hx:L.contains x=true):mg x=none:=by
 have:=List.all_eq_true.mp hk x (List.elem_iff.mp hx)
 split at this
 ·exact PySem.W.mg_none_of X G (by assumption)
 ·cases this
noncomputable def giOk (K:PySem.W.Frag) (L:List (Str×Int)):Bool:=L.all fun p=>match PySem.W.nsIn K mainGlobals p.1 with
 | some (some (.int i _))=>decide (i=p.2)
 | _=>false
theorem gi_of {L:List (Str×Int)}(X:K.In h) (G:h.Ns mainGlobals mg) (hk:giOk K L=true) (x:Str) (i:Int) (hx:L.contains (x,i)=true):∃ t,mg x=some (.int i t):=by
 have:=List.all_eq_true.mp hk _ (List.elem_iff.mp hx)
 split at this
 ·rename_i e
  exact⟨_,(PySem.W.mg_of X G e).trans (by rw[of_decide_eq_true this])⟩
 ·cases this
noncomputable def gsOk (K:PySem.W.Frag) (L:List (Str×Str)):Bool:=L.all fun p=>match PySem.W.nsIn K mainGlobals p.1 with
 | some (some (.str i _))=>decide (i=p.2)
 | _=>false
theorem gs_of {L:List (Str×Str)}(X:K.In h) (G:h.Ns mainGlobals mg) (hk:gsOk K L=true) (x:Str) (i:Str) (hx:L.contains (x,i)=true):∃ t,mg x=some (.str i t):=by
 have:=List.all_eq_true.mp hk _ (List.elem_iff.mp hx)
 split at this
 ·rename_i e
  exact⟨_,(PySem.W.mg_of X G e).trans (by rw[of_decide_eq_true this])⟩
 ·cases this
noncomputable def exOk (K:PySem.W.Frag) (L:List Str):Bool:=L.all fun x=>match PySem.W.nsIn K mainGlobals x with
 | some (some (.ref a))=>PySem.W.excIn K a bmV "ValueError.__new__" &&L.all fun y=>match PySem.W.nsIn K mainGlobals y with
  | some (some (.ref b))=>decide ((mroIn K a).contains (.ref b)=decide (x=y))
  | _=>false
 | _=>false
theorem ex_of {L:List Str}(X:K.In h) (G:h.Ns mainGlobals mg) (hk:exOk K L=true):(∀ x,L.contains x=true->∃ C,mg x=some (.ref C)/\PySem.W.excIn K C bmV "ValueError.__new__" =true)/\∀ x C y C2,L.contains x=true->mg x=some (.ref C)->L.contains y=true->mg y=some (.ref C2)->(mroIn K C).contains (.ref C2)=decide (x=y):=by
 have hk:=List.all_eq_true.mp hk
 refine⟨fun x hx=>?_,fun x C y C2 hx e1 hy e2=>?_⟩
 ·have:=hk x (List.elem_iff.mp hx)
  split at this
  ·rename_i e
   simp only[Bool.and_eq_true] at this
   exact⟨_,PySem.W.mg_of X G e,this.1⟩
  ·cases this
 ·have:=hk x (List.elem_iff.mp hx)
  split at this
  ·rename_i e
   simp only[Bool.and_eq_true] at this
   have h2:=List.all_eq_true.mp this.2 y (List.elem_iff.mp hy)
   split at h2
   ·rename_i e'
    rw[PySem.W.mg_of X G e] at e1
    rw[PySem.W.mg_of X G e'] at e2
    cases e1
    cases e2
    exact of_decide_eq_true h2
   ·cases h2
  ·cases this
noncomputable def fkOk (K:PySem.W.Frag) (L:List (Str×Str)):Bool:=L.all fun p=>match PySem.W.nsIn K mainGlobals p.1 with
 | some (some (.ref C))=>PySem.W.plainGet K C Str.empty&&(PySem.W.hasDictIn K C&&(PySem.W.plainOver K C&&((match PySem.W.findIn K (.ref C) "__setattr__" with
   | some (some (.builtin b))=>decide (b= "object.__setattr__")
   | _=>false)&&match PySem.W.findIn K (.ref C) p.2 with
   | some none=>true
   | _=>false)))
 | _=>false
theorem fk_all {L:List (Str×Str)}(X:K.In h) (G:h.Ns mainGlobals mg) (hk:fkOk K L=true) (c f:Str) (hx:L.contains (c,f)=true):Cls K ((csOf mg).adr c)/\jF K ((csOf mg).adr c) f:=by
 have:=List.all_eq_true.mp hk _ (List.elem_iff.mp hx)
 split at this
 ·rename_i e
  simp only[Bool.and_eq_true] at this
  obtain⟨a1,a2,a3,a4,a5⟩:=this
  refine zd5 X G ⟨e,a1,a2,a3,?_⟩ ?_
  ·split at a4
   ·rename_i e2
    rw[e2,of_decide_eq_true a4]
   ·cases a4
  ·split at a5
   ·assumption
   ·cases a5
 ·cases this
noncomputable def AllX (K:PySem.W.Frag) (mg:Str->Option Value):List DefI->Prop
 | []=>True
 | d::r=> @Dx (csOf mg) K mg d/\AllX K mg r
theorem dx_all {W:Wd}:{L:List DefI}->AllX K mg L->(L.all fun d=>d.ok W)=true->∀ d∈L,@Dx (csOf mg) K mg d/\d.ok W=true
 | [],_,_=>fun d hd=>nomatch hd
 | e::r,a,ok=>fun d hd=>by
  simp only[List.all_cons,Bool.and_eq_true] at ok
  rcases List.mem_cons.mp hd with rfl | hd
  ·exact⟨a.1,ok.1⟩
  ·exact dx_all a.2 ok.2 d hd
end
end L3
set_option maxHeartbeats 4000000
namespace Wx
open PySem L2 L3
noncomputable def top (i:Nat):Stmt:=PySem.Challenge.pw_waxcloth_k11_why_they_clash.main.body.getD i (.Pass ⟨0,0,0,0⟩)
noncomputable def WG:DefI:=⟨"lacking",top 1,["bolt","dye"],["bolt","dye"],[false,false],[],ZJ,.fn⟩
noncomputable def yF:DefI:=⟨"apart",top 4,["bolt","one","other"],["bolt","one","other","ones","others","ones_alone","others_alone"],[false,false,false],[],qF,.fn⟩
noncomputable def jd:DefI:=⟨"lacking_under_wax",top 5,["bolt","dye"],["bolt","dye"],[false,false],[],zP,.fn⟩
noncomputable def jN:DefI:=⟨"apart_from_now",top 6,["bolt","dye"],["bolt","dye","cells"],[false,false],[],zN,.fn⟩
noncomputable def WF:DefI:=⟨"_law_whole",top 8,["_law_found"],["_law_found"],[false],[],jg,.fn⟩
noncomputable def wK:DefI:=⟨"_law_wholes",top 9,["_law_found"],["_law_found"],[false],[],qU,.fn⟩
noncomputable def WB:DefI:=⟨"_law_mixed",top 11,["_law_number","_law_turn"],["_law_number","_law_turn","_law_one","_law_two"],[false,false],[],jf,.fn⟩
noncomputable def vR:DefI:=⟨"_law_take",top 12,["_law_box_here","_law_many"],["_law_box_here","_law_many","_law_left","_law_cell_here"],[true,false],[0],qi,.fn⟩
noncomputable def WA:DefI:=⟨"_law_lacks",top 13,["_law_box_here","_law_pots","_law_size"],["_law_box_here","_law_pots","_law_size","_law_way","_law_ends","_law_rows","_law_at","_law_row","_law_low","_law_high"],[true,false,false],[0],je,.fn⟩
noncomputable def vO:DefI:=⟨"_law_cell",top 14,["_law_box_here","_law_row","_law_loose","_law_wet"],["_law_box_here","_law_row","_law_loose","_law_wet","_law_stain","_law_want","_law_bit","_law_shade"],[true,false,false,false],[0],qT,.fn⟩
noncomputable def vN:DefI:=⟨"_law_bolt",top 15,["_law_box_here","_law_pots","_law_size","_law_loose"],["_law_box_here","_law_pots","_law_size","_law_loose","_law_wet","_law_rows"],[true,false,false,false],[0],jG,.fn⟩
noncomputable def WD:DefI:=⟨"_law_sizes",top 16,["_law_box_here"],["_law_box_here"],[true],[0],qC,.fn⟩
noncomputable def vP:DefI:=⟨"_law_lack",top 17,["_law_rows","_law_dye"],["_law_rows","_law_dye"],[false,false],[],jH,.fn⟩
noncomputable def vQ:DefI:=⟨"_law_need",top 18,["_law_rows","_law_pots"],["_law_rows","_law_pots"],[false,false],[],jI,.fn⟩
noncomputable def WE:DefI:=⟨"_law_under",top 19,["_law_rows","_law_one","_law_other"],["_law_rows","_law_one","_law_other","_law_mine","_law_theirs"],[false,false,false],[],zH,.fn⟩
noncomputable def Wz:DefI:=⟨"_law_clash",top 20,["_law_rows","_law_one","_law_other"],["_law_rows","_law_one","_law_other"],[false,false,false],[],qk,.fn⟩
noncomputable def WC:DefI:=⟨"_law_pairs",top 21,["_law_box_here","_law_some"],["_law_box_here","_law_some","_law_found","_law_one","_law_other","_law_k"],[true,false],[0],qB,.fn⟩
noncomputable def wJ:DefI:=⟨"_law_reason",top 22,["_law_rows","_law_one","_law_other"],["_law_rows","_law_one","_law_other","_law_mine","_law_theirs"],[false,false,false],[],zM,.fn⟩
noncomputable def lawB_1:IB:=(.cons (.asg 9 9 (.dat (.call (.call "apart" 3 (.cons (.var 4 4) (.cons (.var 7 7) (.cons (.var 8 8) .nil))))))) (.cons (.asg 10 10 (.dat (.call (.call "_law_reason" 3 (.cons (.var 5 5) (.cons (.var 7 7) (.cons (.var 8 8) .nil))))))) (.cons (.ite (.and (.cmp .Is (.var 10 10) .cnone) (.cmp .IsNot (.var 9 9) .cnone)) (.cons (.ret (.dat (.cbool false))) .nil) .nil) (.cons (.ite (.and (.cmp .IsNot (.var 10 10) .cnone) (.not (.and (.isi "tuple" (.var 9 9)) (.and (.call (.call "_law_wholes" 1 (.cons (.new (.list (.var 9 9))) .nil))) (.cmp .Eq (.var 9 9) (.var 10 10)))))) (.cons (.ret (.dat (.cbool false))) .nil) .nil) .nil))))
noncomputable def defs:List DefI:= [WG,yF,jd,jN,WF,wK,WB,vR,WA,vO,vN,WD,vP,vQ,WE,Wz,WC,wJ]
noncomputable def lawB:IB:=(.cons (.asgT (.tp (.cons (.nm 2 2) (.cons (.nm 3 3) .nil))) (.call (.call "_law_sizes" 1 (.io 1 1 .nil)))) (.cons (.asg 4 4 (.dat (.call (.call "_law_bolt" 4 (.io 1 1 (.cons (.var 2 2) (.cons (.var 3 3) (.cons (.bin .Mult (.cint 6) (.call (.call "_law_take" 2 (.io 1 1 (.cons (.cint 3) .nil))))) .nil)))))))) (.cons (.asg 5 5 (.dat (.new (.list (.var 4 4))))) (.cons (.asg 6 6 (.dat (.new (.cat (.call (.call "_law_need" 2 (.cons (.var 5 5) (.cons (.var 2 2) .nil)))) (.new (.lst (.cons (.cint 12) .nil))))))) (.cons (.loop (.tp (.cons (.nm 7 7) (.cons (.nm 8 8) .nil))) (.list (.call (.call "_law_pairs" 2 (.io 1 1 (.cons (.var 6 6) .nil))))) lawB_1) (.cons (.ret (.dat (.cmp .Eq (.var 4 4) (.var 5 5)))) .nil))))))
noncomputable def W:Wd:=⟨["all","any","bool","enumerate","int","isinstance","len","list","max","min","range","set","sorted","tuple"],[("NOW",12)],[],[("lacking",2),("apart",3),("lacking_under_wax",2),("apart_from_now",2),("_law_whole",1),("_law_wholes",1),("_law_mixed",2),("_law_take",2),("_law_lacks",3),("_law_cell",4),("_law_bolt",4),("_law_sizes",1),("_law_lack",2),("_law_need",2),("_law_under",3),("_law_clash",3),("_law_pairs",2),("_law_reason",3)],[],[],[],[],[]⟩
noncomputable abbrev sBox:Stmt:=top 10
noncomputable abbrev sLaw:Stmt:=top 23
noncomputable def LN:List Str:= ["_law_script","_law_box_here","_law_pots","_law_size","_law_rows","_law_kept","_law_some","_law_one","_law_other","_law_found","_law_due"]
theorem okLaw:lawB.chk W (defScope sLaw) LN (List.range LN.length) LN.length 0 (defBody sLaw).tail=true:=by kernel_rfl
structure zb0 (cf:CF):Prop where
 take:qI cf
 sizes:VE cf
 bolt:Vv cf
 wholes:Wl cf
 need:Yw cf
 pairs:VD cf
 apart:Vu cf
 reason:Wi cf
theorem ok11 (n:Nat):zb0 (zr defs (n+20)):=by
 have hmixed:∀ k,VB (zr defs (k+1)):=fun k a b=>km (zr defs k) a b
 have htake:∀ k,qI (zr defs (k+2)):=fun k b hb n h1 h2=>zbn (zr defs (k+1)) (hmixed k) hb h1 h2
 have hsizes:∀ k,VE (zr defs (k+3)):=fun k b hb=>Kj (zr defs (k+2)) (htake k) hb
 have hlacks:∀ k,VA (zr defs (k+3)):=fun k b hb pots size h1 h2=>Y6 (zr defs (k+2)) (htake k) hb h1 h2
 have hcell:∀ k,Vw (zr defs (k+3)):=fun k b hb bs loose wet h1 h2 h3=>zag (zr defs (k+2)) (htake k) hb bs h1 h2 h3
 have hbolt:∀ k,Vv (zr defs (k+4)):=fun k b hb pots size loose h1 h2 h3 h4=>zab (zr defs (k+3)) (htake (k+1)) (hlacks k) (hcell k) hb h1 h2 h3 h4
 have hwhole:∀ k,VG (zr defs (k+1)):=fun k i=>KU (zr defs k) i
 have hwholes:∀ k,Wl (zr defs (k+2)):=fun k xs hx=>Yp (zr defs (k+1)) (hwhole k) hx
 have hlack:∀ k,qg "_law_lack" (zr defs (k+1)):=fun k pots cs hb d hd=>zas (zr defs k) hb hd
 have hneed:∀ k,Yw (zr defs (k+2)):=fun k pots cs hp hb=>zau (zr defs (k+1)) (hlack k) hp hb
 have hpairs:∀ k,VD (zr defs (k+3)):=fun k b hb S h1 h2=>kC (zr defs (k+2)) (htake k) hb h1 h2
 have hlacking:∀ k,qg "lacking" (zr defs (k+1)):=fun k pots cs hb d hd=>vZ (zr defs k) hb hd
 have hwax:∀ k,zbC (zr defs (k+2)):=fun k pots cs hb d hd=>zdJ (zr defs (k+1)) (hlacking k) hb hd
 have hanow:∀ k,Yr (zr defs (k+3)):=fun k pots cs hb d hd=>K8 (zr defs (k+2)) (hwax k) hb hd
 have hapart:∀ k,Vu (zr defs (k+4)):=fun k pots cs a b hp hb hc ha hb2=>YA (zr defs (k+3)) (hlacking (k+2)) (hanow k) hp hb hc ha hb2
 have hunder:∀ k,VF (zr defs (k+2)):=fun k pots cs a b hp hb ha hb2=>KG (zr defs (k+1)) (hlack k) hp hb ha hb2
 have hclash:∀ k,Vx (zr defs (k+3)):=fun k pots cs a b hp hb ha hb2=>YI (zr defs (k+2)) (hunder k) hp hb ha hb2
 have hreason:∀ k,Wi (zr defs (k+4)):=fun k pots cs a b hp hb ha hb2=>y6 (zr defs (k+3)) (hclash k) (hlack (k+2)) hp hb ha hb2
 exact⟨htake (n+18),hsizes (n+17),hbolt (n+16),hwholes (n+18),hneed (n+18),hpairs (n+17),hapart (n+16),hreason (n+16)⟩
theorem zdB (cf:CF) (h:zb0 cf){pots:Nat}(hp:pots<=12){cs:List Cl}(hb:qS pots cs) (hcl:cs.length<=60){a c:Nat}(ha:Mem pots a) (hc:Mem pots c){o0 o1 o2 o3 o6 o9 o10:Option OV} :
  lawB_1.ex cf [] [o0,o1,o2,o3,some (.d (zj cs)),some (.d (zj cs)),o6,some (.d (.int a)),some (.d (.int c)),o9,o10]
   = .ok (.next,[o0,o1,o2,o3,some (.d (zj cs)),some (.d (zj cs)),o6,some (.d (.int a)),some (.d (.int c)),some (.d (qh cs a c)),some (.d (qh cs a c))]):=by
 have e1:=h.apart pots cs a c hp hb hcl ha hc
 have e2:=h.reason pots cs a c hp hb ha hc
 rcases Wm cs a c with z | ⟨hs,hl,z⟩
 ·rw[z] at e1 e2 |-
  simp![lawB_1,e1,e2,zL,WX,isN]
 ·rw[z] at e1 e2 |-
  have e3:=h.wholes hs (by omega)
  have hy:lay 20 (.tuple (zc hs))=true:=Z7 fun x hx=>by
   obtain⟨i,_,rfl⟩:=List.mem_map.mp hx
   exact zm _ _
  have hq:=VM hy
  have hz:(zc hs).length<=1000000:=by rw[zo]; omega
  generalize zc hs=ds at *
  have hsq:∀ Γ:Gv,zt Γ (.dat (.tuple ds))=some ds:=fun _=>rfl
  simp![lawB_1,e1,e2,e3,hy,hq,hz,hsq,zL,WX,isN]
theorem law_run (cf:CF) (h:zb0 cf) (cells:List Int) (i l t s:Int) (hi:0<=i):∃ Γ',lawB.ex cf [] (none::some (jB cells i l t s)::List.replicate (LN.length-2) none)=.ok (.ret (.d (.bool true)),Γ'):=by
 have hB:zx (jB cells i l t s):=⟨_,_,_,_,_,hi,rfl⟩
 generalize jB cells i l t s=b at hB
 obtain⟨p,n,b1,hp0,hp1,hn0,hn1,hb1,e1⟩:=h.sizes b hB
 obtain⟨r,b2,hr0,hr1,hb2,e2⟩:=h.take b1 hb1 3 (by decide) (by decide)
 obtain⟨pots,rfl⟩:∃ k:Nat,p=k:=⟨p.toNat,by omega⟩
 obtain⟨size,rfl⟩:∃ k:Nat,n=k:=⟨n.toNat,by omega⟩
 have hP:pots<=12:=by omega
 obtain⟨cs,b3,hcl,hck,hb3,e3⟩:=h.bolt b2 hb2 pots size (6*r) (by omega) (by omega) (by omega) (by omega)
 have hb:qS pots cs:=⟨by omega,hck⟩
 have e4:=h.need pots cs (by omega) hb
 have hnl:=kt cs pots
 have hmem:∀ a∈jc cs pots++ [12],Mem pots a:=fun a ha=>by
  rcases List.mem_append.mp ha with ha | ha
  ·exact .inl (List.mem_range.mp (List.mem_filter.mp ha).1)
  ·exact .inr (by simpa using ha)
 have hLl:(jc cs pots++ [12]).length<=1000:=by simp; omega
 have hfold:zc (jc cs pots)++ [.int 12]=zc (jc cs pots++ [12]):=by simp[zc]
 have hz3:(zc (jc cs pots)).length+1<=1000000:=by rw[zo]; omega
 have v4:=zy (jc cs pots)
 generalize hS:jc cs pots++ [12]=S at *
 have hS1:1<=S.length:=by rw[<- hS]; simp
 obtain⟨ps,b4,hps,hpl,hb4,e6⟩:=h.pairs b3 hb3 S hS1 hLl
 have hy:lay 20 (zj cs)=true:=Y8 17 _
 have hq:=VM hy
 have hvc:=vE cs
 have hm:(-18446744073709551616:Int)<6/\(6:Int)<18446744073709551616:=by decide
 obtain⟨Γ',e9,⟨o7,o8,o9,o10,rfl⟩⟩:=qu (t:=.tp (.cons (.nm 7 7) (.cons (.nm 8 8) .nil))) (body:=lawB_1.ex cf []) (ds:=ps) (Γ:= [none,some b4,some (.d (.int pots)),some (.d (.int size)),some (.d (zj cs)),some (.d (zj cs)),some (.d (.list (zc S))),none,none,none,none])
  (fun pre Γ=>∃ o7 o8 o9 o10:Option OV,Γ= [none,some b4,some (.d (.int pots)),some (.d (.int size)),some (.d (zj cs)),some (.d (zj cs)),some (.d (.list (zc S))),o7,o8,o9,o10]) ⟨_,_,_,_,rfl⟩ (by
   rintro pre x post e Γ ⟨o7,o8,o9,o10,rfl⟩
   obtain⟨a,ha,c,hc,rfl⟩:=hps x (by rw[e]; simp)
   exact⟨[none,some b4,some (.d (.int pots)),some (.d (.int size)),some (.d (zj cs)),some (.d (zj cs)),some (.d (.list (zc S))),some (.d (.int a)),some (.d (.int c)),o9,o10],_,by simp[tgF,tgFs],zdB cf h hP hb (by omega) (hmem a ha) (hmem c hc),_,_,_,_,rfl⟩)
 simp only[zS] at e4 v4
 simp![lawB,e1,e2,e3,e4,e6,e9,LN,hm,hz3,hfold,hy,hq,v4,hvc,zcp,ixN,atI,y9,yo,zL,zbx,zm,zA]
section
variable [L2.Cs] {P:Program} {w:World} {K:PySem.W.Frag} {mg:Str->Option Value} {base:Heap}
theorem YK (ns:List Int) (lo hi:Option Int):∃ ms:List Int,QX (ns.map V.int) lo hi=ms.map V.int/\ms.length<=ns.length:=by
 refine⟨(ns.drop (HT.sIx (ns.map V.int).length 0 lo)).take (HT.sIx (ns.map V.int).length (ns.map V.int).length hi-HT.sIx (ns.map V.int).length 0 lo),?_,?_⟩
 ·unfold QX
  rw[List.map_take,List.map_drop]
 ·rw[List.length_take,List.length_drop]; omega
theorem scBox:qA ["_law_script","_law_seed","_law_cell_here"] ["_law_script"] (defScope sBox):=⟨rfl,rfl,rfl,by decide +kernel,rfl,by decide +kernel,by decide +kernel⟩
theorem kn_box (D:Df K mg "_law_box" sBox ["_law_script"]) (B:mg "list" =none):Kn P w K mg base CX0 "_law_box" 1 (Kl K) :=
 D.kn (k:=0) scBox (fun vs H Q E ⟨a,ns,e,_⟩=>by rw[e]; rfl) fun f cdv A outer s H vs Q E hr ⟨a,ns,e,hS,hlen,kk⟩=>by
  subst e
  refine PSs.wp (Zu (w4 (i:=1) scBox.nd rfl (Or.inl rfl) pe_int)
   (Zu (kP PassesOwn.never rfl (V0 (W7 V7 (pv 0) wY (wZ pe_int))) (VZ (i:=2) scBox.nd rfl (Or.inl rfl))
    (w5 (w4 (i:=1) scBox.nd rfl (Or.inl rfl) (wd kA (wd v6 (wd v6 (wd kB (pv 1) pe_int) (pv 2)) pe_int) pe_int))))
   (w5 (kQ (kI (zp (jw Zk rfl B jK (zp (W7 V7 (pv 0) wY (wZ pe_int)) pa_nil)) (zp pe_int (zp pe_int (zp pe_int (zp (pv 1) pa_nil)))))))))) ?_
  obtain⟨ms,ems,hms⟩:=YK ns none (some 63)
  refine⟨_,rfl,_,rfl,a,_,rfl,hS,fun q nq=>⟨q,rfl,⟨_,SqL.of zi⟩,YT (K:=K) (a:=q) (xs:=QX (ns.map V.int) none (some 63)) (fun i σ H2=>H2=upd H q (.lst (QX (ns.map V.int) none (some 63)))/\∃ sd v,σ= [some (.ref a),some (.int sd),v])
   ⟨rfl,0,none,rfl⟩ (fun i σ H2 _ ⟨e,_⟩=>by rw[e]; exact SqL.of zi) ?_ ?_⟩⟩
  ·rintro i x σ H2 hx ⟨rfl,sd,v,rfl⟩
   obtain⟨z,rfl⟩:∃ z,x=V.int z:=by
    rw[ems] at hx
    have:=List.mem_of_getElem? hx
    obtain⟨z,_,rfl⟩:=List.mem_map.mp this
    exact⟨z,rfl⟩
   refine⟨_,rfl,_,_,rfl,rfl,.inr (by decide),_,rfl,_,_,rfl,rfl,_,_,rfl,rfl,_,_,rfl,rfl,(by show (0:Int)<2147483647; decide),?_⟩
   exact⟨rfl,_,_,rfl⟩
  ·rintro σ H2 ⟨rfl,sd,v,rfl⟩
   have s1:Same H (upd H q (.lst (QX (ns.map V.int) none (some 63)))):=zv nq
   refine⟨_,rfl,_,rfl,a,_,rfl,s1.seq hS,fun q2 nq2=>⟨q2,_,rfl,.inl (SqL.of zi),fun l nl=>⟨_,rfl,(by show 5<=sizeLine; decide),fun b nb=>?_⟩⟩⟩
   have s2:=s1.trans (zv (o:=.lst (QX (ns.map V.int) none (some 63))) nq2)
   have s3:=s2.trans (zv (o:=.lst (QX (ns.map V.int) none (some 63))) nl)
   have hlb:l≠b:=fun e=>by rw[<- e,zi] at nb; cases nb
   refine kk b _ (s3.trans (zv nb)) (s3.free nb) (by rw[zi]; exact fun z=>nomatch z) ⟨l,ms,0,0,0,sd,rfl,zi,?_,Int.le_refl 0⟩
   refine .list (vs:=ms.map V.int) (by rw[ze hlb,zi,ems]) hlb (RepL.ints ms)
theorem hw:wOk defs W=true:=by kernel_rfl
theorem hgd:∀ x kf,W.gd.contains (x,kf)=true->GD w K mg x kf:=fun x kf h=>nomatch h
theorem okS:Jj LN ["_law_script"] (defScope sLaw)=true:=by kernel_rfl
theorem oks:(defs.all fun d=>d.ok W)=true:=by kernel_rfl
theorem hdd {h:Heap}(X:K.In h) (G:h.Ns mainGlobals mg) (D0:Df K mg "lacking" (top 1) ["bolt","dye"]) (D1:Df K mg "apart" (top 4) ["bolt","one","other"]) (D2:Df K mg "lacking_under_wax" (top 5) ["bolt","dye"]) (D3:Df K mg "apart_from_now" (top 6) ["bolt","dye"]) (D4:Df K mg "_law_whole" (top 8) ["_law_found"]) (D5:Df K mg "_law_wholes" (top 9) ["_law_found"]) (D6:Df K mg "_law_mixed" (top 11) ["_law_number","_law_turn"]) (D7:Df K mg "_law_take" (top 12) ["_law_box_here","_law_many"]) (D8:Df K mg "_law_lacks" (top 13) ["_law_box_here","_law_pots","_law_size"]) (D9:Df K mg "_law_cell" (top 14) ["_law_box_here","_law_row","_law_loose","_law_wet"]) (D10:Df K mg "_law_bolt" (top 15) ["_law_box_here","_law_pots","_law_size","_law_loose"]) (D11:Df K mg "_law_sizes" (top 16) ["_law_box_here"]) (D12:Df K mg "_law_lack" (top 17) ["_law_rows","_law_dye"]) (D13:Df K mg "_law_need" (top 18) ["_law_rows","_law_pots"]) (D14:Df K mg "_law_under" (top 19) ["_law_rows","_law_one","_law_other"]) (D15:Df K mg "_law_clash" (top 20) ["_law_rows","_law_one","_law_other"]) (D16:Df K mg "_law_pairs" (top 21) ["_law_box_here","_law_some"]) (D17:Df K mg "_law_reason" (top 22) ["_law_rows","_law_one","_law_other"]):AllX K mg defs:=⟨qf rfl D0,qf rfl D1,qf rfl D2,qf rfl D3,qf rfl D4,qf rfl D5,qf rfl D6,qf rfl D7,qf rfl D8,qf rfl D9,qf rfl D10,qf rfl D11,qf rfl D12,qf rfl D13,qf rfl D14,qf rfl D15,qf rfl D16,qf rfl D17,trivial⟩
end
noncomputable def dP (s:Stmt):Arguments:=match s with
 | .FunctionDef _ a _ _ _ _ _ _ _ _=>a
 | _=>⟨[],[],none,[],[],none,[]⟩
noncomputable abbrev dB:=L2.defBody
noncomputable abbrev dS:=L2.defScope
noncomputable abbrev dE (P:PySem.Params) (n:Str) (t:Nat) (v:Value):DictEntry:=.mk (PySem.PyData.keyHash P n) (.str n t) v
noncomputable abbrev dR (P:PySem.Params) (n:Str) (t a:Nat):DictEntry:=.mk (PySem.PyData.keyHash P n) (.str n t) (.ref a)
noncomputable def v3 (c:Nat):List (Nat×Nat)->List Value
 | []=> []
 | (l,a)::r=>.int l 0::.int c 0::.ref a::v3 c r
noncomputable abbrev o3 (c:Nat) (l:List (Nat×Nat)):Obj:=.mk .none none (.fields (v3 c l).toArray) #[]
noncomputable def sL:Nat->List Str->List Value
 | _,[]=> []
 | t,s::r=>.str s t::sL (t+1) r
noncomputable abbrev sN (t:Nat) (l:List Str):Array Value:=(sL t l).toArray
noncomputable abbrev oA:Obj:=PySem.Obj.mk (.type "tuple") none (.seq #[] 0) #[]
noncomputable abbrev oB (s0:Str) (n1 n2 n3 n4:Nat):Obj:=PySem.Obj.mk (.type "code") none (.fields #[(.str s0 n1),(.str s0 (n1+1)),(.str "/claim/cut.py" (n1+2)),(.int ((n2:Nat):Int) 0),(.int ((n3:Nat):Int) 0),(.int 0 0),(.int 0 0),(.int 3 0),(.ref n4),(.bool true),(.int 181 0),(.ref (n4+1)),.none,.none,.none,(.ref (n4+2)),(.int ((n1+3:Nat):Int) 0),(.int ((n2:Nat):Int) 0),(.str "/claim/cut.py" (n1+4))]) #[]
noncomputable abbrev oC (s0 s2:Str) (n1 n3 n4:Nat):Obj:=PySem.Obj.mk (.type "function") none (.func (PySem.FuncData.mk s0 s0 (dP (top n1)) (.stmts (dB (top n1))) (dS (top n1)) 3 [] .none .none .none (.str s2 n3) none (.ref n4) .none 0)) #[]
noncomputable abbrev oD (s0:Str) (n1 n2 n3 n4 n5:Nat):Obj:=PySem.Obj.mk (.type "code") none (.fields #[(.str s0 n1),(.str s0 (n1+1)),(.str "/claim/cut.py" (n1+2)),(.int ((n2:Nat):Int) 0),(.int ((n3:Nat):Int) 0),(.int 0 0),(.int 0 0),(.int 3 0),(.ref n4),(.bool true),(.int 181 0),(.ref (n4+1)),.none,(.ref (n4+2)),(.ref (n4+3)),(.ref (n4+4)),(.int ((n5:Nat):Int) 0),(.int ((n2:Nat):Int) 0),(.str "/claim/cut.py" (n5+1))]) #[]
noncomputable abbrev oE (s1 s2 s3:Str) (n0:Nat):Obj:=PySem.Obj.mk (.type "tuple") none (.seq (sN n0 [s1,s2,s3]) 0) #[]
noncomputable abbrev oF:Obj:=PySem.Obj.mk (.type "code") none (.fields #[(.str "<module>" 182),(.str "<module>" 183),(.str "/claim/cut.py" 184),(.int 1 0),(.int 0 0),(.int 0 0),(.int 0 0),(.int 0 0),(.ref 11),(.bool false),(.int 181 0),(.ref 12),.none,.none,.none,.none,(.int 185 0),(.int 1 0),(.str "/claim/cut.py" 186)]) #[]
noncomputable abbrev oG:Obj:=PySem.Obj.mk (.type "frame") none .plain #[(some (.ref 13)),(some (.ref 3)),(some (.ref 3)),none,(some (.str "__main__" 164)),none,(some (.ref 0))]
noncomputable abbrev oH:Obj:=PySem.Obj.mk .none none (.fields #[]) #[]
noncomputable abbrev oI (s0:Str) (n1:Nat):Obj:=PySem.Obj.mk .none none (.func (PySem.FuncData.mk s0 s0 (dP (top n1)) (.stmts (dB (top n1))) (dS (top n1)) 0 [] .none .none .none .none none .none .none 0)) #[]
noncomputable def K (P:PySem.Params):PySem.W.Frag :=
 (nat_lit 2,(PySem.Obj.mk .none none (.dict #[] 0) #[])) ::
 (nat_lit 3,(PySem.Obj.mk (.type "dict") none (.dict #[(dE P "__name__" 165 (.str "law_waxcloth_k11_why_they_clash" 227)),(dE P "__doc__" 166 .none),(dE P "__package__" 167 .none),(dE P "__loader__" 168 (.builtin "__main__.__loader__#opaque")),(dE P "__spec__" 169 .none),dR P "__annotations__" 170 6,dR P "__builtins__" 171 4,(dE P "__file__" 173 (.str "/claim/cut.py" 172)),(dE P "__cached__" 174 .none),dR P "lacking" 194 19,(dE P "NOW" 198 (.int 12 197)),dR P "apart" 211 26,dR P "lacking_under_wax" 217 31,dR P "apart_from_now" 226 38,dR P "_law_whole" 235 45,dR P "_law_wholes" 241 50,dR P "_law_box" 250 57,dR P "_law_mixed" 260 64,dR P "_law_take" 270 71,dR P "_law_lacks" 276 76,dR P "_law_cell" 290 83,dR P "_law_bolt" 296 88,dR P "_law_sizes" 303 95,dR P "_law_lack" 309 100,dR P "_law_need" 315 105,dR P "_law_under" 321 110,dR P "_law_clash" 330 117,dR P "_law_pairs" 342 124,dR P "_law_reason" 348 129,dR P "law" 365 136] 30) #[])) ::
 (nat_lit 15,oA) ::
 (nat_lit 18,(oB "lacking" 189 2 2 15)) ::
 (nat_lit 19,(oC "lacking" "waxcloth.needs" 1 187 18)) ::
 (nat_lit 20,oA) ::
 (nat_lit 22,(PySem.Obj.mk (.type "tuple") none (.seq (sN 202 ["bolt","one","other","ones","others","ones_alone","others_alone"]) 0) #[])) ::
 (nat_lit 23,oA) ::
 (nat_lit 25,(oD "apart" 199 6 3 20 209)) ::
 (nat_lit 26,(oC "apart" "waxcloth.order" 4 195 25)) ::
 (nat_lit 27,oA) ::
 (nat_lit 30,(oB "lacking_under_wax" 212 20 2 27)) ::
 (nat_lit 31,(oC "lacking_under_wax" "waxcloth.order" 5 195 30)) ::
 (nat_lit 32,oA) ::
 (nat_lit 34,(oE "bolt" "dye" "cells" 221)) ::
 (nat_lit 35,oA) ::
 (nat_lit 37,(oD "apart_from_now" 218 22 2 32 224)) ::
 (nat_lit 38,(oC "apart_from_now" "waxcloth.order" 6 195 37)) ::
 (nat_lit 39,oA) ::
 (nat_lit 41,(PySem.Obj.mk (.type "tuple") none (.seq (sN 232 ["_law_found"]) 0) #[])) ::
 (nat_lit 42,oA) ::
 (nat_lit 44,(oD "_law_whole" 229 28 1 39 233)) ::
 (nat_lit 45,(oC "_law_whole" "law_waxcloth_k11_why_they_clash" 8 227 44)) ::
 (nat_lit 46,oA) ::
 (nat_lit 49,(oB "_law_wholes" 236 30 1 46)) ::
 (nat_lit 50,(oC "_law_wholes" "law_waxcloth_k11_why_they_clash" 9 227 49)) ::
 (nat_lit 51,oA) ::
 (nat_lit 53,(oE "_law_script" "_law_seed" "_law_cell_here" 245)) ::
 (nat_lit 54,oA) ::
 (nat_lit 56,(oD "_law_box" 242 32 1 51 248)) ::
 (nat_lit 57,(oC "_law_box" "law_waxcloth_k11_why_they_clash" 10 227 56)) ::
 (nat_lit 58,oA) ::
 (nat_lit 60,(PySem.Obj.mk (.type "tuple") none (.seq (sN 254 ["_law_number","_law_turn","_law_one","_law_two"]) 0) #[])) ::
 (nat_lit 61,oA) ::
 (nat_lit 63,(oD "_law_mixed" 251 37 2 58 258)) ::
 (nat_lit 64,(oC "_law_mixed" "law_waxcloth_k11_why_they_clash" 11 227 63)) ::
 (nat_lit 65,oA) ::
 (nat_lit 67,(PySem.Obj.mk (.type "tuple") none (.seq (sN 264 ["_law_box_here","_law_many","_law_left","_law_cell_here"]) 0) #[])) ::
 (nat_lit 68,oA) ::
 (nat_lit 70,(oD "_law_take" 261 41 2 65 268)) ::
 (nat_lit 71,(oC "_law_take" "law_waxcloth_k11_why_they_clash" 12 227 70)) ::
 (nat_lit 72,oA) ::
 (nat_lit 75,(oB "_law_lacks" 271 55 3 72)) ::
 (nat_lit 76,(oC "_law_lacks" "law_waxcloth_k11_why_they_clash" 13 227 75)) ::
 (nat_lit 77,oA) ::
 (nat_lit 79,(PySem.Obj.mk (.type "tuple") none (.seq (sN 280 ["_law_box_here","_law_row","_law_loose","_law_wet","_law_stain","_law_want","_law_bit","_law_shade"]) 0) #[])) ::
 (nat_lit 80,oA) ::
 (nat_lit 82,(oD "_law_cell" 277 72 4 77 288)) ::
 (nat_lit 83,(oC "_law_cell" "law_waxcloth_k11_why_they_clash" 14 227 82)) ::
 (nat_lit 84,oA) ::
 (nat_lit 87,(oB "_law_bolt" 291 83 4 84)) ::
 (nat_lit 88,(oC "_law_bolt" "law_waxcloth_k11_why_they_clash" 15 227 87)) ::
 (nat_lit 89,oA) ::
 (nat_lit 91,(PySem.Obj.mk (.type "tuple") none (.seq (sN 300 ["_law_box_here"]) 0) #[])) ::
 (nat_lit 92,oA) ::
 (nat_lit 94,(oD "_law_sizes" 297 87 1 89 301)) ::
 (nat_lit 95,(oC "_law_sizes" "law_waxcloth_k11_why_they_clash" 16 227 94)) ::
 (nat_lit 96,oA) ::
 (nat_lit 99,(oB "_law_lack" 304 91 2 96)) ::
 (nat_lit 100,(oC "_law_lack" "law_waxcloth_k11_why_they_clash" 17 227 99)) ::
 (nat_lit 101,oA) ::
 (nat_lit 104,(oB "_law_need" 310 93 2 101)) ::
 (nat_lit 105,(oC "_law_need" "law_waxcloth_k11_why_they_clash" 18 227 104)) ::
 (nat_lit 106,oA) ::
 (nat_lit 109,(oB "_law_under" 316 95 3 106)) ::
 (nat_lit 110,(oC "_law_under" "law_waxcloth_k11_why_they_clash" 19 227 109)) ::
 (nat_lit 111,oA) ::
 (nat_lit 113,(oE "_law_rows" "_law_one" "_law_other" 325)) ::
 (nat_lit 114,oA) ::
 (nat_lit 116,(oD "_law_clash" 322 105 3 111 328)) ::
 (nat_lit 117,(oC "_law_clash" "law_waxcloth_k11_why_they_clash" 20 227 116)) ::
 (nat_lit 118,oA) ::
 (nat_lit 120,(PySem.Obj.mk (.type "tuple") none (.seq (sN 334 ["_law_box_here","_law_some","_law_found","_law_one","_law_other","_law_k"]) 0) #[])) ::
 (nat_lit 121,oA) ::
 (nat_lit 123,(oD "_law_pairs" 331 107 2 118 340)) ::
 (nat_lit 124,(oC "_law_pairs" "law_waxcloth_k11_why_they_clash" 21 227 123)) ::
 (nat_lit 125,oA) ::
 (nat_lit 128,(oB "_law_reason" 343 117 3 125)) ::
 (nat_lit 129,(oC "_law_reason" "law_waxcloth_k11_why_they_clash" 22 227 128)) ::
 (nat_lit 130,oA) ::
 (nat_lit 132,(PySem.Obj.mk (.type "tuple") none (.seq (sN 352 ["_law_script","_law_box_here","_law_pots","_law_size","_law_rows","_law_kept","_law_some","_law_one","_law_other","_law_found","_law_due"]) 0) #[])) ::
 (nat_lit 133,oA) ::
 (nat_lit 135,(oD "law" 349 125 1 130 363)) ::
 (nat_lit 136,(oC "law" "law_waxcloth_k11_why_they_clash" 23 227 135)):: []
noncomputable abbrev RR:PySem.W.RowW:=PySem.W.OpenRow.toRowW (PySem.W.OpenLaw.row PySem.Challenge.rw_waxcloth_k11_why_they_clash)
noncomputable def Q:Program:={ RR.prog with main:={ RR.prog.main with body:= [top 1,top 3,top 4,top 5,top 6,top 8,top 9,top 10,top 11,top 12,top 13,top 14,top 15,top 16,top 17,top 18,top 19,top 20,top 21,top 22,top 23] } }
noncomputable def asL:List Nat:= [2,3,15,18,19,20,22,23,25,26,27,30,31,32,34,35,37,38,39,41,42,44,45,46,49,50,51,53,54,56,57,58,60,61,63,64,65,67,68,70,71,72,75,76,77,79,80,82,83,84,87,88,89,91,92,94,95,96,99,100,101,104,105,106,109,110,111,113,114,116,117,118,120,121,123,124,125,128,129,130,132,133,135,136]
theorem asE:∀ P,asL=(K P).map (·.1):=fun _=>by kernel_rfl
noncomputable def zei (P:PySem.Params):List (Nat×Obj) :=
 (0,PySem.W.boot_o_0 P) ::
 (1,PySem.W.boot_o_1 P) ::
 (4,PySem.W.boot_o_4 P) ::
 (5,PySem.W.boot_o_5 P) ::
 (6,PySem.W.boot_o_6 P) ::
 (7,PySem.W.boot_o_7 P) ::
 (8,PySem.W.boot_o_8 P) ::
 (9,PySem.W.boot_o_9 P) ::
 (10,PySem.W.boot_o_10 P) ::
 (11,oA) ::
 (12,(o3 0 [(2,18),(6,25),(20,30),(22,37),(28,44),(30,49),(32,56),(37,63),(41,70),(55,75),(72,82),(83,87),(87,94),(91,99),(93,104),(95,109),(105,116),(107,123),(117,128),(125,135)])) ::
 (13,oF) ::
 (14,oG) ::
 (16,oH) ::
 (17,(oI "lacking" 1)) ::
 (21,oH) ::
 (24,(oI "apart" 4)) ::
 (28,oH) ::
 (29,(oI "lacking_under_wax" 5)) ::
 (33,oH) ::
 (36,(oI "apart_from_now" 6)) ::
 (40,oH) ::
 (43,(oI "_law_whole" 8)) ::
 (47,oH) ::
 (48,(oI "_law_wholes" 9)) ::
 (52,oH) ::
 (55,(oI "_law_box" 10)) ::
 (59,oH) ::
 (62,(oI "_law_mixed" 11)) ::
 (66,oH) ::
 (69,(oI "_law_take" 12)) ::
 (73,oH) ::
 (74,(oI "_law_lacks" 13)) ::
 (78,oH) ::
 (81,(oI "_law_cell" 14)) ::
 (85,oH) ::
 (86,(oI "_law_bolt" 15)) ::
 (90,oH) ::
 (93,(oI "_law_sizes" 16)) ::
 (97,oH) ::
 (98,(oI "_law_lack" 17)) ::
 (102,oH) ::
 (103,(oI "_law_need" 18)) ::
 (107,oH) ::
 (108,(oI "_law_under" 19)) ::
 (112,oH) ::
 (115,(oI "_law_clash" 20)) ::
 (119,oH) ::
 (122,(oI "_law_pairs" 21)) ::
 (126,oH) ::
 (127,(oI "_law_reason" 22)) ::
 (131,oH) ::
 (134,(oI "law" 23)):: []
noncomputable def mix:Nat->Nat->List (Nat×Obj)->List (Nat×Obj)->List Obj
 | 0,_,_,_=> []
 | n+1,i,(a,x)::l,(b,y)::r=>match Nat.beq a i with
  | true=>x::mix n (i+1) l ((b,y)::r)
  | false=>y::mix n (i+1) ((a,x)::l) r
 | n+1,i,(_,x)::l,[]=>x::mix n (i+1) l []
 | n+1,i,[],(_,y)::r=>y::mix n (i+1) [] r
 | _+1,_,[],[]=> []
noncomputable def ev:Bool->List Obj->List Obj
 | _,[]=> []
 | true,x::r=>x::ev false r
 | false,_::r=>ev true r
noncomputable def bt:Nat->List Obj->PySem.W.BT
 | 0,_=>.nil
 | _+1,[]=>.nil
 | n+1,x::r=>.node x (bt n (ev true r)) (bt n (ev false r))
noncomputable def lf:Life:=(.mk [] [] [] 0 [] [] false #[] [] 0 false false false 0 [2000,10,10] false 0 true [] [] 0 false)
noncomputable def zeh (P:PySem.Params):List Obj:=mix 137 0 (K P) (zei P)
noncomputable def zco:Env:={ scope:=RR.prog.main.scope,locals:=mainNs,globals:=mainNs,cells:= [],code:=.ref 13,frame:=some 14 }
noncomputable def bH:List Stmt:=PySem.W.behindTheImports RR.prog
noncomputable def cH:Code:=.body bH zco
noncomputable abbrev BH:List Frame:= [PySem.W.topFrame ⟨0,0,0,0⟩]
noncomputable def zcJ (P:PySem.Params):List Obj:= [PySem.W.boot_o_0 P,PySem.W.boot_o_1 P,PySem.W.boot_o_2 P,PySem.W.boot_o_3 P,PySem.W.boot_o_4 P,PySem.W.boot_o_5 P,PySem.W.boot_o_6 P,PySem.W.boot_o_7 P,PySem.W.boot_o_8 P,PySem.W.boot_o_9 P,PySem.W.boot_o_10 P,oA,oH,oF,oG]
set_option maxHeartbeats 0 in
theorem preH:∀ w:World,(fun os=>PySem.W.topGo treeTable RR.prog w 11 (some (.ref 6)) 12 ⟨PySem.W.boot_heap w.params,Array.mk [],PySem.W.boot_drawn,PySem.W.boot_toks,os⟩ (PySem.W.topStub RR.prog))=fun os=>some (⟨⟨(zcJ w.params).toArray,lf⟩,Array.mk [],PySem.W.boot_drawn,187,os⟩,⟨denote treeTable cH,cH,⟨0,0,0,0⟩,BH⟩):=fun w=>by kernel_rfl
noncomputable def tr0 (P:PySem.Params):PySem.W.BT:=bt 14 (zcJ P)
set_option maxHeartbeats 0 in
theorem zb7:∀ w:World,(fun os=>PySem.W.segRun treeTable RR.prog w 11 (some (.ref 6)) 1 1 ⟨⟨(zcJ w.params).toArray,lf⟩,Array.mk [],PySem.W.boot_drawn,187,os⟩ (PySem.W.blockOf bH zco cH ⟨0,0,0,0⟩ BH))=fun os=>some (.next,(PySem.W.SharedT.mk (tr0 w.params) 15 lf (Array.mk []) PySem.W.boot_drawn 187 os).abs,cH,⟨0,0,0,0⟩):=fun w=>by kernel_rfl
noncomputable def tr1 (P:PySem.Params):PySem.W.BT:=bt 14 (zeh P)
noncomputable def zeK:List Stmt:=bH
set_option maxHeartbeats 0 in
theorem zey:∀ w:World,(fun os=>PySem.W.segRunT treeTable RR.prog w 11 (some (.ref 6)) 1 630 (PySem.W.SharedT.mk (tr0 w.params) 15 lf (Array.mk []) PySem.W.boot_drawn 187 os) (PySem.W.piecesOf zeK zco cH ⟨0,0,0,0⟩ BH))=fun os=>some (.next,(PySem.W.SharedT.mk (tr1 w.params) 137 lf (Array.mk []) PySem.W.boot_drawn 366 os),cH,⟨125,0,138,33⟩):=fun w=>by kernel_rfl
noncomputable def hE (P:PySem.Params):Heap:=⟨(zeh P).toArray,lf⟩
set_option maxHeartbeats 0 in
theorem finH:∀ w:World,(fun os=>PySem.W.topRun treeTable RR.prog w 11 (some (.ref 6)) 2 (PySem.W.SharedT.mk (tr1 w.params) 137 lf (Array.mk []) PySem.W.boot_drawn 366 os).abs ⟨PySem.W.doneF .next,cH,⟨125,0,138,33⟩,BH⟩)=fun os=>some ⟨hE w.params,Array.mk [],PySem.W.boot_drawn,366,os⟩:=fun w=>by kernel_rfl
theorem zdW:bH=zeK++([]):=by kernel_rfl
theorem runH (w:World) (os:OsState):PySem.W.topRun treeTable RR.prog w 11 (some (.ref 6)) (12+(1+(630+2))) ⟨PySem.W.boot_heap w.params,Array.mk [],PySem.W.boot_drawn,PySem.W.boot_toks,os⟩ (PySem.W.topStub RR.prog)=some ⟨hE w.params,Array.mk [],PySem.W.boot_drawn,366,os⟩:=by
 refine PySem.W.go_top (congrFun (preH w) os) (PySem.W.piece_block (congrFun (zb7 w) os) ?_)
 rw[zdW]
 exact PySem.W.piece_app (PySem.W.segRun_of (congrFun (zey w) os)) (PySem.W.piece_nil (congrFun (finH w) os))
noncomputable abbrev XtH:Shared->Bool:=fun s=>PySem.W.xlAt Q [] s&&PySem.W.recOk (PySem.W.RowW.records RR) s
set_option maxHeartbeats 0 in
theorem zcF:∀ w:World,(fun os=>((PySem.W.staticsOk (importedModules RR.prog.main.body) (PySem.W.boot_heap w.params) (hE w.params)&&PySem.W.namesBound RR.prog (hE w.params)&&PySem.W.gensDone ⟨hE w.params,Array.mk [],PySem.W.boot_drawn,366,os⟩&&PySem.W.laidKept (PySem.W.boot_heap w.params) (hE w.params)),PySem.W.openSeen Q [] (importedModules RR.prog.main.body) XtH true ⟨hE w.params,Array.mk [],PySem.W.boot_drawn,366,os⟩,(PySem.W.Hook.obs (PySem.W.kHook K asL asE)) ⟨hE w.params,Array.mk [],PySem.W.boot_drawn,366,os⟩))=fun _=>(true,PySem.W.openGood Q [],PySem.W.Hook.val (PySem.W.kHook K asL asE) w):=fun w=>by kernel_rfl
theorem zen:PySem.W.opening RR.prog=PySem.W.plainProg RR.prog.main.scope.names:=by kernel_rfl
theorem zcr:∀ s,fenceModules? RR.prog s=some s:=fun s=>by kernel_rfl
theorem zeE:∀ w:World,((PySem.W.boot_heap w.params).isNs mainGlobals&&(Array.mk ([]:List GenState)).size==0,(PySem.W.boot_heap w.params).objs.size,(PySem.W.boot_heap w.params).nsMap mainGlobals "__annotations__")=(true,11,(some (.ref 6))):=fun w=>by kernel_rfl
theorem left:PySem.W.LeftO RR.prog Q [] XtH (PySem.W.Hook.obs (PySem.W.kHook K asL asE)) (PySem.W.Hook.val (PySem.W.kHook K asL asE)) 1384 :=
 PySem.W.LeftO.of_pieces (PySem.W.boot_open zen (by decide +kernel) zcr) zeE runH (by decide +kernel) zcF
set_option maxHeartbeats 0 in
theorem saidL:PySem.W.OpenLaw.wellSaid PySem.Challenge.rw_waxcloth_k11_why_they_clash=true:=by kernel_rfl
end Wx
open PySem PySem.W PyProof.Rows
set_option hygiene false in
local macro_rules
 | `(tactic| rotate_left 1)=>`(tactic| (dsimp only [L2.KOf]; refine' L2.Df.of KX G ?a ?l ?c ?k (fun _ _ _ _ _ _=>L3.el1 fun _=>rfl); (case a=>k_is); (case l=>k_is); (case c=>k_is); (case k=>k_is)))
 | `(tactic| rotate_left 2)=>`(tactic| (dsimp only [L2.KOf]; refine' L2.Df.of KX G ?a ?l ?c ?k (fun _ _ _ _ _ _=>L3.el2 fun _ _=>rfl); (case a=>k_is); (case l=>k_is); (case c=>k_is); (case k=>k_is)))
 | `(tactic| rotate_left 3)=>`(tactic| (dsimp only [L2.KOf]; refine' L2.Df.of KX G ?a ?l ?c ?k (fun _ _ _ _ _ _=>L3.el3 fun _ _ _=>rfl); (case a=>k_is); (case l=>k_is); (case c=>k_is); (case k=>k_is)))
 | `(tactic| rotate_left 4)=>`(tactic| (dsimp only [L2.KOf]; refine' L2.Df.of KX G ?a ?l ?c ?k (fun _ _ _ _ _ _=>L3.el4 fun _ _ _ _=>rfl); (case a=>k_is); (case l=>k_is); (case c=>k_is); (case k=>k_is)))
set_option maxHeartbeats 0 in
theorem PySem.Challenge.cw_waxcloth_k11_why_they_clash_holds : PySem.Challenge.rw_waxcloth_k11_why_they_clash.Holds := by
 w_on; refine PySem.W.holds_law Wx.saidL fun said=>?_
 refine PySem.W.holds_open (q:=Wx.Q) (loose:= []) (XP:=PySem.W.XL Wx.Q []) (YP:=PySem.W.Hook.says (PySem.W.kHook Wx.K Wx.asL Wx.asE)) (N:=1384) Wx.left (PySem.W.Hook.of (PySem.W.kHook Wx.K Wx.asL Wx.asE)) (PySem.W.Hook.keeps (PySem.W.kHook Wx.K Wx.asL Wx.asE)) (fun s e=>PySem.W.xl_of s (Bool.and_eq_true_iff.mp e).1) PySem.W.XL.keeps (by rfl) (by rfl) (by rfl) (fun s e=>PySem.W.recFacts_of (Bool.and_eq_true_iff.mp e).2) (by rfl) (by first | assumption | decide +kernel) (by decide +kernel) ⟨rfl,rfl,rfl,rfl,rfl,by decide +kernel⟩ ?hw ?hc
 (case hw=>w_witness2)
 k_fill
 haveI:L2.Cs:=⟨fun _=>0⟩
 refine L2.walkL (l:=PySem.Challenge.rw_waxcloth_k11_why_they_clash) (k:=43) (st:=Wx.sLaw) rfl rfl ⟨rfl,by decide,by decide⟩ (fun w h Y=>PySem.W.kIn_of Y) ?F
 case F=>
  intro w mg fa h KX G hmg
  letI:L2.Cs:=L3.csOf mg
  have HD:L3.AllX (L2.KOf KX) mg Wx.defs:=Wx.hdd KX G (by rotate_left 2) (by rotate_left 3) (by rotate_left 2) (by rotate_left 2) (by rotate_left 1) (by rotate_left 1) (by rotate_left 2) (by rotate_left 2) (by rotate_left 3) (by rotate_left 4) (by rotate_left 4) (by rotate_left 1) (by rotate_left 2) (by rotate_left 2) (by rotate_left 3) (by rotate_left 3) (by rotate_left 2) (by rotate_left 3)
  have DB:L2.Df (L2.KOf KX) mg "_law_box" Wx.sBox ["_law_script"]:=by rotate_left 1
  have HB:∀ x,Wx.W.bi.contains x=true->mg x=none:=L3.bi_all (K:=L2.KOf KX) KX G (by kernel_rfl)
  have HX:=L3.ex_of (K:=L2.KOf KX) (L:=Wx.W.ex) KX G (by kernel_rfl)
  have L:L2.Dl (L2.KOf KX) "law" Wx.sLaw fa "_law_script" :=by
   dsimp only [L2.KOf]
   refine' L2.Dl.of KX G hmg ?a ?l ?c ?k ?b
   (case a=>k_is); (case l=>k_is); (case c=>k_is); (case k=>k_is)
   (case b=>exact fun s u=>.of_eq rfl)
  refine⟨L,fun fd Ff base=>?_⟩
  exact L3.law_ok Ff Wx.okS (Wx.kn_box DB (HB "list" (by kernel_rfl))) (by decide) (L3.wk_all (L3.dx_all HD Wx.oks) Wx.hw HB (L3.gi_of (K:=L2.KOf KX) KX G (by kernel_rfl)) (L3.gs_of (K:=L2.KOf KX) KX G (by kernel_rfl)) HX.1 HX.2 Wx.hgd (L3.fk_all (K:=L2.KOf KX) KX G (by kernel_rfl)) 20) (by decide) rfl rfl rfl rfl (by first | exact Or.inl rfl | exact Or.inr rfl) rfl Wx.okLaw (fun cells i l t s hi=>Wx.law_run _ (Wx.ok11 0) cells i l t s hi)
