import PyProof.Rows.All
import Wide.All
import OpenK.AllK
import Wide.FinOn
import Lean
import PyProof.EqAt
import PyProof.EqKinds
import PyProof.TupleCall
import PyProof.NeData
import PyProof.DictCompW
import PyProof.WalksEnum
import PyProof.Rows.SortWalk
import PyProof.Rows.SetFrom
import PyProof.SetKind
import PyProof.SetRoads
import PyProof.Tail
import PyProof.FactsAll.set_2
import KE.KRevIter
import KE.KDictList
import PyProof.Rows.SortStr
import PyProof.DictWalks
import PyProof.DictItems
import KE.KPairComp
import PyProof.Rows.ListMul
import PyProof.Rows.StrWeight2
import PyProof.Rows.StrNews2
import PyProof.CallStr
import PyProof.FString
import PyProof.StrBlockH
import PyProof.SliceStr2
import KE.KIntText
import PyProof.Rows.StrNews
import PyProof.StrLoop
import PyProof.StrCalls
import PyProof.StrWalks
import PyProof.ZipIter
import PyProof.WalksMore
import PySem.Challenge.RW_waxcloth_k26_barred
set_option maxHeartbeats 0
set_option maxRecDepth 100000
set_option bootstrap.genMatcherCode false
set_option compiler.extract_closed false
abbrev xa:=@Bool.and_eq_true
abbrev xb:=@List.getElem?_eq_some_iff
abbrev xc:=@List.getElem?_append_left
abbrev xf:=@List.getElem?_append_right
abbrev xg:=@List.getElem?_eq_getElem
abbrev xh:=@Nat.le_refl
abbrev xi:=@List.mem_cons_of_mem
abbrev xj:=@List.getElem?_set_ne
abbrev xk:=@List.getElem?_map
abbrev xl:=@List.getElem?_set_self
abbrev xn:=@List.length_cons
abbrev xo:=@List.length_map
abbrev xq:=@List.mem_append_left
abbrev xr:=@Nat.ne_of_lt
abbrev xt:=@List.mem_cons
abbrev xu:=@List.size_toArray
abbrev xv:=@Nat.lt_of_lt_of_le
abbrev xw:=@List.mem_cons_self
abbrev xy:=@List.getElem?_eq_none
abbrev xz:=@List.lookup_cons
abbrev xA:=@List.all_eq_true
abbrev xB:=@List.map_cons
abbrev xC:=@List.length_append
abbrev xD:=@List.filterMap_cons
abbrev xE:=@List.mem_filter
abbrev xF:=@List.mem_append_right
abbrev xG:=@List.nodup_cons
abbrev xH:=@Nat.le_trans
abbrev xI:=@List.mem_map
abbrev xJ:=@List.mem_of_getElem?
abbrev xL:=@List.mem_range
abbrev xM:=@List.mem_append
abbrev xO:=@Bool.or_eq_true
abbrev xP:=@List.map_map
abbrev xQ:=@Bool.and_eq_true_iff
abbrev xR:=@List.append_assoc
abbrev xS:=@List.length_range
abbrev xT:=@Bool.false_eq_true
abbrev xU:=@List.getElem?_replicate
abbrev xV:=@List.getElem?_take_of_lt
abbrev xW:=@List.filter_append
abbrev xX:=@List.append_nil
abbrev xY:=@List.flatten_cons
abbrev xZ:=@List.range_succ
abbrev ua:=@List.length_filter_le
abbrev uc:=@Array.getD_eq_getD_getElem?
abbrev ud:=@List.length_take
abbrev ue:=@List.ext_getElem?
abbrev uf:=@Nat.lt_irrefl
abbrev ug:=@List.any_cons
abbrev uh:=@List.length_set
abbrev ui:=@List.length_nil
abbrev uj:=@Bool.eq_iff_iff
abbrev uk:=@Nat.zero_le
abbrev ul:=@List.elem_iff
abbrev um:=@List.replicate_succ
abbrev uo:=@Nat.zero_add
abbrev uq:=@List.nodup_append
abbrev ut:=@List.contains_cons
abbrev uv:=@Nat.le_of_lt
abbrev uw:=@List.all_cons
abbrev ux:=@List.getElem?_range
abbrev uy:=@List.filter_cons
abbrev uz:=@List.getElem?_cons_succ
abbrev uA:=@Bool.false_ne_true
abbrev uB:=@Int.emod_lt_of_pos
abbrev uC:=@List.foldl_cons
abbrev uD:=@List.length_replicate
abbrev uE:=@List.set_append_right
abbrev uF:=@Array.getElem?_eq_some_iff
abbrev uG:=@List.set_append_left
abbrev uH:=@List.getElem?_of_mem
abbrev uI:=@Nat.lt_succ_self
abbrev uJ:=@List.nil_append
abbrev uK:=@Int.emod_nonneg
abbrev uL:=@List.map_append
abbrev uM:=@List.mem_filterMap
abbrev uN:=@List.mem_singleton
abbrev uO:=@Nat.le_succ
abbrev uP:=@List.length_eq_zero_iff
abbrev uQ:=@Nat.lt_succ_of_lt
abbrev uR:=@List.pairwise_map
abbrev uS:=@Nat.not_lt
abbrev uT:=@List.take_length
abbrev uU:=@List.drop_length
abbrev uV:=@Bool.not_true
abbrev uW:=@Option.map_some
abbrev uX:=@Nat.ne_of_gt
set_option Elab.async false
set_option linter.all false
namespace L2
open PySem PySem.Spec PyProof.Rows
noncomputable abbrev Key:=Sum Int Str
noncomputable def zeQ:Key->Value->Bool
 |.inl k,v=>Value.isInt k v
 |.inr x,v=>Value.isStrOf x v
noncomputable def keyH(w:World):Key->Int
 |.inl k=>hashInt k
 |.inr x=>hashStr w x
theorem zR:∀ {k:Key}{v:Value},zeQ k v=true->(∃ i t,k=Sum.inl i/\v=Value.int i t)∨(∃ x t,k=Sum.inr x/\v=Value.str x t)
 |.inl i,v,h=>by
  obtain⟨t,e⟩:=Value.isInt_shape (k:=i) (v:=v) h
  exact .inl ⟨i,t,rfl,e⟩
 |.inr x,v,h=>by
  obtain⟨t,e⟩:=Value.isStrOf_shape (x:=x) (v:=v) h
  exact .inr ⟨x,t,rfl,e⟩
theorem zfQ(a b:Int):decide ((Sum.inl a:Key)=Sum.inl b)=(a==b):=by
 by_cases e:a=b
 ·subst e;simp
 ·have h:¬ (Sum.inl a:Key)=Sum.inl b:=fun q=>e (Sum.inl.inj q)
  rw[decide_eq_false h]
  exact (beq_eq_false_iff_ne.mpr e).symm
theorem zfT(a b:Str):decide ((Sum.inr a:Key)=Sum.inr b)=decide (a=b):=by
 by_cases e:a=b
 ·subst e;simp
 ·have h:¬ (Sum.inr a:Key)=Sum.inr b:=fun q=>e (Sum.inr.inj q)
  rw[decide_eq_false h,decide_eq_false e]
theorem zfR(a:Int)(b:Str):decide ((Sum.inl a:Key)=Sum.inr b)=false:=decide_eq_false (fun q=>nomatch q)
theorem zfS(a:Str)(b:Int):decide ((Sum.inr a:Key)=Sum.inl b)=false:=decide_eq_false (fun q=>nomatch q)
noncomputable def vA(prog:Program)(w:World):PySem.KeyKind prog w Key where
 is:=zeQ
 hash:=keyH w
 inj:=fun v a b ha hb=>by
  rcases zR ha with ⟨i,t,rfl,rfl⟩ | ⟨x,t,rfl,rfl⟩
  ·rcases zR hb with ⟨j,u,rfl,e⟩ | ⟨y,u,rfl,e⟩
   ·injection e with e1 _;rw[e1]
   ·exact nomatch e
  ·rcases zR hb with ⟨j,u,rfl,e⟩ | ⟨y,u,rfl,e⟩
   ·exact nomatch e
   ·injection e with e1 _;rw[e1]
 byValue:=fun k v h=>by
  rcases zR h with ⟨i,t,rfl,rfl⟩ | ⟨x,t,rfl,rfl⟩<;>rfl
 pyHash:=fun hv h=>by
  rcases zR hv with ⟨i,t,rfl,rfl⟩ | ⟨x,t,rfl,rfl⟩
  ·exact wpAny_pyHash_int h
  ·exact wpAny_pyHash_str h
 eqBool:=fun hu hv h=>by
  rcases zR hu with ⟨i,t,rfl,rfl⟩ | ⟨x,t,rfl,rfl⟩
  ·rcases zR hv with ⟨j,u,rfl,rfl⟩ | ⟨y,u,rfl,rfl⟩
   ·rw[zfQ]at h;exact wpAny_eqBool_int h
   ·rw[zfR]at h;exact SeqAt.EqAt.int_str i t y u _ _ _ _ h
  ·rcases zR hv with ⟨j,u,rfl,rfl⟩ | ⟨y,u,rfl,rfl⟩
   ·rw[zfS]at h;exact SeqAt.EqAt.str_int x t j u _ _ _ _ h
   ·rw[zfT]at h;exact wpAny_eqBool_str h
 «strs»:=fun k x t v h=>by
  rcases zR h with ⟨i,u,rfl,e⟩ | ⟨y,u,rfl,e⟩
  ·exact nomatch e
  ·injection e with e1 _
   subst e1
   cases v<;>rfl
inductive V where
 |non | bl (b:Bool) | int (i:Int) | str (x:Str) | byt (b:Array UInt8) | flt (b:UInt64) | ref (a:Addr) | ty (n:String)
 deriving DecidableEq
noncomputable def RelV:V->Value->Prop
 |.non,u=>u=Value.none
 |.bl b,u=>u=Value.bool b
 |.int i,u=>∃ t,u=Value.int i t
 |.str x,u=>∃ t,u=Value.str x t
 |.byt b,u=>∃ t,u=Value.bytes b t
 |.flt b,u=>∃ t,u=Value.float b t
 |.ref a,u=>u=Value.ref a
 |.ty n,u=>u=Value.type n
noncomputable abbrev Vals:List V->List Value->Prop:=Paired RelV
theorem Vals.length{xs:List V}{us:List Value}(r:Vals xs us):xs.length=us.length:=Paired.length r
theorem Vals.get:∀ {xs:List V}{us:List Value}{i:Nat}{x:V},Vals xs us->xs[i]?=some x->∃ u,us[i]?=some u/\RelV x u
 |_,_,_,_,.nil,e=>by simp at e
 |_,_,0,_,.cons r _,e=>by simp at e;subst e;exact⟨_,rfl,r⟩
 |_,_,i+1,x,.cons _ t,e=>by
  obtain⟨u,h1,h2⟩:=Vals.get (i:=i) (x:=x) t (by simpa using e)
  exact⟨u,by simpa using h1,h2⟩
theorem Vals.set (r:RelV x u):∀ {xs:List V}{us:List Value}(i:Nat),Vals xs us->Vals (xs.set i x) (us.set i u)
 |_,_,_,.nil=>.nil
 |_,_,0,.cons _ t=>.cons r t
 |_,_,i+1,.cons q t=>.cons q (Vals.set r i t)
theorem Vals.append:∀ {xs ys:List V}{us ws:List Value},Vals xs us->Vals ys ws->Vals (xs++ys) (us++ws)
 |_,_,_,_,.nil,s=>s
 |_,_,_,_,.cons r t,s=>.cons r (Vals.append t s)
theorem Vals.take:∀ {xs:List V}{us:List Value}(n:Nat),Vals xs us->Vals (xs.take n) (us.take n)
 |_,_,0,_=>.nil
 |_,_,_+1,.nil=>.nil
 |_,_,n+1,.cons r t=>.cons r (Vals.take n t)
theorem Vals.drop:∀ {xs:List V}{us:List Value}(n:Nat),Vals xs us->Vals (xs.drop n) (us.drop n)
 |_,_,0,r=>r
 |_,_,_+1,.nil=>.nil
 |_,_,n+1,.cons _ t=>Vals.drop n t
noncomputable def RelO:Option V->Option Value->Prop
 |some v,some u=>RelV v u
 |none,none=>True
 |_,_=>False
noncomputable def KV{κ:Type}:List (κ×V)->List (κ×Value)->Prop:=Paired fun (p:κ×V) (q:κ×Value)=>p.1=q.1/\RelV p.2 q.2
noncomputable def kV:Key->V
 |.inl i=>.int i
 |.inr x=>.str x
inductive HO where
 /-- a list -/
 |lst (xs:List V)
 /-- a tuple (never changes) -/
 |tup (xs:List V)
 /-- a dict whose keys are ints and texts;one whose keys are tuples of ints and texts (the empty one is qA) -/
 |dK (kvs:List (Key×V)) | dT (kvs:List (List Key×V))
 /-- a set of ints: its members,its size -/
 |set (S:Int->Bool) (n:Nat)
 /-- an instance of the class at C,its dict at dx,its attributes -/
 |ins (C dx:Addr) (fs:List (Str×V))
 /-- the dict of the instance at x -/
 |own (x:Addr)
 /-- the dict of an exception -/
 |xd (fs:List (Str×V))
 /-- a bound method,f of x -/
 |met (f x:Addr)
 /-- a range object lo,lo+1,.. below hi -/
 |rng (lo hi:Int)
 /-- a thing that is known to the object (the script;a dict while a loop walks it): read,never written while it is so -/
 |frz (o:Obj) (u:HO)
 /-- a code object's table -/
 |tbl (ps:Array Value)
 /-- any other thing,by what is true of its one object (a def of one's own: SetO a S n:=HO.ext fun h=>..) -/
 |ext (φ:Heap->Prop)
noncomputable abbrev Hp:=Addr->Option HO
noncomputable def upd(H:Hp)(a:Addr)(o:HO):Hp:=fun b=>if b=a then some o else H b
theorem zk :upd H a o a=some o:=by unfold upd;rw[if_pos rfl]
theorem zg (h:b≠a):upd H a o b=H b:=by unfold upd;rw[if_neg h]
theorem zhG{H:Hp}{a b:Addr}{o u:HO}(h:H a=some o)(h':H b=some u)(d:o≠u):a≠b:=by
 intro e;subst e;rw[h]at h';exact d (Option.some.inj h')
theorem zN{H:Hp}{a b:Addr}{o:HO}(h:H a=some o)(h':H b=none):a≠b:=by
 intro e;subst e;rw[h]at h';cases h'
section
variable (P:Program)(w:World)
noncomputable def ObjOk(H:Hp)(h:Heap)(a:Addr):HO->Prop
 |.lst xs=>xs.length<=sizeLine/\∃ (its:List Value) (n:Nat),Vals xs its/\h.get? a=some { cls:=.type "list",data:=.seq its.toArray n }
 |.tup xs=>xs.length<=sizeLine/\∃ its:List Value,Vals xs its/\IsTup h a its.toArray
 |.dK kvs=>kvs.length<=sizeLine/\(a==sysModules)=false/\∃ vs,KV kvs vs/\h.DictOf (vA P w) a vs
 |.dT kvs=>kvs.length<=sizeLine/\(a==sysModules)=false/\∃ xs:List (List Key×Addr×Value),
   Paired (fun (p:List Key×V) (q:List Key×Addr×Value)=>p.1=q.1/\H q.2.1=some (.tup (p.1.map kV))/\RelV p.2 q.2.2) kvs xs /\
   ∃ o es ep,h.get? a=some o/\o.ExactDict/\o.data=.dict es ep/\es.toList=xs.map (entryOfKey (tupleKind (vA P w)))/\(xs.map (·.1)).Nodup
 |.set S n=>h.SetOf (intKind P w) a S n
 |.ins C dx fs=>H dx=some (.own a)/\fs.length<=1000/\dx≠a/\h.get? a=some (PySem.W.instObj C dx) /\
   ∃ mA,h.Ns1 dx mA/\(∀ f,RelO (fs.lookup f) (mA f))/\PySem.Within mA (fs.map (·.1))
 |.own _=>∃ o,h.get? a=some o
 |.xd fs=>∃ mA,h.Ns1 a mA/\∀ f,RelO (fs.lookup f) (mA f)
 |.rng lo hi=>∃ t u v,h.get? a=some { cls:=.type "range",data:=.fields #[.int lo t,.int hi u,.int 1 v] }
 |.frz o u=>h.get? a=some o/\ObjOk H h a u
 |.tbl ps=>h.get? a=some { cls:=.none,data:=.fields ps }
 |.met f x=>h.get? a=some (PySem.W.methodObj (.ref f) (.ref x))
 |.ext φ=>φ h/\(∃ o,h.get? a=some o)/\∀ h1 h2:Heap,φ h1->(∀ o,h1.get? a=some o->h2.get? a=some o)->φ h2
noncomputable def HOk(H:Hp)(h:Heap):Prop:=∀ a o,H a=some o->ObjOk P w H h a o
end
section
variable {P:Program}{w:World}{H H':Hp}{h h':Heap}{a:Addr}{o:HO}
theorem ObjOk.lt(x:ObjOk P w H h a o):a<h.objs.size:=by
 cases o with
 |lst xs=>obtain⟨_,_,_,_,e⟩:=x;exact Heap.lt_size e
 |tup xs=>obtain⟨_,_,_,p⟩:=x;exact p.lt
 |dK kvs=>obtain⟨_,_,_,_,o,_,_,e,_⟩:=x;exact Heap.lt_size e
 |dT kvs=>obtain⟨_,_,_,_,o,_,_,e,_⟩:=x;exact Heap.lt_size e
 |set S n=>obtain⟨o,_,_,_,e,_⟩:=x;exact Heap.lt_size e
 |ins C dx fs=>obtain⟨_,_,_,e,_⟩:=x;exact Heap.lt_size e
 |own y=>obtain⟨_,e⟩:=x;exact Heap.lt_size e
 |xd fs=>obtain⟨_,⟨_,_,_,e,_⟩,_⟩:=x;exact Heap.lt_size e
 |rng lo hi=>obtain⟨_,_,_,e⟩:=x;exact Heap.lt_size e
 |frz ob u=>obtain⟨e,_⟩:=x;exact Heap.lt_size e
 |tbl ps=>exact Heap.lt_size (show h.get? a=some _ from x)
 |met f y=>exact Heap.lt_size (show h.get? a=some _ from x)
 |ext φ=>obtain⟨_,⟨_,e⟩,_⟩:=x;exact Heap.lt_size e
theorem Paired.mapP{α β:Type}{F G:α->β->Prop}:∀ {l₁:List α} {l₂:List β},Paired F l₁ l₂->(∀ a b,F a b->G a b)->Paired G l₁ l₂
 |_,_,.nil,_=>.nil
 |_,_,.cons r t,f=>.cons (f _ _ r) (Paired.mapP t f)
theorem ObjOk.stay(x:ObjOk P w H h a o)(k:∀ b u,(b=a∨H b=some (.own a))->h.get? b=some u->h'.get? b=some u)
  (ho:∀ b,H b=some (.own a)->H' b=some (.own a)) (ht:∀ b xs,H b=some (.tup xs)->H' b=some (.tup xs)):ObjOk P w H' h' a o:=by
 induction o with
 |lst xs=>obtain⟨z,its,n,r,e⟩:=x;exact⟨z,its,n,r,k _ _ (.inl rfl) e⟩
 |tup xs=>obtain⟨z,its,r,ob,e,c⟩:=x;exact⟨z,its,r,ob,k _ _ (.inl rfl) e,c⟩
 |dK kvs=>obtain⟨z,y,vs,r,ob,es,ep,e,c⟩:=x;exact⟨z,y,vs,r,ob,es,ep,k _ _ (.inl rfl) e,c⟩
 |dT kvs=>
  obtain⟨z,y,xs,r,ob,es,ep,e,c⟩:=x
  exact⟨z,y,xs,Paired.mapP r fun p q z=>⟨z.1,ht _ _ z.2.1,z.2.2⟩,ob,es,ep,k _ _ (.inl rfl) e,c⟩
 |set S n=>obtain⟨ob,es,ep,t,e,c⟩:=x;exact⟨ob,es,ep,t,k _ _ (.inl rfl) e,c⟩
 |ins C dx fs=>
  obtain⟨d,z,ne,e,mA,⟨od,es,ep,e2,c⟩,r⟩:=x
  exact⟨ho _ d,z,ne,k _ _ (.inl rfl) e,mA,⟨od,es,ep,k _ _ (.inr d) e2,c⟩,r⟩
 |own y=>obtain⟨ob,e⟩:=x;exact⟨ob,k _ _ (.inl rfl) e⟩
 |xd fs=>obtain⟨mA,⟨od,es,ep,e,c⟩,r⟩:=x;exact⟨mA,⟨od,es,ep,k _ _ (.inl rfl) e,c⟩,r⟩
 |rng lo hi=>obtain⟨t,u,v,e⟩:=x;exact⟨t,u,v,k _ _ (.inl rfl) e⟩
 |frz ob u ih=>obtain⟨e,q⟩:=x;exact⟨k _ _ (.inl rfl) e,ih q⟩
 |tbl ps=>
  have e:h.get? a=some { cls:=.none,data:=.fields ps }:=x
  show h'.get? a=some { cls:=.none,data:=.fields ps }
  exact k a _ (.inl rfl) e
 |met f y=>
  have e:h.get? a=some (PySem.W.methodObj (.ref f) (.ref y)):=x
  show h'.get? a=some (PySem.W.methodObj (.ref f) (.ref y))
  exact k a _ (.inl rfl) e
 |ext φ=>obtain⟨p,⟨o,e⟩,st⟩:=x;exact⟨st _ _ p fun o q=>k _ _ (.inl rfl) q,⟨o,k _ _ (.inl rfl) e⟩,st⟩
theorem HOk.lt(x:HOk P w H h)(e:H a=some o):a<h.objs.size:=(x a o e).lt
theorem HOk.fresh(x:HOk P w H h)(e:h.objs.size<=a):H a=none:=by
 cases q:H a with
 |none=>rfl
 |some u=>exact absurd (xv (x.lt q) e) (uf _)
theorem HOk.kept(x:HOk P w H h)(k:∀ b u,h.get? b=some u->h'.get? b=some u):HOk P w H h':=fun a o e=>
 (x a o e).stay (fun b u _ q=>k b u q) (fun _ q=>q) fun _ _ q=>q
theorem HOk.laid(x:HOk P w H h)(k:∀ b u,h.get? b=some u->h'.get? b=some u)(hp:h.objs.size<=a)(new:ObjOk P w (upd H a o) h' a o):HOk P w (upd H a o) h':=fun b u e=>by
 have hn:=x.fresh hp
 by_cases hb:b=a
 ·subst hb;rw[zk]at e;cases e;exact new
 ·rw[zg hb]at e
  exact (x b u e).stay (fun c v _ q=>k c v q) (fun c q=>by rw[zg (zN q hn)];exact q) fun c xs q=>by rw[zg (zN q hn)];exact q
end
noncomputable def Rd(H:Hp)(a:Addr)(u:HO):Prop:=H a=some u∨∃ o,H a=some (.frz o u)
theorem Rd.ok (r:Rd H a u)(x:HOk P w H h):ObjOk P w H h a u:=by
 rcases r with r | ⟨o,r⟩
 ·exact x a u r
 ·obtain⟨_,q⟩:=x a _ r
  exact q
noncomputable def Mut:Option HO->Prop
 |some (.lst _)=>True
 |some (.dK _)=>True
 |some (.dT _)=>True
 |some (.set _ _)=>True
 |some (.ins _ _ _)=>True
 |some (.ext _)=>True
 |_=>False
section
variable {P:Program}{w:World}{H:Hp}{h h':Heap}{x e:Addr}{o':HO}
theorem HOk.write(ok:HOk P w H h)(mu:Mut (H x))(he:e=x∨H e=some (.own x))(k:∀ b u,b≠e->h.get? b=some u->h'.get? b=some u)(heo:∃ u,h'.get? e=some u)
  (new:ObjOk P w (upd H x o') h' x o'):HOk P w (upd H x o') h':=fun b u q=>by
 have nown:∀ c y,H c=some (.own y)->c≠x:=fun c y r z=>by subst z;rw[r]at mu;exact mu
 have ntup:∀ c xs,H c=some (.tup xs)->c≠x:=fun c xs r z=>by subst z;rw[r]at mu;exact mu
 by_cases hb:b=x
 ·subst hb;rw[zk]at q;cases q;exact new
 ·rw[zg hb]at q
  by_cases hbe:b=e
  ·have q':H b=some (.own x):=by
    rcases he with z | z
    ·exact absurd (hbe.trans z) hb
    ·rw[hbe];exact z
   rw[q]at q';cases q'
   obtain⟨v,hv⟩:=heo
   exact⟨v,by rw[hbe];exact hv⟩
  ·refine (ok b u q).stay (fun c v hc r=>k c v ?_ r) (fun c r=>by rw[zg (nown c b r)];exact r) fun c xs r=>by rw[zg (ntup c xs r)];exact r
   rcases hc with rfl | hc
   ·exact hbe
   ·rintro rfl
    rcases he with z | z
    ·exact nown c b hc z
    ·rw[hc]at z;cases z;exact hb rfl
end
structure Un(fs ex:List Addr)(H H':Hp)(h h':Heap):Prop where
 keep:∀ b o,h.get? b=some o->H b=none->b∉fs->b∉ex->h'.get? b=some o
 slot:∀ b o,h.get? b=some o->H b=none->b∈fs->b∉ex->∃ sl,h'.get? b=some { o with slots:=sl }
 free:∀ b o,h.get? b=some o->H b=none->b∉ex->H' b=none
 there:∀ b o,h.get? b=some o->b∉ex->∃ o',h'.get? b=some o'
 tups:∀ b xs,H b=some (.tup xs)->H' b=some (.tup xs)
 frzs:∀ b o u,H b=some (.frz o u)->H' b=some (.frz o u)
 tbls:∀ b ps,H b=some (.tbl ps)->∃ more,H' b=some (.tbl (ps++more))
section
variable {fs ex:List Addr}{H H1:Hp}{h h1 h':Heap}{a x e:Addr}{o:HO}
theorem Un.any(u:Un fs ex H H1 h h1)(q:h.get? b=some ob)(n:H b=none)(hx:b∉ex):∃ sl,h1.get? b=some { ob with slots:=sl }:=by
 by_cases hb:b∈fs
 ·exact u.slot b ob q n hb hx
 ·exact⟨ob.slots,u.keep b ob q n hb hx⟩
theorem Un.kept(k:∀ b u,h.get? b=some u->h'.get? b=some u):Un fs ex H H h h' :=
 ⟨fun b ob q _ _ _=>k b ob q,fun b ob q _ _ _=>⟨ob.slots,k b ob q⟩,fun _ _ _ n _=>n,fun b ob q _=>⟨ob,k b ob q⟩,fun _ _ q=>q,fun _ _ _ q=>q,fun _ ps q=>⟨#[],by rw[q];simp⟩⟩
theorem Un.refl:Un fs ex H H h h:=Un.kept fun _ _ q=>q
theorem Un.laid(k:∀ b u,h.get? b=some u->h'.get? b=some u)(hp:h.objs.size<=a)(hn:H a=none):Un fs ex H (upd H a o) h h' where
 keep:=fun b u q _ _ _=>k b u q
 slot:=fun b u q _ _ _=>⟨u.slots,k b u q⟩
 free:=fun b u q n _=>by rw[zg (xr (xv (Heap.lt_size q) hp))];exact n
 there:=fun b u q _=>⟨u,k b u q⟩
 tups:=fun b xs q=>by rw[zg (zN q hn)];exact q
 frzs:=fun b u xs q=>by rw[zg (zN q hn)];exact q
 tbls:=fun b ps q=>⟨#[],by rw[zg (zN q hn),q];simp⟩
theorem Un.write(mu:Mut (H x))(he:e=x∨H e=some (.own x))(k:∀ b u,b≠e->h.get? b=some u->h'.get? b=some u)(heo:∃ u,h'.get? e=some u):Un fs ex H (upd H x o) h h':=by
 have hx:∀ b,H b=none->b≠x:=fun b n z=>by subst z;rw[n]at mu;exact mu
 have hb:∀ b,H b=none->b≠e:=fun b n z=>by
  subst z
  rcases he with r | r
  ·exact hx b n r
  ·rw[n]at r;cases r
 have hm:∀ b u,H b=some u->¬ Mut (some u)->b≠x:=fun b u q nm z=>by subst z;rw[q]at mu;exact nm mu
 refine⟨fun b u q n _ _=>k b u (hb b n) q,fun b u q n _ _=>⟨u.slots,k b u (hb b n) q⟩,fun b u q n _=>by rw[zg (hx b n)];exact n,fun b u q _=>?_,
  fun b xs q=>by rw[zg (hm b _ q fun z=>z)];exact q,fun b u xs q=>by rw[zg (hm b _ q fun z=>z)];exact q,fun b ps q=>⟨#[],by rw[zg (hm b _ q fun z=>z),q];simp⟩⟩
 by_cases hbe:b=e
 ·subst hbe;exact heo
 ·exact⟨u,k b u hbe q⟩
end
noncomputable def trk(h:Heap)(H:Hp):List Addr:=(List.range h.objs.size).filter fun a=>(H a).isSome
noncomputable def vm(h:Heap)(H:Hp):Heap:=PySem.W.hideAll h (trk h H)
theorem kJ(h:Heap)(H:Hp):(vm h H).objs.size=h.objs.size:=PySem.W.hideAll_size _ _
theorem zaJ{h:Heap}(e:h.get? b=some o)(n:H b=none):(vm h H).get? b=some o :=
 PySem.W.hideAll_get _ e fun hm=>by
  have q:(H b).isSome=true:=(xE.mp hm).2
  rw[n]at q;simp at q
theorem zdp{h:Heap}(e:(vm h H).get? b=some o):h.get? b=some o/\H b=none:=by
 have e':h.get? b=some o:=PySem.W.of_hideAll (trk h H) e
 refine⟨e',?_⟩
 cases q:H b with
 |none=>rfl
 |some x=>
  have hm:b∈trk h H:=xE.mpr ⟨xL.mpr (Heap.lt_size e'),by simp[q]⟩
  have z:(vm h H).get? b=none:=PySem.W.hideAll_none (trk h H) hm
  rw[z]at e;cases e
structure Mod(K:PySem.W.Frag)(mg:Str->Option Value)(base:Heap):Prop where
 kin:K.In base
 glob:base.Ns mainGlobals mg
 blt:∃ mb,base.Ns builtinsNs mb/\∀ x:Str,x≠ "__name__" ->mb x=bootBuiltins x
 nolimit:base.NoLimit
structure Cx where
 prog:Program
 w:World
 K:PySem.W.Frag
 mg:Str->Option Value
 base:Heap
 A:Around
 N:List Str
 s₀:Shared
 H₀:Hp
 env:Env
 outer:List Env
 stack:List Env
 ex:List Addr
 fn:Str->Bool
 calm:Bool
 pn:List (Addr×Obj)
 xe:Value->Shared->Prop
noncomputable def frs(l:List Env):List Addr:=l.filterMap (·.frame)
noncomputable abbrev Cx.fs(X:Cx):List Addr:=frs X.outer
noncomputable def Vis(sc:Scope)(x:Str):Prop:=sc.names.lookup x=some .local∨sc.names.lookup x=some .cell∨sc.names.lookup x=some .free
noncomputable def Loc(sc:Scope)(x:Str):Prop:=sc.names.lookup x=some .local∨sc.names.lookup x=some .cell
noncomputable def Look(env:Env)(h:Heap)(m:Str->Option Value)(x:Str)(u:Value):Prop :=
 (env.kindOf x=some .local/\m x=some u)∨((env.kindOf x=some .cell∨env.kindOf x=some .free)/\∃ c,env.cells.lookup x=some c/\h.IsCell c (some u))
structure Cx.Ok(X:Cx):Prop where
 mod:Mod X.K X.mg X.base
 kind:X.env.scope.kind=.function
 glob:X.env.globals=mainGlobals
 blt:X.env.builtins=builtinsNs
 above:X.s₀.heap.objs.size<=X.env.locals
 inj:∀ x y c,X.env.cells.lookup x=some c->X.env.cells.lookup y=some c->x=y
 has:∀ x,(X.env.kindOf x=some .cell∨X.env.kindOf x=some .free)->∃ c,X.env.cells.lookup x=some c
 cab:∀ x c,X.fn x=true->X.env.cells.lookup x=some c->X.s₀.heap.objs.size<=c
 hd:X.calm=true->X.A.handled=none
 frames:X.A.frames=some X.stack
 stk:X.stack=X.outer∨(X.stack=X.env::X.outer/\X.env.frame=some X.env.locals)
 exf:∀ b∈X.ex,b≠X.env.locals/\∀ x c,X.env.cells.lookup x=some c->c≠b
 bs:∀ b o,X.base.get? b=some o->X.s₀.heap.get? b=some o/\X.H₀ b=none
 bsz:X.base.objs.size<=X.s₀.heap.objs.size
 noex:∀ b o,X.base.get? b=some o->b∉X.ex
 exfs:∀ b∈X.ex,b∉X.fs
 funs:X.s₀.heap.FunFrames X.base X.outer
 frf:∀ b∈X.fs,X.H₀ b=none
structure Inv(X:Cx)(pins:List (Addr×Obj))(σ:List (Option V))(H:Hp)(s:Shared):Prop where
 ok:X.Ok
 os:s.os=X.s₀.os
 bare:AllBare s.gens
 base:Un X.fs X.ex X.H₀ H X.s₀.heap s.heap
 loc:∃ m,s.heap.Ns X.env.locals m/\∀ (i:Nat) (x:Str) (v:V),X.N[i]?=some x->σ[i]?=some (some v)->Vis X.env.scope x->∃ u,RelV v u/\Look X.env s.heap m x u
 cell:∀ x c,X.env.cells.lookup x=some c->∃ v,s.heap.IsCell c v
 free:H X.env.locals=none
 freeC:∀ x c,X.env.cells.lookup x=some c->H c=none
 pin:∀ p∈X.pn++pins,s.heap.get? p.1=some p.2/\H p.1=none/\p.1≠X.env.locals/\p.1∉X.fs/\∀ v,p.2.data≠ .cell v
 hok:HOk X.prog X.w H s.heap
 len:σ.length=X.N.length
section
variable {X:Cx}{pins:List (Addr×Obj)}{σ:List (Option V)}{H H':Hp}{s:Shared}{h':Heap}
theorem Cx.Ok.nofr(ok:X.Ok)(e:X.base.get? b=some o):b∉X.fs:=fun hb=>by
 have:=(ok.funs.mem hb).1
 rw[e]at this;cases this
theorem Inv.bs(I:Inv X pins σ H s):∀ b o,X.base.get? b=some o->s.heap.get? b=some o/\H b=none:=fun b o e=>
 ⟨I.base.keep b o (I.ok.bs b o e).1 (I.ok.bs b o e).2 (I.ok.nofr e) (I.ok.noex b o e),I.base.free b o (I.ok.bs b o e).1 (I.ok.bs b o e).2 (I.ok.noex b o e)⟩
theorem Inv.bk(I:Inv X pins σ H s):∀ b o,X.base.get? b=some o->s.heap.get? b=some o:=fun b o e=>(I.bs b o e).1
theorem Inv.mod(I:Inv X pins σ H s):Mod X.K X.mg X.base:=I.ok.mod
theorem Inv.kIn(I:Inv X pins σ H s):X.K.In s.heap:=I.ok.mod.kin.keeps I.bk
theorem Inv.fr(I:Inv X pins σ H s):∃ m,Fr X.base X.env.locals s.heap m :=
 let ⟨m,hn,_⟩:=I.loc
 ⟨m,hn,I.bk,xH I.ok.bsz I.ok.above⟩
theorem Inv.lt(I:Inv X pins σ H s):X.env.locals<s.heap.objs.size:=let ⟨_,hn,_⟩:=I.loc;hn.lt
theorem Inv.sz(I:Inv X pins σ H s):X.s₀.heap.objs.size<=s.heap.objs.size:=xH I.ok.above (uv I.lt)
theorem Inv.nofs(I:Inv X pins σ H s)(h:s.heap.objs.size<=a):a∉X.fs:=fun hb=>by
 obtain⟨_,o,ho,_⟩:=I.ok.funs.mem hb
 exact absurd (xv (Heap.lt_size ho) (xH I.sz h)) (uf _)
theorem Inv.cne(I:Inv X pins σ H s):∀ x c,X.env.cells.lookup x=some c->c≠X.env.locals:=fun x c e z=>by
 obtain⟨v,o,ho,hd⟩:=I.cell x c e
 obtain⟨m,⟨o',es,ep,ho',hd',_⟩,_⟩:=I.loc
 rw[z,ho']at ho;cases ho;rw[hd']at hd;cases hd
theorem Inv.funs(I:Inv X pins σ H s):s.heap.FunFrames X.base X.outer:=by
 have all:∀ (l:List Env),(∀ b∈frs l,b∈X.fs)->X.s₀.heap.FunFrames X.base l->s.heap.FunFrames X.base l:=by
  intro l
  induction l with
  |nil=>intro _ _;trivial
  |cons env r ih=>
   intro hs hl
   obtain⟨hk,⟨L,o,hf,hn,ho,hd⟩,hr⟩:=hl
   have hL:L∈X.fs:=hs L (by unfold frs;rw[xD,hf];exact xw)
   obtain⟨sl,e⟩:=I.base.slot L o ho (I.ok.frf L hL) hL fun z=>I.ok.exfs L z hL
   exact⟨hk,⟨L,_,hf,hn,e,hd⟩,ih (fun b hb=>hs b (by unfold frs;rw[xD,hf];exact xi _ hb)) hr⟩
 exact all X.outer (fun _ hb=>hb) I.ok.funs
theorem Inv.stack(I:Inv X pins σ H s):s.heap.FunFrames X.base X.stack:=by
 rcases I.ok.stk with e | ⟨e,hf⟩
 ·rw[e];exact I.funs
 ·rw[e]
  obtain⟨m,hn,_⟩:=I.loc
  refine .cons (by rw[I.ok.kind];decide) hf hn ?_ I.funs
  exact Heap.get?_none_of_le (xH I.ok.bsz I.ok.above)
theorem Inv.stkSub(I:Inv X pins σ H s):∀ b∈frs X.stack,b∈X.env.locals::X.fs:=fun b hb=>by
 rcases I.ok.stk with e | ⟨e,hf⟩
 ·rw[e]at hb;exact xi _ hb
 ·rw[e]at hb
  unfold frs at hb
  rw[xD,hf]at hb
  exact hb
theorem Inv.stkFree(I:Inv X pins σ H s):∀ b∈frs X.stack,H b=none:=fun b hb=>by
 rcases xt.mp (I.stkSub b hb)with e | hb
 ·rw[e];exact I.free
 ·obtain⟨_,o,ho,_⟩:=I.ok.funs.mem hb
  exact I.base.free b o ho (I.ok.frf b hb) fun z=>I.ok.exfs b z hb
theorem Inv.step{g':Array GenState}{t':Nat}{d':Drawn}{ch:List Addr}(I:Inv X pins σ H s)
  (hch:∀ b∈ch,(b∈X.ex∨X.s₀.heap.objs.size<=b)/\b≠X.env.locals/\(∀ x c,X.env.cells.lookup x=some c->c≠b)/\∀ p∈X.pn++pins,p.1≠b)
  (keep:∀ b o,b≠X.env.locals->b∉X.fs->b∉ch->s.heap.get? b=some o->H b=none->h'.get? b=some o)
  (slot:∀ b o,b≠X.env.locals->b∈X.fs->b∉ch->s.heap.get? b=some o->H b=none->∃ sl,h'.get? b=some { o with slots:=sl }) (free:∀ b o,b∉ch->s.heap.get? b=some o->H b=none->H' b=none)
  (there:∀ b o,b∉ch->s.heap.get? b=some o->∃ o',h'.get? b=some o')
  (tups:∀ b xs,H b=some (.tup xs)->H' b=some (.tup xs)) (frzs:∀ b o u,H b=some (.frz o u)->H' b=some (.frz o u)) (tbls:∀ b ps,H b=some (.tbl ps)->∃ more,H' b=some (.tbl (ps++more)))
  (ns:∀ m,s.heap.Ns X.env.locals m->h'.Ns X.env.locals m) (hok:HOk X.prog X.w H' h') (hg:AllBare g') :
  Inv X pins σ H' { s with heap:=h',gens:=g',drawn:=d',toks:=t' }:=by
 have neL:∀ b o,X.s₀.heap.get? b=some o->b≠X.env.locals:=fun b o e=>xr (xv (Heap.lt_size e) I.ok.above)
 have neC:∀ b o,X.s₀.heap.get? b=some o->b∉X.ex->b∉ch:=fun b o e hx hb=>by
  rcases (hch b hb).1 with z | z
  ·exact hx z
  ·exact absurd (xv (Heap.lt_size e) z) (uf _)
 have cellK:∀ x c,X.env.cells.lookup x=some c->∀ v,s.heap.IsCell c v->h'.IsCell c v:=fun x c e v ⟨o,ho,hd⟩=>by
  have nch:c∉ch:=fun z=>(hch c z).2.2.1 x c e rfl
  by_cases hc:c∈X.fs
  ·obtain⟨sl,q⟩:=slot c o (I.cne x c e) hc nch ho (I.freeC x c e)
   exact⟨_,q,hd⟩
  ·exact⟨o,keep c o (I.cne x c e) hc nch ho (I.freeC x c e),hd⟩
 refine⟨I.ok,I.os,hg,⟨fun b o e n hb hx=>?_,fun b o e n hb hx=>?_,fun b o e n hx=>?_,fun b o e hx=>?_,fun b xs e=>tups b xs (I.base.tups b xs e),fun b o xs e=>frzs b o xs (I.base.frzs b o xs e),fun b ps e=>?_⟩,?_,fun x c e=>?_,?_,fun x c e=>?_,fun p hp=>?_,hok,I.len⟩
 ·exact keep b o (neL b o e) hb (neC b o e hx) (I.base.keep b o e n hb hx) (I.base.free b o e n hx)
 ·obtain⟨sl,e1⟩:=I.base.slot b o e n hb hx
  obtain⟨sl',e2⟩:=slot b _ (neL b o e) hb (neC b o e hx) e1 (I.base.free b o e n hx)
  exact⟨sl',e2⟩
 ·obtain⟨o',e1⟩:=I.base.there b o e hx
  exact free b o' (neC b o e hx) e1 (I.base.free b o e n hx)
 ·obtain⟨o',e1⟩:=I.base.there b o e hx
  exact there b o' (neC b o e hx) e1
 ·obtain⟨m1,e1⟩:=I.base.tbls b ps e
  obtain⟨m2,e2⟩:=tbls b _ e1
  exact⟨m1++m2,by rw[e2,Array.append_assoc]⟩
 ·obtain⟨m,hn,hl⟩:=I.loc
  refine⟨m,ns m hn,fun i x v e1 e2 e3=>?_⟩
  obtain⟨u,r,l⟩:=hl i x v e1 e2 e3
  refine⟨u,r,?_⟩
  rcases l with l | ⟨k,c,e,z⟩
  ·exact .inl l
  ·exact .inr ⟨k,c,e,cellK x c e _ z⟩
 ·obtain⟨v,z⟩:=I.cell x c e
  exact⟨v,cellK x c e v z⟩
 ·obtain⟨m,⟨o,_,_,ho,_⟩,_⟩:=I.loc
  exact free _ o (fun z=>(hch _ z).2.1 rfl) ho I.free
 ·obtain⟨v,o,ho,hd⟩:=I.cell x c e
  exact free c o (fun z=>(hch c z).2.2.1 x c e rfl) ho (I.freeC x c e)
 ·obtain⟨e,n,ne,nf,d⟩:=I.pin p hp
  have nch:p.1∉ch:=fun z=>(hch p.1 z).2.2.2 p hp rfl
  exact⟨keep p.1 p.2 ne nf nch e n,free p.1 p.2 nch e n,ne,nf,d⟩
theorem Inv.un{t':Nat}(I:Inv X pins σ H s)(u:Un X.fs [] H H' s.heap h')(hok:HOk X.prog X.w H' h'):Inv X pins σ H' { s with heap:=h',toks:=t' }:=by
 obtain⟨m,⟨o,es,ep,ho,r⟩,_⟩:=id I.loc
 obtain⟨sl,hL⟩:=u.any ho I.free (by simp)
 exact I.step (g':=s.gens) (d':=s.drawn) (ch:= []) (fun _ z=>nomatch z) (fun b o _ hb _ e n=>u.keep b o e n hb (by simp)) (fun b o _ hb _ e n=>u.slot b o e n hb (by simp)) (fun b o _ e n=>u.free b o e n (by simp)) (fun b o _ e=>u.there b o e (by simp)) u.tups u.frzs u.tbls (fun m' hm=>by
  obtain⟨o',es',ep',ho',r'⟩:=hm
  rw[ho]at ho';cases ho'
  exact⟨_,es',ep',hL,r'⟩) hok I.bare
theorem Inv.call {t':Nat}(I:Inv X pins σ H s)(u:Un (frs X.stack) ch H H' s.heap h')(hok:HOk X.prog X.w H' h')(hg:AllBare g')
  (hch:∀ b∈ch,(b∈X.ex∨X.s₀.heap.objs.size<=b)/\b≠X.env.locals/\(∀ x c,X.env.cells.lookup x=some c->c≠b)/\∀ p∈X.pn++pins,p.1≠b) :
  Inv X pins σ H' { s with heap:=h',gens:=g',drawn:=d',toks:=t' }:=by
 obtain⟨m,⟨o,es,ep,ho,r⟩,_⟩:=id I.loc
 obtain⟨sl,hL⟩:=u.any ho I.free fun z=>(hch _ z).2.1 rfl
 exact I.step (ch:=ch) hch (fun b o hL hb hc e n=>u.keep b o e n (fun z=>(xt.mp (I.stkSub b z)).elim hL hb) hc) (fun b o _ _ hc e n=>u.any e n hc) (fun b o hc e n=>u.free b o e n hc) (fun b o hc e=>u.there b o e hc) u.tups u.frzs u.tbls (fun m' hm=>by
  obtain⟨o',es',ep',ho',r'⟩:=hm
  rw[ho]at ho';cases ho'
  exact⟨_,es',ep',hL,r'⟩) hok hg
theorem Inv.turned{t':Nat}{it:Addr}(I:Inv X pins σ H s)(k:∀ b o,b≠it->s.heap.get? b=some o->h'.get? b=some o)(hn:H it=none)(hL:it≠X.env.locals)
  (h1:it∈X.ex∨X.s₀.heap.objs.size<=it) (h2:∀ x c,X.env.cells.lookup x=some c->c≠it) (h3:∀ p∈X.pn++pins,p.1≠it):Inv X pins σ H { s with heap:=h',toks:=t' }:=by
 have nit:∀ b u,H b=some u->b≠it:=fun b u e z=>by rw[z,hn]at e;cases e
 refine I.step (g':=s.gens) (d':=s.drawn) (ch:= [it]) (fun b hb=>?_) (fun b o _ _ hc e _=>k b o (fun z=>hc (by simp[z])) e) (fun b o _ _ hc e _=>⟨o.slots,k b o (fun z=>hc (by simp[z])) e⟩) (fun _ _ _ _ n=>n)
  (fun b o hc e=>⟨o,k b o (fun z=>hc (by simp[z])) e⟩) (fun _ _ e=>e) (fun _ _ _ e=>e) (fun b ps e=>⟨#[],by rw[e];simp⟩) (fun m hm=>?_) (fun b u e=>?_) I.bare
 ·have e:b=it:=by simpa using hb
  subst e
  exact⟨h1,hL,h2,h3⟩
 ·obtain⟨o,es,ep,ho,r⟩:=hm
  exact⟨o,es,ep,k _ o (Ne.symm hL) ho,r⟩
 ·refine (I.hok b u e).stay (fun c v hc q=>k c v ?_ q) (fun _ q=>q) fun _ _ q=>q
  rcases hc with z | z
  ·rw[z];exact nit b u e
  ·exact nit c _ z
theorem Inv.tok(I:Inv X pins σ H s)(t:Nat):Inv X pins σ H { s with toks:=t }:=I.un (h':=s.heap) (t':=t) Un.refl I.hok
theorem Inv.kept{t':Nat}(I:Inv X pins σ H s)(k:∀ b u,s.heap.get? b=some u->h'.get? b=some u):Inv X pins σ H { s with heap:=h',toks:=t' }:=I.un (Un.kept k) (I.hok.kept k)
theorem Inv.laid {t':Nat}(I:Inv X pins σ H s)(k:∀ b u,s.heap.get? b=some u->h'.get? b=some u)(hp:s.heap.objs.size<=a)(new:ObjOk X.prog X.w (upd H a o) h' a o) :
  Inv X pins σ (upd H a o) { s with heap:=h',toks:=t' }:=I.un (Un.laid k hp (I.hok.fresh hp)) (I.hok.laid k hp new)
theorem Inv.write {t':Nat}(I:Inv X pins σ H s)(mu:Mut (H x))(he:e=x∨H e=some (.own x))(k:∀ b u,b≠e->s.heap.get? b=some u->h'.get? b=some u)(heo:∃ u,h'.get? e=some u)
  (new:ObjOk X.prog X.w (upd H x o) h' x o):Inv X pins σ (upd H x o) { s with heap:=h',toks:=t' }:=I.un (Un.write mu he k heo) (I.hok.write mu he k heo new)
theorem Inv.weak{σ':List (Option V)}(I:Inv X pins σ H s)(hl:σ'.length=σ.length)(w:∀ (i:Nat) v,σ'[i]?=some (some v)->σ[i]?=some (some v)):Inv X pins σ' H s :=
 ⟨I.ok,I.os,I.bare,I.base,let ⟨m,hn,hl'⟩:=I.loc;⟨m,hn,fun i x v e1 e2 e3=>hl' i x v e1 (w i v e2) e3⟩,I.cell,I.free,I.freeC,I.pin,I.hok,hl.trans I.len⟩
theorem Inv.pins_of (I:Inv X pins σ H s)(h:∀ p∈pins',s.heap.get? p.1=some p.2/\H p.1=none/\p.1≠X.env.locals/\p.1∉X.fs/\∀ v,p.2.data≠ .cell v):Inv X pins' σ H s :=
 ⟨I.ok,I.os,I.bare,I.base,I.loc,I.cell,I.free,I.freeC,fun p hp=>(xM.mp hp).elim (fun z=>I.pin p (xq _ z)) (h p),I.hok,I.len⟩
theorem VH{N:List Str}(hN:N.Nodup){i j:Nat}(a:N[i]?=some x)(b:N[j]?=some x):i=j:=by
 obtain⟨h1,e1⟩:=xb.mp a
 obtain⟨h2,e2⟩:=xb.mp b
 exact (List.getElem_inj hN).mp (e1.trans e2.symm)
theorem WU {i:Nat}{Q:Unit->Shared->Prop}(I:Inv X pins σ H s)(hN:X.N.Nodup)(hi:X.N[i]?=some x)(hx:Loc X.env.scope x)(r:RelV v u)
  (h:∀ s',Inv X pins (σ.set i (some v)) H s'->(∃ a,Heap.SameBut a s.heap s'.heap/\(a=X.env.locals∨X.env.cells.lookup x=some a))->Q () s') (hf:X.fn x=true∨X.env.scope.names.lookup x=some .local:=by first | exact .inl rfl | exact .inr rfl | assumption):wpAny M A (storeName X.env x u) Q E s:=by
 obtain⟨m,hn,hl⟩:=id I.loc
 have hcls:(X.env.scope.kind==.class||(X.env.scope.kind==.module&&X.env.locals !=X.env.globals))=false:=by rw[I.ok.kind];rfl
 have hiσ:i<σ.length:=by rw[I.len];exact (xb.mp hi).1
 have cne:=I.cne
 have tracked:∀ {a:Addr} {h':Heap},(∃ o,s.heap.get? a=some o/\H a=none)->Heap.SameBut a s.heap h'->HOk X.prog X.w H h':=fun {a h'} ha hs b ob e=>by
  obtain⟨_,_,hfree⟩:=ha
  refine (I.hok b ob e).stay (fun c w' hc q=>(hs.2 c ?_).trans q) (fun _ q=>q) fun _ _ q=>q
  rintro rfl
  rcases hc with rfl | hc
  ·rw[hfree]at e;cases e
  ·rw[hfree]at hc;cases hc
 rcases hx with hk | hk
 ·refine wpAny_storeName_local hk hn (fun h' hn' hs=>?_) hcls
  obtain⟨oL,_,_,hoL,_⟩:=id hn
  refine h _ ⟨I.ok,I.os,I.bare,⟨fun b o e n hb hx=>?_,fun b o e n hb hx=>?_,I.base.free,fun b o e hx=>?_,I.base.tups,I.base.frzs,I.base.tbls⟩,⟨_,hn',fun j y v' e1 e2 e3=>?_⟩,fun y c e=>?_,I.free,I.freeC,fun p hp=>?_,tracked ⟨oL,hoL,I.free⟩ hs,by simpa using I.len⟩ ⟨_,hs,.inl rfl⟩
  ·exact (hs.2 b (xr (xv (Heap.lt_size e) I.ok.above))).trans (I.base.keep b o e n hb hx)
  ·obtain⟨sl,e1⟩:=I.base.slot b o e n hb hx
   exact⟨sl,(hs.2 b (xr (xv (Heap.lt_size e) I.ok.above))).trans e1⟩
  ·obtain⟨o',e1⟩:=I.base.there b o e hx
   exact⟨o',(hs.2 b (xr (xv (Heap.lt_size e) I.ok.above))).trans e1⟩
  ·by_cases hj:j=i
   ·subst hj
    rw[hi]at e1;cases e1
    rw[xl hiσ]at e2
    cases e2
    exact⟨u,r,.inl ⟨hk,by simp⟩⟩
   ·rw[xj (Ne.symm hj)]at e2
    obtain⟨u',r',q⟩:=hl j y v' e1 e2 e3
    refine⟨u',r',?_⟩
    rcases q with ⟨k,e⟩ | ⟨k,c,e,z⟩
    ·refine .inl ⟨k,?_⟩
     have:y≠x:=fun e=>hj (VH hN e1 (e ▸ hi))
     simp[this,e]
    ·exact .inr ⟨k,c,e,z.sameBut hs (cne y c e)⟩
  ·obtain⟨w',z⟩:=I.cell y c e
   exact⟨w',z.sameBut hs (cne y c e)⟩
  ·obtain⟨e,n,ne,nf,d⟩:=I.pin p hp
   exact⟨(hs.2 p.1 ne).trans e,n,ne,nf,d⟩
 ·have hfn:X.fn x=true:=by
   rcases hf with z | z
   ·exact z
   ·rw[z]at hk;cases hk
  obtain⟨c,hc⟩:=I.ok.has x (.inl hk)
  obtain⟨w',z⟩:=I.cell x c hc
  refine wpAny_storeName_cell I.ok.kind hk hc z (fun h' hc' hs=>?_)
  obtain⟨oc,hoc,hocd⟩:=id z
  refine h { s with heap:=h' } ⟨I.ok,I.os,I.bare,⟨fun b o e n hb hx=>?_,fun b o e n hb hx=>?_,I.base.free,fun b o e hx=>?_,I.base.tups,I.base.frzs,I.base.tbls⟩,⟨m,hn.sameBut hs (Ne.symm (cne x c hc)),fun j y v' e1 e2 e3=>?_⟩,fun y c' e=>?_,I.free,I.freeC,fun p hp=>?_,tracked ⟨oc,hoc,I.freeC x c hc⟩ hs,by simpa using I.len⟩ ⟨c,hs,.inr hc⟩
  ·exact (hs.2 b (xr (xv (Heap.lt_size e) (I.ok.cab x c hfn hc)))).trans (I.base.keep b o e n hb hx)
  ·obtain⟨sl,e1⟩:=I.base.slot b o e n hb hx
   exact⟨sl,(hs.2 b (xr (xv (Heap.lt_size e) (I.ok.cab x c hfn hc)))).trans e1⟩
  ·obtain⟨o',e1⟩:=I.base.there b o e hx
   exact⟨o',(hs.2 b (xr (xv (Heap.lt_size e) (I.ok.cab x c hfn hc)))).trans e1⟩
  ·by_cases hj:j=i
   ·subst hj
    rw[hi]at e1;cases e1
    rw[xl hiσ]at e2
    cases e2
    exact⟨u,r,.inr ⟨.inl hk,c,hc,hc'⟩⟩
   ·rw[xj (Ne.symm hj)]at e2
    obtain⟨u',r',q⟩:=hl j y v' e1 e2 e3
    refine⟨u',r',?_⟩
    rcases q with q | ⟨k,c',e,z'⟩
    ·exact .inl q
    ·refine .inr ⟨k,c',e,z'.sameBut hs ?_⟩
     rintro rfl
     exact hj (VH hN e1 (I.ok.inj _ _ _ e hc ▸ hi))
  ·by_cases hcc:c'=c
   ·subst hcc;exact⟨_,hc'⟩
   ·obtain⟨w2,z2⟩:=I.cell y c' e
    exact⟨w2,z2.sameBut hs hcc⟩
  ·obtain⟨e,n,ne,nf,d⟩:=I.pin p hp
   refine⟨(hs.2 p.1 ?_).trans e,n,ne,nf,d⟩
   intro q
   rw[q,hoc]at e
   have q':oc=p.2:=Option.some.inj e
   exact d w' (by rw[<- q'];exact hocd)
theorem jc {i:Nat}{Q:Unit->Shared->Prop}(I:Inv X pins σ H s)(hN:X.N.Nodup)(hi:X.N[i]?=some x)(hx:Loc X.env.scope x)(r:RelV v u)
  (h:∀ s',Inv X pins (σ.set i (some v)) H s'->Q () s') (hf:X.fn x=true∨X.env.scope.names.lookup x=some .local:=by first | exact .inl rfl | exact .inr rfl | assumption):wpAny M A (storeName X.env x u) Q E s :=
 WU I hN hi hx r (fun s' I' _=>h s' I') hf
theorem Inv.call'{s':Shared}(I:Inv X pins σ H s)(ho:s'.os=s.os)(u:Un (frs X.stack) ch H H' s.heap s'.heap)(hok:HOk X.prog X.w H' s'.heap)(hg:AllBare s'.gens)
  (hch:∀ b∈ch,(b∈X.ex∨X.s₀.heap.objs.size<=b)/\b≠X.env.locals/\(∀ x c,X.env.cells.lookup x=some c->c≠b)/\∀ p∈X.pn++pins,p.1≠b):Inv X pins σ H' s':=by
 obtain⟨h',g',d',t',o'⟩:=s'
 have e:o'=s.os:=ho
 subst e
 exact I.call (g':=g') (t':=t') (d':=d') u hok hg hch
end
noncomputable abbrev XK:=Value->Option Addr->Hp->Prop
noncomputable abbrev St:=List (Option V)
noncomputable abbrev VK:=V->Hp->Prop
noncomputable abbrev TE:=St->Hp->VK->Prop
noncomputable abbrev TT:=St->Hp->(Bool->Hp->Prop)->Prop
noncomputable abbrev TA:=St->Hp->(List V->Hp->Prop)->Prop
structure qJ where
 nx:St->Hp->Prop
 rt:VK
 bk:St->Hp->Prop:=fun _ _=>False
 ct:St->Hp->Prop:=fun _ _=>False
noncomputable abbrev TS:=qJ->St->Hp->Prop
noncomputable def EP(X:Cx)(pins:List (Addr×Obj))(σ:St)(Q:VK)(u:Value)(s':Shared):Prop:=∃ v H',Inv X pins σ H' s'/\RelV v u/\Q v H'
noncomputable def TP(X:Cx)(pins:List (Addr×Obj))(σ:St)(Q:Bool->Hp->Prop)(b:Bool)(s':Shared):Prop:=∃ H',Inv X pins σ H' s'/\Q b H'
noncomputable def AP(X:Cx)(pins:List (Addr×Obj))(σ:St)(Q:List V->Hp->Prop)(us:List Value)(s':Shared):Prop:=∃ vs H',Inv X pins σ H' s'/\Vals vs us/\Q vs H'
noncomputable def SP(X:Cx)(pins:List (Addr×Obj))(D:qJ)(f:Flow)(s':Shared):Prop :=
 match f with
 |.next=>∃ σ' H',Inv X pins σ' H' s'/\D.nx σ' H'
 |.brk=>∃ σ' H',Inv X pins σ' H' s'/\D.bk σ' H'
 |.cont=>∃ σ' H',Inv X pins σ' H' s'/\D.ct σ' H'
 |.ret u=>∃ v σ' H',Inv X pins σ' H' s'/\RelV v u/\D.rt v H'
noncomputable def PE(X:Cx)(e:Expr)(t:TE):Prop :=
 ∀ (pins:List (Addr×Obj)) (s:Shared) (σ:St) (H:Hp) (Q:VK),Inv X pins σ H s->t σ H Q->wpAny (model X.prog X.w) X.A (eval e X.env) (EP X pins σ Q) X.xe s
noncomputable def PT(X:Cx)(e:Expr)(t:TT):Prop :=
 ∀ (pins:List (Addr×Obj)) (s:Shared) (σ:St) (H:Hp) (Q:Bool->Hp->Prop),Inv X pins σ H s->t σ H Q->wpAny (model X.prog X.w) X.A (isTrue e X.env (eval e X.env)) (TP X pins σ Q) X.xe s
noncomputable def PW(X:Cx)(e:Expr)(t:TT):Prop :=
 ∀ (whole:Sem Value) (pins:List (Addr×Obj)) (s:Shared) (σ:St) (H:Hp) (Q:Bool->Hp->Prop),Inv X pins σ H s->t σ H Q->wpAny (model X.prog X.w) X.A (isTrue e X.env whole) (TP X pins σ Q) X.xe s
noncomputable def PA(X:Cx)(es:List Expr)(t:TA):Prop :=
 ∀ (pos:Pos) (pins:List (Addr×Obj)) (s:Shared) (σ:St) (H:Hp) (Q:List V->Hp->Prop),Inv X pins σ H s->t σ H Q->wpAny (model X.prog X.w) X.A (spliced (backTo pos (starEach es X.env))) (AP X pins σ Q) X.xe s
noncomputable def PS(X:Cx)(st:Stmt)(t:TS):Prop :=
 ∀ (pins:List (Addr×Obj)) (s:Shared) (σ:St) (H:Hp) (D:qJ),Inv X pins σ H s->t D σ H->wpAny (model X.prog X.w) X.A (exec st X.env) (SP X pins D) X.xe s
noncomputable def PSs(X:Cx)(st:List Stmt)(t:TS):Prop :=
 ∀ (pins:List (Addr×Obj)) (s:Shared) (σ:St) (H:Hp) (D:qJ),Inv X pins σ H s->t D σ H->wpAny (model X.prog X.w) X.A (execs st X.env) (SP X pins D) X.xe s
theorem thn{α:Type}{t:Sem α}{Q Q':α->Shared->Prop}(h:wpAny M A t Q E s)(hQ:∀ a s,Q a s->Q' a s):wpAny M A t Q' E s:=wpAny_mono h hQ fun _ _ x=>x
section
variable {X:Cx}
theorem bin (ha:PE X a ta)(hb:PE X b tb){R:V->V->Hp->Prop}(I:Inv X pins σ H s)(h:ta σ H fun x H1=>tb σ H1 fun y H2=>R x y H2)
  {α:Type} {Q:α->Shared->Prop} {f:Value->Value->Sem α}
  (hf:∀ v u s2 x y H2,Inv X pins σ H2 s2->RelV x v->RelV y u->R x y H2->wpAny (model X.prog X.w) X.A (f v u) Q X.xe s2) :
  wpAny (model X.prog X.w) X.A (eval a X.env) (fun v s₁=>wpAny (model X.prog X.w) X.A (eval b X.env) (fun u s₂=>wpAny (model X.prog X.w) X.A (f v u) Q X.xe s₂) X.xe s₁) X.xe s:=by
 refine thn (ha pins s σ H _ I h) fun v s1 ⟨x,H1,I1,r1,q1⟩=>?_
 refine thn (hb pins s1 σ H1 _ I1 q1) fun u s2 ⟨y,H2,I2,r2,q2⟩=>?_
 exact hf v u s2 x y H2 I2 r1 r2 q2
noncomputable def zb7(i:Nat):TE:=fun σ H Q=>∃ v,σ[i]?=some (some v)/\Q v H
noncomputable def tC(v:V):TE:=fun _ H Q=>Q v H
theorem qg {i:Nat}(hN:X.N[i]?=some x) (hv:Vis X.env.scope x) (hd:(x==("__debug__" :Str))=false:=by decide) (hcd:(x==("__classdict__" :Str))=false:=by decide):PE X (.Name x pos) (zb7 i):=by
 intro pins s σ H Q I h
 obtain⟨v,e,h⟩:=h
 obtain⟨m,hn,hl⟩:=I.loc
 obtain⟨u,r,l⟩:=hl i x v hN e hv
 have fin:EP X pins σ Q u s:=⟨v,H,I,r,h⟩
 rcases l with ⟨hk,hm⟩ | ⟨hk,c,hc,hcell⟩
 ·exact wpAny_Name (wpAny_loadName_local I.ok.kind hk hn hm fin) hd
 ·rcases hk with hk | hk
  ·exact wpAny_Name (wpAny_loadName_cell I.ok.kind hk hc hcell fin) hd
  ·exact wpAny_Name (wpAny_loadName_free I.ok.kind hk hc hcell fin hcd) hd
theorem pe_int{i j pos}:PE X (.Constant (.int i) j pos) (tC (.int i)):=fun _ _ _ H _ I h=>wpAny_Constant_int ⟨.int i,H,I.tok _,⟨_,rfl⟩,h⟩
theorem pe_bl{b j pos}:PE X (.Constant (.bool b) j pos) (tC (.bl b)):=fun _ _ _ H _ I h=>Constant_bool ⟨.bl b,H,I,rfl,h⟩
theorem pe_non{j pos}:PE X (.Constant .none j pos) (tC .non):=fun _ _ _ H _ I h=>Constant_none ⟨.non,H,I,rfl,h⟩
theorem pe_str{x j pos}:PE X (.Constant (.str x) j pos) (tC (.str x)):=fun _ _ _ H _ I h=>Calls.Constant_str ⟨.str x,H,I.tok _,⟨_,rfl⟩,h⟩
noncomputable def Gl(X:Cx)(x:Str):Prop:=X.env.kindOf x=some .globalImplicit
theorem jG {Q:Value->Shared->Prop}(I:Inv X pins σ H s)(hg:Gl X x)(hm:X.mg x=some u)(h:Q u s)
  (hd:(x==("__debug__" :Str))=false:=by decide):wpAny (model X.prog X.w) X.A (eval (.Name x pos) X.env) Q E s :=
 Calls.Name_function_global I.ok.kind hg (Calls.loadGlobal_global (by rw[I.ok.glob];exact I.mod.glob.keeps I.bk) hm h) hd
theorem jF {Q:Value->Shared->Prop}(I:Inv X pins σ H s)(hg:Gl X x)(hm:X.mg x=none)(hv:bootBuiltins x=some u)(h:Q u s)
  (hn:x≠ "__name__" :=by decide) (hd:(x==("__debug__" :Str))=false:=by decide):wpAny (model X.prog X.w) X.A (eval (.Name x pos) X.env) Q E s:=by
 obtain⟨mb,h1,h2⟩:=I.mod.blt
 exact Calls.Name_function_global I.ok.kind hg (Calls.loadGlobal_builtin (by rw[I.ok.glob];exact I.mod.glob.keeps I.bk) hm (by rw[I.ok.blt];exact h1.keeps I.bk) ((h2 x hn).trans hv) h) hd
theorem zdu (hg:Gl X x) (hm:X.mg x=none) (hv:bootBuiltins x=some u) (r:RelV v u) (hn:x≠ "__name__" :=by decide) (hd:(x==("__debug__" :Str))=false:=by decide):PE X (.Name x pos) (tC v) :=
 fun _ _ _ H _ I h=>jF I hg hm hv ⟨v,H,I,r,h⟩ hn hd
variable {a b:Expr}{ta tb:TE}{pos:Pos}
variable {tA tB':TT}{rest:List Expr}
noncomputable def tAnd(t u:TT):TT:=fun σ H Q=>t σ H fun c H1=>if c=true then u σ H1 Q else Q false H1
noncomputable def tOr(t u:TT):TT:=fun σ H Q=>t σ H fun c H1=>if c=true then Q true H1 else u σ H1 Q
noncomputable def tNot(t:TT):TT:=fun σ H Q=>t σ H fun c H1=>Q (!c) H1
theorem zdF(ha:PT X a tA):PW X (.BoolOp .And [a] pos) tA:=by
 intro wh pins s σ H Q I h
 refine isTrue_and (thn (ha pins s σ H Q I h) fun c s1 e=>?_)
 cases c with
 |true=>exact isTrue_and_nil e
 |false=>exact e
theorem zgg(ha:PT X a tA):PW X (.BoolOp .Or [a] pos) tA:=by
 intro wh pins s σ H Q I h
 refine isTrue_or (thn (ha pins s σ H Q I h) fun c s1 e=>?_)
 cases c with
 |false=>exact isTrue_or_nil e
 |true=>exact e
theorem zgf(ha:PT X a tA)(hb:PW X (.BoolOp .And (b::rest) pos) tB'):PW X (.BoolOp .And (a::b::rest) pos) (tAnd tA tB'):=by
 intro wh pins s σ H Q I h
 refine isTrue_and (thn (ha pins s σ H _ I h) fun c s1 ⟨H1,I1,q1⟩=>?_)
 cases c with
 |true=>exact hb wh pins s1 σ H1 Q I1 q1
 |false=>exact⟨H1,I1,q1⟩
theorem zhV(ha:PT X a tA)(hb:PW X (.BoolOp .Or (b::rest) pos) tB'):PW X (.BoolOp .Or (a::b::rest) pos) (tOr tA tB'):=by
 intro wh pins s σ H Q I h
 refine isTrue_or (thn (ha pins s σ H _ I h) fun c s1 ⟨H1,I1,q1⟩=>?_)
 cases c with
 |true=>exact⟨H1,I1,q1⟩
 |false=>exact hb wh pins s1 σ H1 Q I1 q1
theorem zgd(ha:PT X a tA):PT X (.UnaryOp .Not a pos) (tNot tA):=by
 intro pins s σ H Q I h
 exact isTrue_not (ha pins s σ H (fun c H1=>Q (!c) H1) I h)
noncomputable def zib(ta tb:TE):TE:=fun σ H Q=>ta σ H fun x H1=>∃ c,x=.bl c/\if c=true then tb σ H1 Q else Q (.bl false) H1
noncomputable def tOrV(ta tb:TE):TE:=fun σ H Q=>ta σ H fun x H1=>∃ c,x=.bl c/\if c=true then Q (.bl true) H1 else tb σ H1 Q
theorem zf8{op}(h:PE X a t):PE X (.BoolOp op [a] pos) t:=fun pins s σ H Q I hw=>BoolOp_one (h pins s σ H Q I hw)
theorem zf7(ha:PE X a ta)(hb:PE X (.BoolOp .And (b::rest) pos) tb):PE X (.BoolOp .And (a::b::rest) pos) (zib ta tb):=by
 intro pins s σ H Q I h
 refine BoolOp_and (thn (ha pins s σ H _ I h) fun v s1 ⟨x,H1,I1,r1,q1⟩=>?_)
 obtain⟨c,rfl,q1⟩:=q1
 cases r1
 refine wpAny_truthy_bool ?_
 cases c with
 |true=>exact hb pins s1 σ H1 Q I1 q1
 |false=>exact⟨.bl false,H1,I1,rfl,q1⟩
theorem zhT(ha:PE X a ta)(hb:PE X (.BoolOp .Or (b::rest) pos) tb):PE X (.BoolOp .Or (a::b::rest) pos) (tOrV ta tb):=by
 intro pins s σ H Q I h
 refine BoolOp_or (thn (ha pins s σ H _ I h) fun v s1 ⟨x,H1,I1,r1,q1⟩=>?_)
 obtain⟨c,rfl,q1⟩:=q1
 cases r1
 refine wpAny_truthy_bool ?_
 cases c with
 |false=>exact hb pins s1 σ H1 Q I1 q1
 |true=>exact⟨.bl true,H1,I1,rfl,q1⟩
noncomputable def tIf(t:TT)(ta tb:TE):TE:=fun σ H Q=>t σ H fun c H1=>if c=true then ta σ H1 Q else tb σ H1 Q
theorem zbm (hc:PT X c tA)(ha:PE X a ta)(hb:PE X b tb):PE X (.IfExp c a b pos) (tIf tA ta tb):=by
 intro pins s σ H Q I h
 refine wpAny_IfExp (thn (hc pins s σ H _ I h) fun d s1 ⟨H1,I1,q1⟩=>?_)
 cases d with
 |true=>exact ha pins s1 σ H1 Q I1 q1
 |false=>exact hb pins s1 σ H1 Q I1 q1
end
noncomputable def SqL(K:PySem.W.Frag)(H:Hp)(a:Addr)(xs:List V):Prop :=
 Rd H a (.lst xs) ∨
  ∃ (o:Obj) (its:Array Value) (n:Nat),K.lookup a=some o/\o.cls=.type "list" /\o.dict=none/\o.data=.seq its n/\its.size<=sizeLine/\Vals xs its.toList
noncomputable def SqT(K:PySem.W.Frag)(H:Hp)(a:Addr)(xs:List V):Prop :=
 Rd H a (.tup xs) ∨
  ∃ (o:Obj) (its:Array Value) (n:Nat),K.lookup a=some o/\o.cls=.type "tuple" /\o.data=.seq its n/\its.size<=sizeLine/\Vals xs its.toList
noncomputable def absV:Value->Option V
 |.none=>some .non
 |.bool b=>some (.bl b)
 |.int i _=>some (.int i)
 |.str x _=>some (.str x)
 |.bytes b _=>some (.byt b)
 |.float b _=>some (.flt b)
 |.ref a=>some (.ref a)
 |.type n=>some (.ty n)
 |_=>none
theorem RelV.abs (r:RelV x u):absV u=some x:=by
 cases x with
 |non=>cases r;rfl
 |bl _=>cases r;rfl
 |int _=>obtain⟨t,rfl⟩:=r;rfl
 |str _=>obtain⟨t,rfl⟩:=r;rfl
 |byt _=>obtain⟨t,rfl⟩:=r;rfl
 |flt _=>obtain⟨t,rfl⟩:=r;rfl
 |ref _=>cases r;rfl
 |ty _=>cases r;rfl
theorem RelV.inj (r:RelV x u)(q:RelV y u):x=y:=Option.some.inj (r.abs.symm.trans q.abs)
theorem Vals.inj:∀ {xs ys:List V}{us:List Value},Vals xs us->Vals ys us->xs=ys
 |_,_,_,.nil,.nil=>rfl
 |_,_,_,.cons r t,.cons r' t'=>by rw[r.inj r',Vals.inj t t']
section
variable {X:Cx}{pins:List (Addr×Obj)}{σ:St}{H:Hp}{s:Shared}{a:Addr}{xs ys:List V}
theorem SqL.of{K:PySem.W.Frag}(h:H a=some (.lst xs)):SqL K H a xs:=.inl (.inl h)
theorem SqT.of{K:PySem.W.Frag}(h:H a=some (.tup xs)):SqT K H a xs:=.inl (.inl h)
theorem Inv.list(I:Inv X pins σ H s)(h:SqL X.K H a xs):∃ its:List Value,Vals xs its/\PlainL s.heap a its.toArray/\xs.length<=sizeLine:=by
 rcases h with h | ⟨o,its,n,hk,hc,hd,hs,hz,r⟩
 ·obtain⟨z,its,n,r,e⟩:=h.ok I.hok
  exact⟨its,r,⟨_,n,e,rfl,rfl,rfl⟩,z⟩
 ·refine⟨its.toList,r,⟨o,n,I.kIn a o hk,hc,hd,by simpa using hs⟩,?_⟩
  have e:=r.length
  simp only[Array.length_toList]at e
  omega
theorem Inv.tuple(I:Inv X pins σ H s)(h:SqT X.K H a xs):∃ its:List Value,Vals xs its/\IsTup s.heap a its.toArray/\xs.length<=sizeLine:=by
 rcases h with h | ⟨o,its,n,hk,hc,hs,hz,r⟩
 ·obtain⟨z,its,r,p⟩:=h.ok I.hok
  exact⟨its,r,p,z⟩
 ·refine⟨its.toList,r,⟨o,I.kIn a o hk,hc,n,by simpa using hs⟩,?_⟩
  have e:=r.length
  simp only[Array.length_toList]at e
  omega
theorem Inv.list_inj(I:Inv X pins σ H s)(h:SqL X.K H a xs)(h':SqL X.K H a ys):xs=ys:=by
 obtain⟨its,r,⟨o,n,e,_,_,d⟩,_⟩:=I.list h
 obtain⟨its',r',⟨o',n',e',_,_,d'⟩,_⟩:=I.list h'
 rw[e]at e';cases e'
 rw[d]at d'
 injection d' with d1 _
 have:its=its':=by simpa using congrArg Array.toList d1
 subst this
 exact r.inj r'
theorem Inv.tuple_inj(I:Inv X pins σ H s)(h:SqT X.K H a xs)(h':SqT X.K H a ys):xs=ys:=by
 obtain⟨its,r,⟨o,e,_,n,d⟩,_⟩:=I.tuple h
 obtain⟨its',r',⟨o',e',_,n',d'⟩,_⟩:=I.tuple h'
 rw[e]at e';cases e'
 rw[d]at d'
 injection d' with d1 _
 have:its=its':=by simpa using congrArg Array.toList d1
 subst this
 exact r.inj r'
end
noncomputable abbrev Cx.wish(X:Cx)(E:Value->Shared->Prop):Cx:={ X with xe:=E }
noncomputable abbrev Cx.nox(X:Cx):Cx:=X.wish fun _ _=>False
theorem Cx.Ok.wish{X:Cx}(ok:X.Ok)(E:Value->Shared->Prop):(X.wish E).Ok :=
 ⟨ok.mod,ok.kind,ok.glob,ok.blt,ok.above,ok.inj,ok.has,ok.cab,ok.hd,ok.frames,ok.stk,ok.exf,ok.bs,ok.bsz,ok.noex,ok.exfs,ok.funs,ok.frf⟩
theorem Cx.Ok.unwish{X:Cx}(ok:(X.wish E).Ok):X.Ok :=
 ⟨ok.mod,ok.kind,ok.glob,ok.blt,ok.above,ok.inj,ok.has,ok.cab,ok.hd,ok.frames,ok.stk,ok.exf,ok.bs,ok.bsz,ok.noex,ok.exfs,ok.funs,ok.frf⟩
section
variable {X:Cx}{pins:List (Addr×Obj)}{σ:St}{H:Hp}{s:Shared}{E:Value->Shared->Prop}
theorem Inv.wish(I:Inv X pins σ H s)(E:Value->Shared->Prop):Inv (X.wish E) pins σ H s:=⟨I.ok.wish E,I.os,I.bare,I.base,I.loc,I.cell,I.free,I.freeC,I.pin,I.hok,I.len⟩
theorem Inv.unwish(I:Inv (X.wish E) pins σ H s):Inv X pins σ H s:=⟨I.ok.unwish,I.os,I.bare,I.base,I.loc,I.cell,I.free,I.freeC,I.pin,I.hok,I.len⟩
theorem SP.unwish{D:qJ}(h:SP (X.wish E) pins D f s'):SP X pins D f s':=by
 cases f with
 |next=>obtain⟨σ',H',I,q⟩:=h;exact⟨σ',H',I.unwish,q⟩
 |brk=>obtain⟨σ',H',I,q⟩:=h;exact⟨σ',H',I.unwish,q⟩
 |cont=>obtain⟨σ',H',I,q⟩:=h;exact⟨σ',H',I.unwish,q⟩
 |ret u=>obtain⟨v,σ',H',I,r,q⟩:=h;exact⟨v,σ',H',I.unwish,r,q⟩
theorem PSs.nox{st:List Stmt}(h:PSs X.nox st t):PSs X st t:=fun pins s σ H D I hw=>
 wpAny_mono (h pins s σ H D (I.wish _) hw) (fun _ _ q=>q.unwish) fun _ _ z=>False.elim z
end
section
variable {X:Cx}{st:Stmt}{rest:List Stmt}{t u:TS}{e:Expr}{te:TE}{pos:Pos}
noncomputable def zeX:TS:=fun D σ H=>D.nx σ H
noncomputable def tSeq(t u:TS):TS:=fun D σ H=>t { D with nx:=u D } σ H
theorem pss_nil:PSs X [] zeX:=fun _ _ σ H _ I h=>wpAny_execs_nil ⟨σ,H,I,h⟩
theorem jv(h1:PS X st t)(h2:PSs X rest u):PSs X (st::rest) (tSeq t u):=by
 intro pins s σ H D I h
 refine wpAny_execs_cons (thn (h1 pins s σ H { D with nx:=u D } I h) fun f s1 q=>?_)
 cases f with
 |next=>
  obtain⟨σ',H',I',q⟩:=q
  exact h2 pins s1 σ' H' D I' q
 |ret v=>exact q
 |brk=>exact q
 |cont=>exact q
theorem Zo(h1:PS X st t):PSs X [st] t:=by
 intro pins s σ H D I h
 refine wpAny_execs_cons (thn (h1 pins s σ H D I h) fun f s1 q=>?_)
 cases f with
 |next=>exact wpAny_execs_nil q
 |ret v=>exact q
 |brk=>exact q
 |cont=>exact q
theorem ps_pass:PS X (.Pass pos) zeX:=fun _ _ σ H _ I h=>wpAny_Pass ⟨σ,H,I,h⟩
theorem Inv.quiet (I:Inv X pins σ H s):interactive X.env=false:=by simp[interactive,I.ok.kind]
noncomputable def zid(te:TE):TS:=fun D σ H=>te σ H fun _ H1=>D.nx σ H1
theorem JC(he:PE X e te)(hs:swapsWith e none pos.line X.env=pure false:=by rfl):PS X (.Expr e pos) (zid te):=by
 intro pins s σ H D I h
 exact wpAny_Expr_any (thn (he pins s σ H _ I h) fun v s1 ⟨x,H1,I1,r1,q1⟩=>⟨σ,H1,I1,q1⟩) I.quiet hs
noncomputable def tRet(te:TE):TS:=fun D σ H=>te σ H D.rt
theorem zbv(he:PE X e te):PS X (.Return (some e) pos) (tRet te):=by
 intro pins s σ H D I h
 exact wpAny_Return_some (thn (he pins s σ H _ I h) fun v s1 ⟨x,H1,I1,r1,q1⟩=>⟨x,σ,H1,I1,r1,q1⟩)
noncomputable def tIfS(c:TT)(t u:TS):TS:=fun D σ H=>c σ H fun b H1=>if b=true then t D σ H1 else u D σ H1
theorem zhU (hc:PT X c tc)(ha:PSs X a t)(hb:PSs X b u):PS X (.If c a b pos) (tIfS tc t u):=by
 intro pins s σ H D I h
 refine wpAny_If (thn (hc pins s σ H _ I h) fun d s1 ⟨H1,I1,q1⟩=>?_)
 cases d with
 |true=>exact ha pins s1 σ H1 D I1 q1
 |false=>exact hb pins s1 σ H1 D I1 q1
end
noncomputable abbrev TG:=V->St->Hp->(St->Hp->Prop)->Prop
noncomputable abbrev TGs:=List V->St->Hp->(St->Hp->Prop)->Prop
noncomputable def PG(X:Cx)(target:Expr)(t:TG):Prop :=
 ∀ (pins:List (Addr×Obj)) (s:Shared) (σ:St) (H:Hp) (v:V) (u:Value) (Q:St->Hp->Prop),Inv X pins σ H s->RelV v u->t v σ H Q ->
  wpAny (model X.prog X.w) X.A (assign target X.env u) (fun _ s'=>∃ σ' H',Inv X pins σ' H' s'/\Q σ' H') X.xe s
noncomputable def PGs(X:Cx)(ts:List Expr)(t:TGs):Prop :=
 ∀ (pins:List (Addr×Obj)) (s:Shared) (σ:St) (H:Hp) (vs:List V) (us:List Value) (Q:St->Hp->Prop),Inv X pins σ H s->Vals vs us->t vs σ H Q ->
  wpAny (model X.prog X.w) X.A (assignInOrder ((assignEach ts X.env).map (·.2)) us) (fun _ s'=>∃ σ' H',Inv X pins σ' H' s'/\Q σ' H') X.xe s
noncomputable abbrev zcC:=V->V->V->Hp->(Hp->Prop)->Prop
noncomputable def ze4(X:Cx)(t:zcC):Prop :=
 ∀ (pins:List (Addr×Obj)) (s:Shared) (σ:St) (H:Hp) (o i v:V) (ov iv u:Value) (Q:Hp->Prop),Inv X pins σ H s->RelV o ov->RelV i iv->RelV v u->t o i v H Q ->
  wpAny (model X.prog X.w) X.A (setItem ov iv u) (fun _ s'=>∃ H',Inv X pins σ H' s'/\Q H') X.xe s
noncomputable abbrev TIp:=V->V->Hp->VK->Prop
noncomputable def PIp(X:Cx)(op:Operator)(t:TIp):Prop :=
 ∀ (pins:List (Addr×Obj)) (s:Shared) (σ:St) (H:Hp) (x y:V) (v u:Value) (Q:VK),Inv X pins σ H s->RelV x v->RelV y u->t x y H Q ->
  wpAny (model X.prog X.w) X.A (inplaceOp op v u) (EP X pins σ Q) X.xe s
section
variable {X:Cx}{pos:Pos}
noncomputable def Vv(i:Nat):TG:=fun v σ H Q=>Q (σ.set i (some v)) H
theorem JB{i:Nat}(hN:X.N.Nodup)(hi:X.N[i]?=some x)(hx:Loc X.env.scope x)(hf:X.fn x=true∨X.env.scope.names.lookup x=some .local:=by first | exact .inl rfl | exact .inr rfl | assumption):PG X (.Name x pos) (Vv i):=by
 intro pins s σ H v u Q I r h
 exact wpAny_assign_Name (jc I hN hi hx r (fun s' I'=>⟨_,H,I',h⟩) hf)
noncomputable def gNil:TGs:=fun vs σ H Q=>vs= []/\Q σ H
noncomputable def zhx(t:TG)(u:TGs):TGs:=fun vs σ H Q=>∃ v r,vs=v::r/\t v σ H fun σ' H'=>u r σ' H' Q
theorem pgs_nil:PGs X [] gNil:=by
 intro pins s σ H vs us Q I r h
 obtain⟨e,h⟩:=h
 subst e
 cases r
 exact assignInOrder_nil ⟨σ,H,I,h⟩
theorem wM (h1:PG X e t)(h2:PGs X es u)
  (hs:(assignEach (e::es) X.env).map (·.2)=assign e X.env::(assignEach es X.env).map (·.2):=by rfl):PGs X (e::es) (zhx t u):=by
 intro pins s σ H vs us Q I r h
 obtain⟨v,vr,e1,h⟩:=h
 subst e1
 cases r with
 |cons r rr=>
  rw[hs]
  refine assignInOrder_cons (thn (h1 pins s σ H _ _ _ I r h) fun _ s1 ⟨σ1,H1,I1,q1⟩=>?_)
  exact h2 pins s1 σ1 H1 _ _ Q I1 rr q1
noncomputable def gTup(K:PySem.W.Frag)(n:Nat)(t:TGs):TG:=fun v σ H Q=>∃ a xs,v=.ref a/\SqT K H a xs/\xs.length=n/\t xs σ H Q
theorem zbq {n:Nat}(hc:X.calm=true)(h:PGs X es t)
  (hn:(assignEach es X.env).length=n:=by rfl) (hst:(assignEach es X.env).findIdx? (·.1)=none:=by rfl):PG X (.Tuple es k pos) (gTup X.K n t):=by
 intro pins s σ H v u Q I r hw
 obtain⟨a,xs,e1,hq,hl,hw⟩:=hw
 subst e1
 cases r
 obtain⟨its,rv,ht,hz⟩:=I.tuple hq
 refine assign_Tuple_tuple (I.ok.hd hc) ht (by simp[hn,<- hl,rv.length]) hst fun h' hx=>?_
 have I1:Inv X pins σ H { s with heap:=h' }:=I.kept (t':=s.toks) fun b o e=>hx b o (xr (Heap.lt_size e)) e
 exact h pins _ σ H xs _ Q I1 (by simpa using rv) hw
noncomputable def zhy(to ti:TE)(t:zcC):TG:=fun v σ H Q=>to σ H fun o H1=>ti σ H1 fun i H2=>t o i v H2 fun H3=>Q σ H3
theorem zga (ho:PE X o to)(hi:PE X i ti)(hs:ze4 X t)
  (ha:∀ v,assign (.Subscript o i pos) X.env v=(do
   let ov<-holding [v] (eval o X.env)
   let iv<-holding [v,ov] (eval i X.env)
   standAt pos
   holding [v,ov,iv] (setItem ov iv v)
   release [v,ov,iv] []):=by intro _;rfl):PG X (.Subscript o i pos) (zhy to ti t):=by
 intro pins s σ H v u Q I r h
 rw[ha]
 refine wpAny_bind (wpAny_holding (thn (ho pins s σ H _ I h) fun ov s1 ⟨x,H1,I1,r1,q1⟩=>?_))
 refine wpAny_bind (wpAny_holding (thn (hi pins s1 σ H1 _ I1 q1) fun iv s2 ⟨y,H2,I2,r2,q2⟩=>?_))
 refine wpAny_bind (wpAny_standAt (wpAny_bind (wpAny_holding (thn (hs pins s2 σ H2 x y v ov iv u _ I2 r1 r2 r q2) fun _ s3 ⟨H3,I3,q3⟩=>?_))))
 exact wpAny_release ⟨σ,H3,I3,q3⟩
noncomputable def yZ(te:TE)(g:TG):TS:=fun D σ H=>te σ H fun x H1=>g x σ H1 D.nx
theorem vI (he:PE X e te)(hg:PG X tg g)(hs:swapsWithSole [tg] e pos.line X.env=pure false:=by rfl)(hw:swappedStores [tg] e X.env=pure none:=by rfl)
    (h1:(assignEach [tg] X.env).map (·.2)= [assign tg X.env]:=by rfl):PS X (.Assign [tg] e pos) (yZ te g):=by
  intro pins s σ H D I h
  refine wpAny_Assign_stores (thn (he pins s σ H _ I h) fun v s1 ⟨x,H1,I1,r1,q1⟩=>?_) hs hw
  rw[h1]
  exact thn (hg pins s1 σ H1 x v _ I1 r1 q1) fun _ s2 q=>q
theorem QY{i:Nat}(hN:X.N.Nodup)(hi:X.N[i]?=some x)(hx:Loc X.env.scope x)(he:PE X e te)(hs:swapsWith e (some (.Name x pos')) pos.line X.env=pure false:=by rfl)(hf:X.fn x=true∨X.env.scope.names.lookup x=some .local:=by first | exact .inl rfl | exact .inr rfl | assumption) :
    PS X (.Assign [.Name x pos'] e pos) (yZ te (Vv i)):=by
  intro pins s σ H D I h
  refine wpAny_Assign_Name (thn (he pins s σ H _ I h) fun v s1 ⟨y,H1,I1,r1,q1⟩=>?_) hs
  exact jc I1 hN hi hx r1 (fun s2 I2=>⟨_,H1,I2,q1⟩) hf
noncomputable def tAug(i:Nat)(te:TE)(ti:TIp):TS:=fun D σ H=>∃ x,σ[i]?=some (some x)/\te σ H fun y H1=>ti x y H1 fun z H2=>D.nx (σ.set i (some z)) H2
theorem zgc{i:Nat}(hN:X.N.Nodup)(hi:X.N[i]?=some x)(hx:Loc X.env.scope x)(he:PE X e te)(ho:PIp X op ti)(hf:X.fn x=true∨X.env.scope.names.lookup x=some .local:=by first | exact .inl rfl | exact .inr rfl | assumption) :
    PS X (.AugAssign (.Name x pos') op e pos) (tAug i te ti):=by
  intro pins s σ H D I h
  obtain⟨v,e1,h⟩:=h
  obtain⟨m,hn,hl⟩:=I.loc
  have vis:Vis X.env.scope x:=by rcases hx with k | k;exact .inl k;exact .inr (.inl k)
  obtain⟨u,r,l⟩:=hl i x v hi e1 vis
  refine wpAny_AugAssign_Name ?_
  have go:wpAny (model X.prog X.w) X.A (eval e X.env) (fun w s₂=>wpAny (model X.prog X.w) X.A (inplaceOp op u w) (fun r s₃=>wpAny (model X.prog X.w) X.A (storeName X.env x r) (fun _=>SP X pins D .next) X.xe s₃) X.xe s₂) X.xe s:=by
    refine thn (he pins s σ H _ I h) fun w s1 ⟨y,H1,I1,r1,q1⟩=>?_
    refine thn (ho pins s1 σ H1 v y u w _ I1 r r1 q1) fun z s2 ⟨zv,H2,I2,r2,q2⟩=>?_
    exact jc I2 hN hi hx r2 (fun s3 I3=>⟨_,H2,I3,q2⟩) hf
  rcases l with ⟨hk,hm⟩ | ⟨hk,c,hc,hcell⟩
  · exact wpAny_loadName_local I.ok.kind hk hn hm go
  · rcases hk with hk | hk
    · exact wpAny_loadName_cell I.ok.kind hk hc hcell go
    · rcases hx with k | k
      · have : X.env.scope.names.lookup x = some .free := hk
        rw[k]at this;cases this
      · have : X.env.scope.names.lookup x = some .free := hk
        rw[k]at this;cases this
end
section
variable {X:Cx}{pos:Pos}
noncomputable def zgS(c:TT)(tb:TS):TS:=fun D σ H=>∃ W:Nat->St->Hp->Prop,(∃ m,W m σ H)/\∀ m σ H,W m σ H ->
 c σ H fun b H1=>if b=true then ∃ N:St->Hp->Prop,(∀ σ' H',N σ' H'->∃ m',m'<m/\W m' σ' H')/\tb { D with nx:=N,ct:=N,bk:=D.nx } σ H1 else D.nx σ H1
theorem zbw (hp:PassesOwn (model X.prog X.w) X.A X.env X.xe)(hc:PT X c tc)(hb:PSs X body tb):PS X (.While c body [] pos) (zgS tc tb):=by
 intro pins s σ H D I h
 obtain⟨W,⟨m0,w0⟩,turn⟩:=h
 refine wpAny_While (codeAny_whileLoop (fun n s'=>∃ σ' H',Inv X pins σ' H' s'/\W n σ' H') ?_ m0 ⟨σ,H,I,w0⟩)
 rintro n s1 ⟨σ1,H1,I1,w1⟩
 refine wpAny_passesOwn hp (thn (hc pins s1 σ1 H1 _ I1 (turn n σ1 H1 w1)) fun b s2 ⟨H2,I2,q2⟩=>?_)
 cases b with
 |true=>
  obtain⟨N,hN,q2⟩:=q2
  rw[if_pos rfl]
  refine wpAny_passesOwn hp (thn (hb pins s2 σ1 H2 _ I2 q2) fun f s3 q3=>?_)
  cases f with
  |next=>
   obtain⟨σ3,H3,I3,n3⟩:=q3
   obtain⟨m',hm,w3⟩:=hN σ3 H3 n3
   exact⟨m',hm,σ3,H3,I3,w3⟩
  |cont=>
   obtain⟨σ3,H3,I3,n3⟩:=q3
   obtain⟨m',hm,w3⟩:=hN σ3 H3 n3
   exact⟨m',hm,σ3,H3,I3,w3⟩
  |brk=>exact q3
  |ret v=>exact q3
 |false=>
  rw[if_neg uA]
  exact wpAny_execs_nil ⟨σ1,H2,I2,q2⟩
end
structure It where
 go:Nat->Hp->Prop
 yld:Nat->Hp->V->Hp->Prop
 stop:Nat->Hp->Prop
noncomputable def ZF(X:Cx)(pins:List (Addr×Obj))(H:Hp)(b:Addr):Prop :=
 H b=none/\b≠X.env.locals/\b∉X.fs/\(b∈X.ex∨X.s₀.heap.objs.size<=b)/\(∀ x c,X.env.cells.lookup x=some c->c≠b)/\∀ p∈X.pn++pins,p.1≠b
theorem Inv.fpOk {s:Shared}(I:Inv X pins σ H s)(hb:s.heap.objs.size<=b)(hn:H' b=none):ZF X pins H' b:=by
 refine⟨hn,uX (xv I.lt hb),I.nofs hb,.inr (xH I.sz hb),fun x c e z=>?_,fun p hp z=>?_⟩
 ·obtain⟨v,q⟩:=I.cell x c e
  exact absurd (xv q.lt (by rw[z];exact hb)) (uf _)
 ·exact absurd (xv (Heap.lt_size (I.pin p hp).1) (by rw[z];exact hb)) (uf _)
structure yd(P:Program)(w:World)(K:PySem.W.Frag)(tg:Expr)(J:It)(fp:List Addr)(it:Addr)(tn:Nat->Heap->Prop):Prop where
 mem:it∈fp
 obj:∀ i h,tn i h->∀ b∈fp,∃ o,h.get? b=some o/\∀ v,o.data≠ .cell v
 keep:∀ i h h',tn i h->(∀ b∈fp,∀ o,h.get? b=some o->h'.get? b=some o)->tn i h'
 item:∀ (X:Cx),X.prog=P->X.w=w->X.K=K->X.calm=true->∀ (i:Nat) (pins:List (Addr×Obj)) (s:Shared) (σ:St) (H:Hp) (E:Value->Shared->Prop),Inv X pins σ H s->(∀ b∈fp,ZF X pins H b)->tn i s.heap->J.go i H ->
  wpAny (model P w) X.A (pyNext (.ref it)) (fun r s1=>∃ u,r=some u /\
   wpAny (model P w) X.A (letOwnedTupleGo tg (.ref it) u) (fun _ s2=>∃ x H',Inv X pins σ H' s2/\RelV x u/\J.yld i H x H'/\tn (i+1) s2.heap/\∀ b∈fp,H' b=none) E s1) E s
 done:∀ (X:Cx),X.prog=P->X.w=w->X.K=K->X.calm=true->∀ (i:Nat) (pins:List (Addr×Obj)) (s:Shared) (σ:St) (H:Hp) (E:Value->Shared->Prop),Inv X pins σ H s->(∀ b∈fp,ZF X pins H b)->tn i s.heap->J.stop i H ->
  wpAny (model P w) X.A (pyNext (.ref it)) (fun r s1=>r=none/\Inv X pins σ H s1) E s
 self:∀ (A:Around) (i:Nat) (s:Shared) (Q:Value->Shared->Prop) (E:Value->Shared->Prop),tn i s.heap->Q (.ref it) s->wpAny (model P w) A (pyIter (.ref it)) Q E s
noncomputable abbrev TI:=St->Hp->(It->Hp->Prop)->Prop
noncomputable def PIE(X:Cx)(pins:List (Addr×Obj))(σ:St)(tg:Expr)(R:It->Hp->Prop)(itv:Value)(s2:Shared):Prop :=
 ∃ (it:Addr) (fp:List Addr) (tn:Nat->Heap->Prop) (J:It) (H':Hp),itv=.ref it/\Inv X pins σ H' s2/\yd X.prog X.w X.K tg J fp it tn/\tn 0 s2.heap/\(∀ b∈fp,ZF X pins H' b)/\R J H'
noncomputable def PI(X:Cx)(tg iter:Expr)(wi:TI):Prop :=
 ∀ (pins:List (Addr×Obj)) (s:Shared) (σ:St) (H:Hp) (R:It->Hp->Prop),Inv X pins σ H s->wi σ H R ->
  wpAny (model X.prog X.w) X.A (eval iter X.env) (fun v s1=>wpAny (model X.prog X.w) X.A (pyIter v) (PIE X pins σ tg R) X.xe s1) X.xe s
theorem zaI {s:Shared}{it:Addr}{o:Obj}{Q:Unit->Shared->Prop}(ho:s.heap.get? it=some o)(hc:o.cls=.type n)(hd:o.data=.fields vs)
    (hn: ["enumerate","zip","dict_itemiterator","dict_reverseitemiterator","odict_iterator","itertools.zip_longest","itertools.pairwise"].contains n=false) (hQ:Q () s):wpAny M A (letOwnedTupleGo tg (.ref it) u) Q E s:=by
  unfold letOwnedTupleGo
  cases tg<;>first
    |exact wpAny_pure hQ
    | (cases u<;>first
        |exact wpAny_pure hQ
        | (refine wpAny_bind (wpAny_load ho ?_)
           rw[hc,hd]
           show wpAny M A (if (["enumerate","zip","dict_itemiterator","dict_reverseitemiterator","odict_iterator","itertools.zip_longest","itertools.pairwise"].contains n&&vs[0]?==some (rawInt _))=true then _ else _) Q E s
           rw[if_neg (by intro h;rw[hn,Bool.false_and]at h;cases h)]
           exact wpAny_pure hQ))
noncomputable def Itl(K:PySem.W.Frag)(a:Addr):It :=
 ⟨fun i H=>∃ xs x,SqL K H a xs/\xs[i]?=some x,fun i H x H'=>H'=H/\∀ xs,SqL K H a xs->xs[i]?=some x,fun i H=>∃ xs,SqL K H a xs/\xs.length<=i⟩
noncomputable def Itt(K:PySem.W.Frag)(a:Addr):It :=
 ⟨fun i H=>∃ xs x,SqT K H a xs/\xs[i]?=some x,fun i H x H'=>H'=H/\∀ xs,SqT K H a xs->xs[i]?=some x,fun i H=>∃ xs,SqT K H a xs/\xs.length<=i⟩
noncomputable def Itr(lo:Int)(n:Nat):It:=⟨fun i _=>i<n,fun i H x H'=>H'=H/\x=.int (lo+i),fun i _=>n<=i⟩
theorem Kz {K:PySem.W.Frag}(a it:Addr):yd P w K tg (Itl K a) [it] it (fun i h=>h.IsListIter it a i) where
 mem:=by simp
 obj:=fun i h st b hb=>by
  have e:b=it:=by simpa using hb
  subst e
  obtain⟨o,e,c,d⟩:=st
  exact⟨o,e,fun v z=>by rw[d]at z;cases z⟩
 keep:=fun i h h' st k=>st.at fun o e=>k it (by simp) o e
 item:=by
  intro X hP hw hK hc i pins s σ H E I hf st hg
  subst hP hw hK
  obtain⟨xs,x,hq,hx⟩:=hg
  obtain⟨its,rv,p,hz⟩:=I.list hq
  obtain⟨u,hu,ru⟩:=rv.get hx
  obtain⟨f0,f1,f2,f3,f4,f5⟩:=hf it (by simp)
  refine wpAny_pyNext_list_item st p.isList (x:=u) (by simpa using hu) fun h' st' sb=>?_
  have I1:Inv X pins σ H { s with heap:=h' }:=I.turned (t':=s.toks) (fun b o hb e=>(sb.2 b hb).trans e) f0 f1 f3 f4 f5
  obtain⟨o,e,c,d⟩:=id st'
  exact⟨u,rfl,zaI (s:={ s with heap:=h' }) e c d (by decide) ⟨x,H,I1,ru,⟨rfl,fun ys hy=>by rw[I.list_inj hy hq];exact hx⟩,st',fun b hb=>(hf b hb).1⟩⟩
 done:=by
  intro X hP hw hK hc i pins s σ H E I hf st hg
  subst hP hw hK
  obtain⟨xs,hq,hx⟩:=hg
  obtain⟨its,rv,p,hz⟩:=I.list hq
  obtain⟨f0,f1,f2,f3,f4,f5⟩:=hf it (by simp)
  have hl:=rv.length
  exact wpAny_pyNext_list_end (I.ok.hd hc) st p.isList (by simp;omega) fun h' eb=>⟨rfl,I.turned (t':=s.toks) (fun b o hb e=>eb b o hb e) f0 f1 f3 f4 f5⟩
 self:=fun _ _ _ _ _ st h=>wpAny_pyIter_listiter st h
theorem y7 {K:PySem.W.Frag}(a it:Addr):yd P w K tg (Itt K a) [it] it (fun i h=>h.IsTupleIter it a i) where
 mem:=by simp
 obj:=fun i h st b hb=>by
  have e:b=it:=by simpa using hb
  subst e
  obtain⟨o,e,c,d⟩:=st
  exact⟨o,e,fun v z=>by rw[d]at z;cases z⟩
 keep:=fun i h h' st k=>st.at fun o e=>k it (by simp) o e
 item:=by
  intro X hP hw hK hc i pins s σ H E I hf st hg
  subst hP hw hK
  obtain⟨xs,x,hq,hx⟩:=hg
  obtain⟨its,rv,p,hz⟩:=I.tuple hq
  obtain⟨u,hu,ru⟩:=rv.get hx
  obtain⟨f0,f1,f2,f3,f4,f5⟩:=hf it (by simp)
  refine wpAny_pyNext_tuple_item st (show s.heap.IsTuple a its.toArray from p) (x:=u) (by simpa using hu) fun h' st' sb=>?_
  have I1:Inv X pins σ H { s with heap:=h' }:=I.turned (t':=s.toks) (fun b o hb e=>(sb.2 b hb).trans e) f0 f1 f3 f4 f5
  obtain⟨o,e,c,d⟩:=id st'
  exact⟨u,rfl,zaI (s:={ s with heap:=h' }) e c d (by decide) ⟨x,H,I1,ru,⟨rfl,fun ys hy=>by rw[I.tuple_inj hy hq];exact hx⟩,st',fun b hb=>(hf b hb).1⟩⟩
 done:=by
  intro X hP hw hK hc i pins s σ H E I hf st hg
  subst hP hw hK
  obtain⟨xs,hq,hx⟩:=hg
  obtain⟨its,rv,p,hz⟩:=I.tuple hq
  obtain⟨f0,f1,f2,f3,f4,f5⟩:=hf it (by simp)
  have hl:=rv.length
  exact wpAny_pyNext_tuple_end (I.ok.hd hc) st (show s.heap.IsTuple a its.toArray from p) (by simp;omega) fun h' eb=>⟨rfl,I.turned (t':=s.toks) (fun b o hb e=>eb b o hb e) f0 f1 f3 f4 f5⟩
 self:=fun _ _ _ _ _ st h=>wpAny_pyIter_tupleiter st h
theorem y6 {K:PySem.W.Frag}(it:Addr)(lo:Int)(n:Nat):yd P w K tg (Itr lo n) [it] it (fun i h=>IsRangeIter h it (lo+(i:Nat)*1) ((n:Int)-(i:Nat)) 1) where
 mem:=by simp
 obj:=fun i h st b hb=>by
  have e:b=it:=by simpa using hb
  subst e
  exact⟨_,st,fun v z=>by
   have z':Data.fields _=Data.cell v:=z
   cases z'⟩
 keep:=fun i h h' st k=>k it (by simp) _ st
 item:=by
  intro X hP hw hK hc i pins s σ H E I hf st hg
  subst hP hw hK
  obtain⟨f0,f1,f2,f3,f4,f5⟩:=hf it (by simp)
  have W:=Walks.range (prog:=X.prog) (w:=X.w) (I.ok.hd hc) it lo 1 n
  refine W.item i s _ _ hg st fun v h' tk hv st' kk=>?_
  obtain⟨t,rfl⟩:=hv
  have I1:Inv X pins σ H { s with heap:=h',toks:=tk }:=I.turned (fun b o hb e=>kk b o (by simpa using hb) e) f0 f1 f3 f4 f5
  refine⟨_,rfl,zaI (s:={ s with heap:=h',toks:=tk }) (n:= "range_iterator") st' rfl rfl (by decide) ⟨.int (lo+i),H,I1,⟨t,?_⟩,⟨rfl,rfl⟩,st',fun b hb=>(hf b hb).1⟩⟩
  rw[Int.mul_one]
 done:=by
  intro X hP hw hK hc i pins s σ H E I hf st hg
  subst hP hw hK
  obtain⟨f0,f1,f2,f3,f4,f5⟩:=hf it (by simp)
  exact wpAny_pyNext_range_end (I.ok.hd hc) st (by have:n<=i:=hg;omega) fun h' eb=>⟨rfl,I.turned (t':=s.toks) (fun b o hb e=>eb b o hb e) f0 f1 f3 f4 f5⟩
 self:=fun _ _ _ _ _ st h=>wpAny_pyIter_rangeiter st h
section
variable {X:Cx}{tg:Expr}
noncomputable def zhB(K:PySem.W.Frag)(tl:TE):TI:=fun σ H R=>tl σ H fun x H1=>∃ a,x=.ref a/\(∃ xs,SqL K H1 a xs)/\R (Itl K a) H1
noncomputable def iTup(K:PySem.W.Frag)(tl:TE):TI:=fun σ H R=>tl σ H fun x H1=>∃ a,x=.ref a/\(∃ xs,SqT K H1 a xs)/\R (Itt K a) H1
theorem YQ (hl:PE X l tl):PI X tg l (zhB X.K tl):=by
 intro pins s σ H R I h
 refine thn (hl pins s σ H _ I h) fun v s1 ⟨x,H1,I1,r1,q1⟩=>?_
 obtain⟨a,e,⟨xs,hq⟩,q⟩:=q1
 subst e
 cases r1
 obtain⟨its,rv,p,hz⟩:=I1.list hq
 refine wpAny_pyIter_list p.isList ?_
 refine⟨s1.heap.objs.size,[s1.heap.objs.size],_,_,H1,rfl,I1.kept (t':=s1.toks) fun b o e=>Heap.get?_push_of_some _ e,Kz a _,⟨_,Heap.get?_push_size _ rfl,rfl,rfl⟩,fun b hb=>?_,q⟩
 have e:b=s1.heap.objs.size:=by simpa using hb
 subst e
 exact I1.fpOk (xh _) (I1.hok.fresh (xh _))
theorem zgb (hl:PE X l tl):PI X tg l (iTup X.K tl):=by
 intro pins s σ H R I h
 refine thn (hl pins s σ H _ I h) fun v s1 ⟨x,H1,I1,r1,q1⟩=>?_
 obtain⟨a,e,⟨xs,hq⟩,q⟩:=q1
 subst e
 cases r1
 obtain⟨its,rv,p,hz⟩:=I1.tuple hq
 refine wpAny_pyIter_tuple (show s1.heap.IsTuple a its.toArray from p) ?_
 refine⟨s1.heap.objs.size,[s1.heap.objs.size],_,_,H1,rfl,I1.kept (t':=s1.toks) fun b o e=>Heap.get?_push_of_some _ e,y7 a _,⟨_,Heap.get?_push_size _ rfl,rfl,rfl⟩,fun b hb=>?_,q⟩
 have e:b=s1.heap.objs.size:=by simpa using hb
 subst e
 exact I1.fpOk (xh _) (I1.hok.fresh (xh _))
theorem zbA {s:Shared}{R:It->Hp->Prop}{lo hi:Int}{tk:Nat}(I:Inv X pins σ H s)(h1: -(2 ^ 62)<=lo)(h2:lo<2 ^ 62)(h3: -(2 ^ 62)<=hi)(h4:hi<2 ^ 62)
  (q:R (Itr lo (hi-lo).toNat) H):wpAny (model X.prog X.w) X.A (pyIter (.ref s.heap.objs.size)) (PIE X pins σ tg R) E { s with heap:=s.heap.push { cls:=.type "range",data:=.fields #[.int lo t,.int hi u,.int 1 v] },toks:=tk }:=by
 refine wpAny_pyIter_range (IsRange.new ..) (small_one h1 h2 h3 h4) ?_
 have I1:Inv X pins σ H { s with heap:=s.heap.push { cls:=.type "range",data:=.fields #[.int lo t,.int hi u,.int 1 v] },toks:=tk }:=I.kept fun b o e=>Heap.get?_push_of_some _ e
 refine⟨(s.heap.push { cls:=.type "range",data:=.fields #[.int lo t,.int hi u,.int 1 v] }).objs.size,[(s.heap.push { cls:=.type "range",data:=.fields #[.int lo t,.int hi u,.int 1 v] }).objs.size],_,_,H,rfl,
  I1.kept (t':=tk) fun b o e=>Heap.get?_push_of_some _ e,y6 _ lo (hi-lo).toNat,?_,fun b hb=>?_,q⟩
 ·have e1:lo+((0:Nat):Int)*1=lo:=by simp
  have e2:(((hi-lo).toNat:Nat):Int)-((0:Nat):Int)=Builtin.Range.rangeSize lo hi 1:=by rw[rangeSize_one];split<;>omega
  show IsRangeIter _ _ (lo+((0:Nat):Int)*1) ((((hi-lo).toNat:Nat):Int)-((0:Nat):Int)) 1
  rw[e1,e2]
  exact Heap.get?_push_size _ rfl
 ·have e:b=(s.heap.push { cls:=.type "range",data:=.fields #[.int lo t,.int hi u,.int 1 v] }).objs.size:=by simpa using hb
  subst e
  exact I1.fpOk (xh _) (I1.hok.fresh (xh _))
noncomputable def zhC(ta:TA):TI:=fun σ H R=>ta σ H fun vs H1=>∃ j:Int,vs= [.int j]/\ -(2 ^ 62)<=j/\j<2 ^ 62/\R (Itr 0 j.toNat) H1
theorem k8 (hg:Gl X "range") (hm:X.mg "range" =none) (ha:PA X [a] ta) (hs:starEach [a] X.env= [(false,eval a X.env)]:=by rfl):PI X tg (.Call (.Name "range" p) [a] [] pos) (zhC ta):=by
 intro pins s σ H R I h
 refine Call_ (jF I hg hm boot_range (PyProof.Rows.callWith_type1 (thn (ha pos pins s σ H _ I h) fun us s1 ⟨vs,H1,I1,r1,q1⟩=>?_) hs rfl))
 obtain⟨j,e,q1,q2,q⟩:=q1
 subst e
 cases r1 with
 |cons r rr=>
  cases rr
  obtain⟨t,rfl⟩:=r
  exact call_range_1 (zbA I1 (by omega) (by omega) q1 q2 (by simpa using q))
noncomputable def tFor(wi:TI)(g:TG)(tb:TS):TS:=fun D σ H=>wi σ H fun J H1=>∃ W:Nat->Nat->St->Hp->Prop,(∃ m,W 0 m σ H1)/\∀ i m σ H,W i m σ H ->
 (J.stop i H/\D.nx σ H)∨(J.go i H/\∃ N:St->Hp->Prop,(∀ σ' H',N σ' H'->∃ m',m'<m/\W (i+1) m' σ' H')/\∀ x H',J.yld i H x H'->g x σ H' fun σ2 H2=>tb { D with nx:=N,ct:=N,bk:=D.nx } σ2 H2)
noncomputable def QW(fp:List Addr)(h:Heap):List (Addr×Obj):=fp.filterMap fun b=>(h.get? b).map fun o=>(b,o)
theorem jH {h:Heap}(hb:b∈fp)(e:h.get? b=some o):(b,o)∈QW fp h:=uM.mpr ⟨b,hb,by rw[e];rfl⟩
theorem kY {h:Heap}{p:Addr×Obj}(hp:p∈QW fp h):p.1∈fp/\h.get? p.1=some p.2:=by
 obtain⟨b,hb,e⟩:=uM.mp hp
 cases q:h.get? b with
 |none=>rw[q]at e;cases e
 |some o=>
  rw[q]at e
  have e':(b,o)=p:=Option.some.inj e
  subst e'
  exact⟨hb,q⟩
theorem Inv.pinned {s:Shared}(I:Inv X pins σ H s)(hf:∀ b∈fp,ZF X pins H b)(ho:∀ b∈fp,∃ o,s.heap.get? b=some o/\∀ v,o.data≠ .cell v):Inv X (pins++QW fp s.heap) σ H s :=
 I.pins_of fun p hp=>(xM.mp hp).elim (fun z=>I.pin p (xF _ z)) fun z=>by
  obtain⟨hb,e⟩:=kY z
  obtain⟨f0,f1,f2,_⟩:=hf p.1 hb
  obtain⟨o,e',d⟩:=ho p.1 hb
  rw[e]at e';cases e'
  exact⟨e,f0,f1,f2,d⟩
theorem Inv.unpinned (I:Inv X (pins++pl) σ H s):Inv X pins σ H s:=I.pins_of fun p hp=>I.pin p (xF _ (xq _ hp))
theorem zbu (hp:PassesOwn (model X.prog X.w) X.A X.env X.xe)(hc:X.calm=true)(hi:PI X tg iter wi)(hg:PG X tg g)(hb:PSs X body tb)
  (hs:∀ x,foldedSetIterable iter X.env x=pure x:=by intro _;rfl):PS X (.For tg iter body [] pos) (tFor wi g tb):=by
 intro pins s σ H D I h
 refine wpAny_For (thn (hi pins s σ H _ I h) fun v s1 h1=>thn h1 fun itv s2 h2=>?_) hs
 obtain⟨it,fp,tn,J,H2,e,I2,T,st2,f2,W,⟨m0,w0⟩,turn⟩:=h2
 subst e
 -- what stays true of the iterator's objects through the loop
 have stat:∀ {H':Hp},(∀ b∈fp,H' b=none)->∀ b∈fp,ZF X pins H' b:=fun hn b hb=>⟨hn b hb,(f2 b hb).2⟩
 refine codeAny_forLoop_any (fun n s'=>∃ i σ' H',Inv X pins σ' H' s'/\tn i s'.heap/\(∀ b∈fp,H' b=none)/\W i n σ' H') ?_ m0 ⟨0,σ,H2,I2,st2,fun b hb=>(f2 b hb).1,w0⟩
 rintro n s3 ⟨i,σ3,H3,I3,st3,fr3,w3⟩
 rcases turn i n σ3 H3 w3 with ⟨stop,qn⟩ | ⟨go,N,hN,step⟩
 ·refine wpAny_passesOwn hp (thn (T.done X rfl rfl rfl hc i pins s3 σ3 H3 X.xe I3 (stat fr3) st3 stop) fun r s4 ⟨hr,I4⟩=>?_)
  subst hr
  exact wpAny_execs_nil ⟨σ3,H3,I4,qn⟩
 ·refine wpAny_passesOwn hp (thn (T.item X rfl rfl rfl hc i pins s3 σ3 H3 X.xe I3 (stat fr3) st3 go) fun r s4 ⟨u,hr,h4⟩=>?_)
  subst hr
  refine wpAny_passesOwn hp (thn h4 fun _ s5 ⟨x,H5,I5,r5,y5,st5,fr5⟩=>?_)
  have I5':=I5.pinned (stat fr5) (T.obj _ _ st5)
  refine wpAny_passesOwn hp (thn (hg _ s5 σ3 H5 x u _ I5' r5 (step x H5 y5)) fun _ s6 ⟨σ6,H6,I6,q6⟩=>?_)
  refine wpAny_passesOwn hp (thn (hb _ s6 σ6 H6 _ I6 q6) fun f s7 q7=>?_)
  have again:∀ {σ7:St} {H7:Hp},Inv X (pins++QW fp s5.heap) σ7 H7 s7->N σ7 H7->∃ m,m<n/\∃ i σ' H',Inv X pins σ' H' s7/\tn i s7.heap/\(∀ b∈fp,H' b=none)/\W i m σ' H':=fun {σ7 H7} I7 n7=>by
   obtain⟨m',hm,w7⟩:=hN σ7 H7 n7
   refine⟨m',hm,i+1,σ7,H7,I7.unpinned,T.keep _ _ _ st5 fun b hb o e=>(I7.pin (b,o) (xF _ (xF _ (jH hb e)))).1,fun b hb=>?_,w7⟩
   obtain⟨o,e,d⟩:=T.obj _ _ st5 b hb
   exact (I7.pin (b,o) (xF _ (xF _ (jH hb e)))).2.1
  cases f with
  |next=>obtain⟨σ7,H7,I7,n7⟩:=q7;exact again I7 n7
  |cont=>obtain⟨σ7,H7,I7,n7⟩:=q7;exact again I7 n7
  |brk=>obtain⟨σ7,H7,I7,q7⟩:=q7;exact⟨σ7,H7,I7.unpinned,q7⟩
  |ret v=>obtain⟨x7,σ7,H7,I7,r7,q7⟩:=q7;exact⟨x7,σ7,H7,I7.unpinned,r7,q7⟩
end
theorem zaC{K:PySem.W.Frag}{a:Addr}{xs:List V}{g:TG}{tb:TS}{D:qJ}{σ:St}{H:Hp}(Pv:Nat->St->Hp->Prop)(h0:Pv 0 σ H)(hl:∀ i σ H,i<=xs.length->Pv i σ H->SqL K H a xs)
  (hs:∀ i x σ H,xs[i]?=some x->Pv i σ H->g x σ H fun σ2 H2=>tb { D with nx:=Pv (i+1),ct:=Pv (i+1),bk:=D.nx } σ2 H2) (hd:∀ σ H,Pv xs.length σ H->D.nx σ H) :
  ∃ W:Nat->Nat->St->Hp->Prop,(∃ m,W 0 m σ H)/\∀ i m σ H,W i m σ H ->
   ((Itl K a).stop i H/\D.nx σ H)∨((Itl K a).go i H/\∃ N:St->Hp->Prop,(∀ σ' H',N σ' H'->∃ m',m'<m/\W (i+1) m' σ' H')/\∀ x H',(Itl K a).yld i H x H'->g x σ H' fun σ2 H2=>tb { D with nx:=N,ct:=N,bk:=D.nx } σ2 H2):=by
 refine⟨fun i m σ H=>m=xs.length-i/\i<=xs.length/\Pv i σ H,⟨xs.length,by simp,uk _,h0⟩,?_⟩
 rintro i m σ H ⟨rfl,hi,p⟩
 have q:=hl i σ H hi p
 by_cases hlt:i<xs.length
 ·refine .inr ⟨⟨xs,xs[i],q,by simp[hlt]⟩,Pv (i+1),fun σ' H' p'=>⟨xs.length-(i+1),by omega,rfl,hlt,p'⟩,fun x H' y=>?_⟩
  obtain⟨e,y⟩:=y
  subst e
  exact hs i x σ _ (y xs q) p
 ·have e:i=xs.length:=by omega
  subst e
  exact .inl ⟨⟨xs,q,xh _⟩,hd σ H p⟩
noncomputable abbrev R2:=V->V->Hp->VK->Prop
noncomputable def OpR(X:Cx)(f:Value->Value->Sem Value)(r:R2):Prop :=
 ∀ (pins:List (Addr×Obj)) (s:Shared) (σ:St) (H:Hp) (x y:V) (v u:Value) (Q:VK),Inv X pins σ H s->RelV x v->RelV y u->r x y H Q ->
  wpAny (model X.prog X.w) X.A (f v u) (EP X pins σ Q) X.xe s
noncomputable def UnR(X:Cx)(f:Value->Sem Value)(r:V->Hp->VK->Prop):Prop :=
 ∀ (pins:List (Addr×Obj)) (s:Shared) (σ:St) (H:Hp) (x:V) (v:Value) (Q:VK),Inv X pins σ H s->RelV x v->r x H Q ->
  wpAny (model X.prog X.w) X.A (f v) (EP X pins σ Q) X.xe s
noncomputable def jo(X:Cx)(f:Value)(r:List V->Hp->VK->Prop):Prop :=
 ∀ (pins:List (Addr×Obj)) (s:Shared) (σ:St) (H:Hp) (xs:List V) (us:List Value) (Q:VK),Inv X pins σ H s->Vals xs us->r xs H Q ->
  wpAny (model X.prog X.w) X.A (call f us) (EP X pins σ Q) X.xe s
noncomputable def TruR(X:Cx)(r:V->Hp->(Bool->Hp->Prop)->Prop):Prop :=
 ∀ (pins:List (Addr×Obj)) (s:Shared) (σ:St) (H:Hp) (x:V) (v:Value) (Q:Bool->Hp->Prop),Inv X pins σ H s->RelV x v->r x H Q ->
  wpAny (model X.prog X.w) X.A (truthy v) (TP X pins σ Q) X.xe s
noncomputable def tOp(r:R2)(ta tb:TE):TE:=fun σ H Q=>ta σ H fun x H1=>tb σ H1 fun y H2=>r x y H2 Q
noncomputable def tUn(r:V->Hp->VK->Prop)(ta:TE):TE:=fun σ H Q=>ta σ H fun x H1=>r x H1 Q
noncomputable def rI(C:Int->Int->Prop)(g:Int->Int->V):R2:=fun x y H Q=>∃ i j,x=.int i/\y=.int j/\C i j/\Q (g i j) H
noncomputable def rI0(g:Int->Int->V):R2:=fun x y H Q=>∃ i j,x=.int i/\y=.int j/\Q (g i j) H
noncomputable def rU(g:Int->V):V->Hp->VK->Prop:=fun x H Q=>∃ i,x=.int i/\Q (g i) H
section
variable {X:Cx}{a b:Expr}{ta tb:TE}{pos:Pos}
theorem ze9(ha:PE X a ta)(hb:PE X b tb){pins:List (Addr×Obj)}{s:Shared}{σ:St}{H:Hp}{R:V->V->Hp->Prop}(I:Inv X pins σ H s)
  (h:ta σ H fun x H1=>tb σ H1 fun y H2=>R x y H2) {Q:Value->Shared->Prop} {f:Value->Value->Sem Value}
  (hf:∀ v u s2 x y H2,Inv X pins σ H2 s2->RelV x v->RelV y u->R x y H2->wpAny (model X.prog X.w) X.A (f v u) Q X.xe s2) :
  wpAny (model X.prog X.w) X.A (eval a X.env) (fun v s₁=>wpAny (model X.prog X.w) X.A (eval b X.env) (fun u s₂=>wpAny (model X.prog X.w) X.A (f v u) Q X.xe s₂) X.xe s₁) X.xe s:=by
 refine thn (ha pins s σ H _ I h) fun v s1 ⟨x,H1,I1,r1,q1⟩=>?_
 refine thn (hb pins s1 σ H1 _ I1 q1) fun u s2 ⟨y,H2,I2,r2,q2⟩=>?_
 exact hf v u s2 x y H2 I2 r1 r2 q2
theorem WP (ho:OpR X (binaryOp op) r)(ha:PE X a ta)(hb:PE X b tb):PE X (.BinOp a op b pos) (tOp r ta tb):=by
 intro pins s σ H Q I h
 exact wpAny_BinOp (ze9 ha hb I h fun v u s2 x y H2 I2 rx ry q=>ho pins s2 σ H2 x y v u Q I2 rx ry q)
theorem zeS (ho:UnR X (unaryOp op) r)(ha:PE X a ta):PE X (.UnaryOp op a pos) (tUn r ta):=by
 intro pins s σ H Q I h
 exact UnaryOp_ (thn (ha pins s σ H _ I h) fun v s1 ⟨x,H1,I1,r1,q1⟩=>ho pins s1 σ H1 x v Q I1 r1 q1)
theorem opI{f:Value->Value->Sem Value}{C:Int->Int->Prop}{g:Int->Int->Int}
  (rule:∀ (i j:Int) (t u:Tok) (s:Shared) (Q:Value->Shared->Prop) (E:Value->Shared->Prop),C i j->Q (.int (g i j) s.toks) { s with toks:=s.toks+1 }->wpAny (model X.prog X.w) X.A (f (.int i t) (.int j u)) Q E s) :
  OpR X f (rI C fun i j=>.int (g i j)):=by
 intro pins s σ H x y v u Q I rx ry h
 obtain⟨i,j,rfl,rfl,hc,q⟩:=h
 obtain⟨t,rfl⟩:=rx
 obtain⟨t',rfl⟩:=ry
 exact rule i j t t' s _ _ hc ⟨.int (g i j),H,I.tok _,⟨_,rfl⟩,q⟩
theorem zfZ{f:Value->Value->Sem Value}{g:Int->Int->Int}
  (rule:∀ (i j:Int) (t u:Tok) (s:Shared) (Q:Value->Shared->Prop) (E:Value->Shared->Prop),Q (.int (g i j) s.toks) { s with toks:=s.toks+1 }->wpAny (model X.prog X.w) X.A (f (.int i t) (.int j u)) Q E s) :
  OpR X f (rI0 fun i j=>.int (g i j)):=by
 intro pins s σ H x y v u Q I rx ry h
 obtain⟨i,j,rfl,rfl,q⟩:=h
 obtain⟨t,rfl⟩:=rx
 obtain⟨t',rfl⟩:=ry
 exact rule i j t t' s _ _ ⟨.int (g i j),H,I.tok _,⟨_,rfl⟩,q⟩
theorem zdq{f:Value->Value->Sem Value}{g:Int->Int->Bool}
  (rule:∀ (i j:Int) (t u:Tok) (s:Shared) (Q:Value->Shared->Prop) (E:Value->Shared->Prop),Q (.bool (g i j)) s->wpAny (model X.prog X.w) X.A (f (.int i t) (.int j u)) Q E s) :
  OpR X f (rI0 fun i j=>.bl (g i j)):=by
 intro pins s σ H x y v u Q I rx ry h
 obtain⟨i,j,rfl,rfl,q⟩:=h
 obtain⟨t,rfl⟩:=rx
 obtain⟨t',rfl⟩:=ry
 exact rule i j t t' s _ _ ⟨.bl (g i j),H,I,rfl,q⟩
noncomputable def CDiv(i j:Int):Prop:=0<j/\j<1073741824
noncomputable def zhb(i j:Int):Prop:=0<=j/\j<=1000000/\i.natAbs<2 ^ 64
noncomputable def CMul(i j:Int):Prop:=(-(2 ^ 64)<i/\i<2 ^ 64)∨(-(2 ^ 64)<j/\j<2 ^ 64)
theorem CMul.ok (h:CMul i j):IntMulOk i j:=by
 rcases h with ⟨h1,h2⟩ | ⟨h1,h2⟩
 ·exact .of_left (intBits_le_64 h1 h2)
 ·exact .of_right (intBits_le_64 h1 h2)
theorem y8(k:Nat):(0:Int)<=2 ^ k:=by
 rw[two_pow_cast]
 exact Int.natCast_nonneg _
theorem yL:OpR X (binaryOp .Add) (rI0 fun i j=>.int (i+j)):=zfZ fun _ _ _ _ _ _ _ q=>add_int q
theorem zf6:OpR X (binaryOp .Sub) (rI0 fun i j=>.int (i-j)):=zfZ fun _ _ _ _ _ _ _ q=>sub_int q
theorem zbj:OpR X (binaryOp .Mult) (rI CMul fun i j=>.int (i*j)):=opI fun _ _ _ _ _ _ _ hc q=>mul_int q hc.ok
theorem zdr:OpR X (binaryOp .FloorDiv) (rI CDiv fun i j=>.int (i / j)):=opI fun i j _ _ _ _ _ hc q=>by
 have h1:(0:Int)<j:=hc.1
 have h2:j<1073741824:=hc.2
 exact floordiv_int (by omega) (by rw[Int.fdiv_eq_ediv_of_nonneg i (by omega)];exact q) (.inl (PyProof.noPylong_small (by omega)))
theorem zbi:OpR X (binaryOp .Mod) (rI (fun _ j=>0<j) fun i j=>.int (i % j)):=opI fun i j _ _ _ _ _ hc q=>by
 have h1:(0:Int)<j:=hc
 exact mod_int' (by omega) (by rw[Int.fmod_eq_emod_of_nonneg i (by omega)];exact q)
theorem zf3:OpR X (binaryOp .Pow) (rI zhb fun i j=>.int (i ^ j.toNat)):=opI fun _ _ _ _ _ _ _ hc q=>pow_int_small hc.1 hc.2.1 hc.2.2 q
theorem zf4:OpR X (binaryOp .LShift) (rI zhb fun i j=>.int (i*2 ^ j.toNat)):=opI fun _ _ _ _ _ _ _ hc q=>lshift_int_small hc.1 hc.2.1 hc.2.2 q
theorem zf5:OpR X (binaryOp .RShift) (rI (fun _ j=>0<=j) fun i j=>.int (i / 2 ^ j.toNat)):=opI fun i j _ _ _ _ _ hc q=>
 rshift_int hc (by rw[Int.fdiv_eq_ediv_of_nonneg i (y8 _)];exact q)
theorem zf0:OpR X (binaryOp .BitAnd) (rI0 fun i j=>.int (Builtin.bitAnd i j)):=zfZ fun _ _ _ _ _ _ _ q=>and_int q
theorem unI{f:Value->Sem Value}{g:Int->Int}
  (rule:∀ (i:Int) (t:Tok) (s:Shared) (Q:Value->Shared->Prop) (E:Value->Shared->Prop),Q (.int (g i) s.toks) { s with toks:=s.toks+1 }->wpAny (model X.prog X.w) X.A (f (.int i t)) Q E s) :
  UnR X f (rU fun i=>.int (g i)):=by
 intro pins s σ H x v Q I rx h
 obtain⟨i,rfl,q⟩:=h
 obtain⟨t,rfl⟩:=rx
 exact rule i t s _ _ ⟨.int (g i),H,I.tok _,⟨_,rfl⟩,q⟩
theorem zg0:UnR X (unaryOp .USub) (rU fun i=>.int (-i)):=unI fun _ _ _ _ _ q=>neg_int q
end
section
variable {X:Cx}{a b c:Expr}{ta tb tc:TE}{pos:Pos}
theorem zaz {Q:VK}(I:Inv X pins σ H s)(q:Q (.bl k) H)(e:k=k'):EP X pins σ Q (.bool k') s:=by
 subst e
 exact⟨.bl k,H,I,rfl,q⟩
theorem zhN:OpR X (compareOp .Lt) (rI0 fun i j=>.bl (decide (i<j))):=zdq fun _ _ _ _ _ _ _ q=>lt_int q
theorem zhM:OpR X (compareOp .LtE) (rI0 fun i j=>.bl (decide (i<=j))):=zdq fun _ _ _ _ _ _ _ q=>le_int q
theorem zhL:OpR X (compareOp .Gt) (rI0 fun i j=>.bl (decide (j<i))):=zdq fun _ _ _ _ _ _ _ q=>gt_int q
theorem zhK:OpR X (compareOp .GtE) (rI0 fun i j=>.bl (decide (j<=i))):=zdq fun _ _ _ _ _ _ _ q=>ge_int q
theorem zf2:OpR X (compareOp .Is) (fun x y H Q=>y=.non/\Q (.bl (decide (x=.non))) H):=by
 intro pins s σ H x y v u Q I rx ry h
 obtain⟨rfl,q⟩:=h
 cases ry
 refine is_none_gen (zaz I q ?_)
 cases x<;>first
  | (cases rx;rfl)
  | (obtain⟨t,rfl⟩:=rx;rfl)
theorem zds:OpR X (compareOp .IsNot) (fun x y H Q=>y=.non/\Q (.bl (!decide (x=.non))) H):=by
 intro pins s σ H x y v u Q I rx ry h
 obtain⟨rfl,q⟩:=h
 cases ry
 refine isnot_none_gen (zaz I q ?_)
 cases x<;>first
  | (cases rx;rfl)
  | (obtain⟨t,rfl⟩:=rx;rfl)
theorem zdw (ho:OpR X (compareOp op) r)(ha:PE X a ta)(hb:PE X b tb)(hm:behindInMarks op b=false):PE X (.Compare a [op] [b] pos) (tOp r ta tb):=by
 intro pins s σ H Q I h
 exact wpAny_Compare1 (ze9 ha hb I h fun v u s2 x y H2 I2 rx ry q=>ho pins s2 σ H2 x y v u Q I2 rx ry q) hm
noncomputable def zeY(t:TE):TT:=fun σ H Q=>t σ H fun x H'=>∃ k,x=.bl k/\Q k H'
theorem zdD (ho:OpR X (compareOp op) r)(ha:PE X a ta)(hb:PE X b tb)(hm:behindInMarks op b=false):PT X (.Compare a [op] [b] pos) (zeY (tOp r ta tb)):=by
 intro pins s σ H Q I h
 refine wpAny_isTrue_Compare1 (thn (ha pins s σ H _ I h) fun v s1 ⟨x,H1,I1,r1,q1⟩=>thn (hb pins s1 σ H1 _ I1 q1) fun u s2 ⟨y,H2,I2,r2,q2⟩=>
  thn (ho pins s2 σ H2 x y v u _ I2 r1 r2 q2) fun c s3 ⟨z,H3,I3,r3,k,e,q3⟩=>?_) hm
 subst e
 cases r3
 exact wpAny_truthy_bool ⟨H3,I3,q3⟩
noncomputable def y0(r r':R2)(ta tb tc:TE):TE:=fun σ H Q=>ta σ H fun x H1=>tb σ H1 fun y H2=>r x y H2 fun z H3=>∃ k,z=.bl k /\
 (if k=true then tc σ H3 fun w' H4=>r' y w' H4 Q else Q (.bl false) H3)
theorem zbk (ho:OpR X (compareOp op) r)(ho':OpR X (compareOp op') r')(ha:PE X a ta)(hb:PE X b tb)(hc:PE X c tc)
  (hm:lastMarks [op,op'] [b,c]=false:=by with_unfolding_all rfl):PE X (.Compare a [op,op'] [b,c] pos) (y0 r r' ta tb tc):=by
 intro pins s σ H Q I h
 refine Compare_chain (thn (ha pins s σ H _ I h) fun v s1 ⟨x,H1,I1,r1,q1⟩=>chain_link (thn (hb pins s1 σ H1 _ I1 q1) fun u s2 ⟨y,H2,I2,r2,q2⟩=>
  thn (ho pins s2 σ H2 x y v u _ I2 r1 r2 q2) fun d s3 ⟨z,H3,I3,r3,k,e,q3⟩=>?_)) hm
 subst e
 cases r3
 refine wpAny_truthy_bool ?_
 cases k with
 |false=>exact ite_ff ⟨.bl false,H3,I3,rfl,q3⟩
 |true=>exact ite_tt (chain_last (thn (hc pins s3 σ H3 _ I3 q3) fun w' s4 ⟨z',H4,I4,r4,q4⟩=>ho' pins s4 σ H4 y z' u w' Q I4 r2 r4 q4))
theorem zbx (ho:OpR X (compareOp op) r)(ho':OpR X (compareOp op') r')(ha:PE X a ta)(hb:PE X b tb)(hc:PE X c tc)
  (hm:lastMarks [op,op'] [b,c]=false:=by with_unfolding_all rfl):PT X (.Compare a [op,op'] [b,c] pos) (zeY (y0 r r' ta tb tc)):=by
 intro pins s σ H Q I h
 refine isTrue_chain (thn (ha pins s σ H _ I h) fun v s1 ⟨x,H1,I1,r1,q1⟩=>test_link (thn (hb pins s1 σ H1 _ I1 q1) fun u s2 ⟨y,H2,I2,r2,q2⟩=>
  thn (ho pins s2 σ H2 x y v u _ I2 r1 r2 q2) fun d s3 ⟨z,H3,I3,r3,k,e,q3⟩=>?_)) hm
 subst e
 cases r3
 refine wpAny_truthy_bool ?_
 cases k with
 |false=>
  obtain⟨k',e',q'⟩:=q3
  cases e'
  exact ite_ff ⟨H3,I3,q'⟩
 |true=>
  refine ite_tt (test_last (thn (hc pins s3 σ H3 _ I3 q3) fun w' s4 ⟨z',H4,I4,r4,q4⟩=>thn (ho' pins s4 σ H4 y z' u w' _ I4 r2 r4 q4) fun d' s5 ⟨z2,H5,I5,r5,k2,e2,q5⟩=>?_))
  subst e2
  cases r5
  exact wpAny_truthy_bool ⟨H5,I5,q5⟩
noncomputable def zcD(K:PySem.W.Frag)(x:V)(H:Hp)(k:Bool):Prop :=
 match x with
 |.non=>k=false
 |.bl b=>k=b
 |.int i=>k=(i !=0)
 |.str y=>y.length<=sizeLine/\k=((y.length:Int) !=0)
 |.byt y=>y.size<=sizeLine/\k=((y.size:Int) !=0)
 |.ref p=>(∃ xs,SqL K H p xs/\k= !xs.isEmpty)∨(∃ xs,SqT K H p xs/\k= !xs.isEmpty)∨∃ kvs,H p=some (.dK kvs)/\k= !kvs.isEmpty
 |_=>False
theorem yD{κ:Type}{kvs:List (κ×V)}{vs:List (κ×Value)}(r:KV kvs vs):(!vs.isEmpty)= !kvs.isEmpty:=by
 cases r<;>rfl
theorem wA{xs:List V}{its:List Value}(r:Vals xs its):(!its.toArray.isEmpty)= !xs.isEmpty:=by
 cases r<;>simp
theorem wD:(sizeLine:Nat)<2 ^ 63:=by rw[sizeLine_eq];decide
theorem zca:TruR X (fun x H Q=>∃ k,zcD X.K x H k/\Q k H):=by
 intro pins s σ H x v Q I rx h
 obtain⟨k,e,q⟩:=h
 have hl:=wD
 have hs:sizeLine=16777216:=sizeLine_eq
 cases x with
 |non=>
  cases rx
  have e':k=false:=e
  subst e'
  exact truthy_none ⟨H,I,q⟩
 |bl b=>
  cases rx
  have e':k=b:=e
  subst e'
  exact wpAny_truthy_bool ⟨H,I,q⟩
 |int i=>
  obtain⟨t,rfl⟩:=rx
  have e':k=(i !=0):=e
  subst e'
  exact PySem.P.truthy_int ⟨H,I,q⟩
 |str y=>
  obtain⟨t,rfl⟩:=rx
  obtain⟨hy,e'⟩:y.length<=sizeLine/\k=((y.length:Int) !=0):=e
  subst e'
  exact PySem.P.truthy_str (by omega) ⟨H,I.tok _,q⟩
 |byt y=>
  obtain⟨t,rfl⟩:=rx
  obtain⟨hy,e'⟩:y.size<=sizeLine/\k=((y.size:Int) !=0):=e
  subst e'
  exact PySem.W.truthy_bytes (by omega) ⟨H,I.tok _,q⟩
 |ref p=>
  cases rx
  have e':(∃ xs,SqL X.K H p xs/\k= !xs.isEmpty)∨(∃ xs,SqT X.K H p xs/\k= !xs.isEmpty)∨∃ kvs,H p=some (.dK kvs)/\k= !kvs.isEmpty:=e
  rcases e' with ⟨xs,hx,e'⟩ | ⟨xs,hx,e'⟩ | ⟨kvs,hx,e'⟩
  ·subst e'
   obtain⟨its,r,pl,hz⟩:=I.list hx
   have hlen:=r.length
   exact wpAny_truthy_list pl.isList (by simp only[xu];omega) ⟨H,I.tok _,by rw[wA r];exact q⟩
  ·subst e'
   obtain⟨its,r,pl,hz⟩:=I.tuple hx
   have hlen:=r.length
   exact truthy_tuple pl (by simp only[xu];omega) ⟨H,I.tok _,by rw[wA r];exact q⟩
  ·subst e'
   obtain⟨hz,hS,vs,r,m⟩:kvs.length<=sizeLine/\(p==sysModules)=false/\∃ vs,KV kvs vs/\s.heap.DictOf (vA X.prog X.w) p vs:=I.hok p _ hx
   have hlen:kvs.length=vs.length:=Paired.length r
   exact wpAny_truthy_dict hS m (by omega) ⟨H,I.tok _,by rw[yD r];exact q⟩
 |_=>exact (show False from e).elim
theorem zby(ha:PE X a ta)(he:∀ whole,isTrue a X.env whole=(do let v<-whole;standAt a.pos;holding [v] (truthy v))) :
  PT X a (fun σ H Q=>ta σ H fun x H'=>∃ k,zcD X.K x H' k/\Q k H'):=by
 intro pins s σ H Q I h
 exact isTrue_plain (thn (ha pins s σ H _ I h) fun v s1 ⟨x,H1,I1,r1,q1⟩=>zca pins s1 σ H1 x v Q I1 r1 q1) (he _)
theorem ZE (r:Vals [x] us):∃ u,us= [u]/\RelV x u:=by
 cases r with
 |cons r1 r2=>cases r2;exact⟨_,rfl,r1⟩
theorem zcs (r:Vals [x,y] us):∃ u w',us= [u,w']/\RelV x u/\RelV y w':=by
 cases r with
 |cons r1 r2=>
  cases r2 with
  |cons r3 r4=>cases r4;exact⟨_,_,rfl,r1,r3⟩
theorem kB (hc:X.calm=true):jo X (.builtin "max") (fun xs H Q=>∃ i j,xs= [.int i,.int j]/\Q (.int (if j>i then j else i)) H):=by
 intro pins s σ H xs us Q I r h
 obtain⟨i,j,rfl,q⟩:=h
 obtain⟨u,w',rfl,⟨t,rfl⟩,⟨t',rfl⟩⟩:=zcs r
 refine max_two_ints (I.ok.hd hc) fun h' tk k=>⟨_,H,I.kept k,?_,q⟩
 by_cases hj:j>i
 ·rw[if_pos hj,if_pos hj];exact⟨_,rfl⟩
 ·rw[if_neg hj,if_neg hj];exact⟨_,rfl⟩
theorem kC (hc:X.calm=true):jo X (.builtin "min") (fun xs H Q=>∃ i j,xs= [.int i,.int j]/\Q (.int (if j<i then j else i)) H):=by
 intro pins s σ H xs us Q I r h
 obtain⟨i,j,rfl,q⟩:=h
 obtain⟨u,w',rfl,⟨t,rfl⟩,⟨t',rfl⟩⟩:=zcs r
 refine min_two_ints (I.ok.hd hc) fun h' tk k=>⟨_,H,I.kept k,?_,q⟩
 by_cases hj:j<i
 ·rw[if_pos hj,if_pos hj];exact⟨_,rfl⟩
 ·rw[if_neg hj,if_neg hj];exact⟨_,rfl⟩
theorem WA:jo X (.type "int") (fun xs H Q=>(∃ i,xs= [.int i]/\Q (.int i) H)∨∃ k,xs= [.bl k]/\Q (.int (if k then 1 else 0)) H):=by
 intro pins s σ H xs us Q I r h
 rcases h with ⟨i,rfl,q⟩ | ⟨k,rfl,q⟩
 ·obtain⟨u,rfl,t,rfl⟩:=ZE r
  exact call_int_int ⟨.int i,H,I,⟨_,rfl⟩,q⟩
 ·obtain⟨u,rfl,r1⟩:=ZE r
  cases r1
  exact call_int_bool ⟨.int (if k then 1 else 0),H,I.tok _,⟨_,rfl⟩,q⟩
end
structure ObjM(h:Heap)(x dx C:Addr)(mA:Str->Option Value):Prop where
 obj:h.get? x=some (PySem.W.instObj C dx)
 ns:h.Ns1 dx mA
 ne:dx≠x
theorem WM{h:Heap}(n:h.Ns1 dx mA):∃ od,h.get? dx=some od/\∀ name,PySem.W.lookIn name od=some (mA name):=by
 obtain⟨o,es,ep,ho,hd,hk,_,hm⟩:=n
 refine⟨o,ho,fun name=>?_⟩
 have e:=hm name
 unfold nsFind findBy at e
 rw[<- Array.find?_toList]at e
 unfold PySem.W.lookIn
 rw[hd]
 dsimp only
 split
 ·rename_i y q
  rw[q]at e
  exact congrArg some e
 ·rename_i q
  rw[q]at e
  have a:es.toList.any (·.refKey)=false:=by
   rw[List.any_eq_false]
   intro y hy
   obtain⟨z,t,hkey⟩:=hk y (Array.mem_toList_iff.mp hy)
   simp[DictEntry.refKey,hkey]
  have a':¬ es.toList.any (·.refKey)=true:=by rw[a];exact uA
  rw[if_neg a']
  exact congrArg some e
theorem ObjM.look {x dx C:Addr}(I:ObjM h x dx C mA):∃ od,PySem.W.InstAt h x (PySem.W.instObj C dx) C (some od)/\∀ name,PySem.W.lookIn name od=some (mA name) :=
 let ⟨od,ho,hl⟩:=WM I.ns
 ⟨od,⟨I.obj,rfl,rfl,ho⟩,hl⟩
section
end
section
variable {P:Program}{w:World}{H:Hp}{h:Heap}{a C dx:Addr}{fs:List (Str×V)}
theorem zdf(hok:HOk P w H h)(e:H a=some (.ins C dx fs)):∃ mA,ObjM h a dx C mA/\(∀ f,RelO (fs.lookup f) (mA f))/\PySem.Within mA (fs.map (·.1))/\fs.length<=1000/\H dx=some (.own a):=by
 obtain⟨d,z,ne,ob,mA,n,r,q⟩:=(show ObjOk P w H h a (.ins C dx fs) from hok a _ e)
 exact⟨mA,⟨ob,n,ne⟩,r,q,z,d⟩
end
structure Cls(K:PySem.W.Frag)(C:Addr):Prop where
 pg:PySem.W.plainGet K C Str.empty=true
 hd:PySem.W.hasDictIn K C=true
 po:PySem.W.plainOver K C=true
 sa:PySem.W.findIn K (.ref C) "__setattr__" =some (some (.builtin "object.__setattr__"))
theorem Cls.get{K:PySem.W.Frag}{C:Addr}(c:Cls K C)(f:Str):PySem.W.plainGet K C f=true:=c.pg
noncomputable def ZG(K:PySem.W.Frag)(C:Addr)(f:Str):Prop:=PySem.W.findIn K (.ref C) f=some none
structure ze2(K:PySem.W.Frag)(C:Addr)(m:Str)(f:Addr):Prop where
 at_:PySem.W.findIn K (.ref C) m=some (some (.ref f))
 fn:PySem.W.isFn K (.ref f)=true
 kp:PySem.W.keepIn K (.ref f)=true
section
variable {s:Shared}{f:Str}{A:Around}{E:Value->Shared->Prop}
theorem zcH {Q:Value->Shared->Prop}(hb:attributeBase e f env (eval e env)=eval e env)
  (h:wpAny (model prog w) A (eval e env) (fun o s₁=>wpAny (model prog w) A (getAttr o f true) Q E s₁) E s):wpAny (model prog w) A (eval (.Attribute e f pos) env) Q E s :=
 Attribute_any_ h (by rw[arm_eval_Attribute,hb])
end
section
end
section
variable {X:Cx}{pins:List (Addr×Obj)}{σ:St}{H:Hp}{s:Shared}{A:Around}{E:Value->Shared->Prop}{Q:Value->Shared->Prop}{c:Value}{b:Bool}
inductive ZV(K:PySem.W.Frag)(H:Hp):V->Value->Prop where
 |non:ZV K H .non (.type "NoneType")
 |bl (x:Bool):ZV K H (.bl x) (.type "bool")
 |int (i:Int):ZV K H (.int i) (.type "int")
 |str (x:Str):ZV K H (.str x) (.type "str")
 |flt (x:UInt64):ZV K H (.flt x) (.type "float")
 |lst {a:Addr} {xs:List V} (e:H a=some (.lst xs)):ZV K H (.ref a) (.type "list")
 |frz {a:Addr} {o:Obj} {xs:List V} (e:H a=some (.frz o (.lst xs))):ZV K H (.ref a) (.type "list")
 |tup {a:Addr} {xs:List V} (e:H a=some (.tup xs)):ZV K H (.ref a) (.type "tuple")
 |dK {a:Addr} {kvs:List (Key×V)} (e:H a=some (.dK kvs)):ZV K H (.ref a) (.type "dict")
 |dT {a:Addr} {kvs:List (List Key×V)} (e:H a=some (.dT kvs)):ZV K H (.ref a) (.type "dict")
 |ins {a C dx:Addr} {fs:List (Str×V)} (e:H a=some (.ins C dx fs)) (cl:Cls K C) (ha:PySem.W.findIn K (.ref C) "__class__" =some (some (.builtin "object.__class__")))
   (hn:PySem.W.specialIn K (.builtin "object.__class__") "__get__" =some (some (.builtin "getset_descriptor.__get__"))) (htk:PySem.W.takesIn K (.builtin "object.__class__")=some true)
   (hm:PySem.W.mroIn K C (.type "object")=some true):ZV K H (.ref a) (.ref C)
theorem kM (I:Inv X pins σ H s)(rx:RelV x u)(ty:ZV X.K H x t)(e:PySem.W.kitOne X.K t c=some b)(h:∀ tk,Q (.bool b) { s with toks:=tk }) :
  wpAny (model X.prog X.w) A (call (.builtin "isinstance") [u,c]) Q E s:=by
 cases ty with
 |non=>cases (show u=Value.none from rx);exact PySem.W.kia_one PySem.W.kitx_none I.kIn True.intro e (fun z=>nomatch z) h
 |bl y=>cases (show u=Value.bool y from rx);exact PySem.W.kia_one PySem.W.kitx_bool I.kIn True.intro e (fun z=>nomatch z) h
 |int i=>obtain⟨t,q⟩:=(show ∃ t,u=Value.int i t from rx);cases q;exact PySem.W.kia_one PySem.W.kitx_int I.kIn True.intro e (fun z=>nomatch z) h
 |str y=>obtain⟨t,q⟩:=(show ∃ t,u=Value.str y t from rx);cases q;exact PySem.W.kia_one PySem.W.kitx_str I.kIn True.intro e (fun z=>nomatch z) h
 |flt y=>obtain⟨t,q⟩:=(show ∃ t,u=Value.float y t from rx);cases q;exact PySem.W.kia_one PySem.W.kitx_float I.kIn True.intro e (fun z=>nomatch z) h
 | @lst a xs ea=>
  cases (show u=Value.ref a from rx)
  obtain⟨_,_,n,_,h1⟩:=(show ObjOk X.prog X.w H s.heap a (.lst xs) from I.hok a _ ea)
  exact PySem.W.kia_one PySem.W.kitx_list I.kIn ⟨_,h1,rfl⟩ e (fun z=>nomatch z) h
 | @frz a ob xs ea=>
  cases (show u=Value.ref a from rx)
  obtain⟨_,_,_,n,_,h1⟩:=(show ObjOk X.prog X.w H s.heap a (.frz ob (.lst xs)) from I.hok a _ ea)
  exact PySem.W.kia_one PySem.W.kitx_list I.kIn ⟨_,h1,rfl⟩ e (fun z=>nomatch z) h
 | @tup a xs ea=>
  cases (show u=Value.ref a from rx)
  obtain⟨_,_,_,p⟩:=(show ObjOk X.prog X.w H s.heap a (.tup xs) from I.hok a _ ea)
  obtain⟨o,h1,h2,_⟩:=p
  exact PySem.W.kia_one PySem.W.kitx_tuple I.kIn ⟨o,h1,h2⟩ e (fun z=>nomatch z) h
 | @dK a kvs ea=>
  cases (show u=Value.ref a from rx)
  obtain⟨_,_,vs,_,p⟩:=(show ObjOk X.prog X.w H s.heap a (.dK kvs) from I.hok a _ ea)
  obtain⟨o,es,ep,h1,h2,_⟩:=p
  exact PySem.W.kia_one PySem.W.kitx_dict I.kIn ⟨o,h1,h2.1⟩ e (fun z=>nomatch z) h
 | @dT a kvs ea=>
  cases (show u=Value.ref a from rx)
  obtain⟨_,_,xs,_,o,es,ep,h1,h2,_⟩:=(show ObjOk X.prog X.w H s.heap a (.dT kvs) from I.hok a _ ea)
  exact PySem.W.kia_one PySem.W.kitx_dict I.kIn ⟨o,h1,h2.1⟩ e (fun z=>nomatch z) h
 | @ins a C dx fs ea cl ha hn htk hm=>
  cases (show u=Value.ref a from rx)
  obtain⟨mA,O,_⟩:=zdf I.hok ea
  obtain⟨od,J,_⟩:=O.look
  exact PySem.W.kia_one (PySem.W.kitx_own (cl.get _) cl.hd ha hn htk hm) I.kIn J e (fun z=>nomatch z) h
end
structure Room(k:Nat)(A:Around):Prop where
 hd:A.handled=none
 dp:A.depth+3*k+5<recursionLimit
 un:A.units+16*k+200<cLine
theorem Room.mono{j k:Nat}(r:Room k A)(h:j<=k):Room j A:=⟨r.hd,by have:=r.dp;omega,by have:=r.un;omega⟩
theorem Room.deeper{k:Nat}{A:Around}(r:Room (k+1) A)(env:Env):Room k (A.deeper env) :=
 ⟨r.hd,by have:=r.dp;show A.depth+1+3*k+5<_;omega,by have:=r.un;show A.units+3+16*k+200<_;omega⟩
theorem Room.in1{k:Nat}{A:Around}(r:Room (k+1) A):Room k A.in1 :=
 ⟨r.hd,by have:=r.dp;show A.depth+3*k+5<_;omega,by have:=r.un;show A.units+1+16*k+200<_;omega⟩
theorem yG {A:Around}{C:Addr}:(A.under (.builtin "type.__call__" ⟨.ref C::us,kw⟩)).depth=A.depth+1:=by
 first | rfl | simp[Around.under,Code.weight,Code.isCreation,Code.isGuard,Code.isCaller,Code.frames,Code.isFrame,guardIds]
theorem yH {A:Around}{C:Addr}:(A.under (.builtin "type.__call__" ⟨.ref C::us,kw⟩)).units=A.units+1:=by
 first | rfl | simp[Around.under,Code.cUnits,Code.frames,Code.isFrame]
theorem Room.make {k:Nat}{A:Around}(r:Room (k+1) A) (C:Addr) (us:List Value) (kw:List (Str×Value)):Room k (A.under (.builtin "type.__call__" ⟨.ref C::us,kw⟩)) :=
 ⟨r.hd,by have:=r.dp;rw[yG];omega,by have:=r.un;rw[yH];omega⟩
theorem Room.depth {A:Around}(r:Room k A):A.depth<recursionLimit:=by have:=r.dp;omega
theorem Room.units {A:Around}(r:Room k A):A.units+64<cLine:=by have:=r.un;omega
noncomputable def zei:TA:=fun _ H Q=>Q [] H
noncomputable def YZ(ta:TE)(tr:TA):TA:=fun σ H Q=>ta σ H fun x H1=>tr σ H1 fun xs H2=>Q (x::xs) H2
section
variable {X:Cx}{e:Expr}{es:List Expr}{te:TE}{t:TA}{pos:Pos}
theorem pa_nil:PA X [] zei:=fun _ _ _ _ H Q I h=>Calls.spliced_nil ⟨[],H,I,.nil,h⟩
theorem zo(ha:PE X e te)(hr:PA X es t)(hs:starEach (e::es) X.env=(false,eval e X.env)::starEach es X.env:=by rfl):PA X (e::es) (YZ te t):=by
 intro pos pins s σ H Q I h
 rw[hs]
 show wpAny _ _ (spliced ((false,eval e X.env)::backTo pos (starEach es X.env))) _ _ s
 refine Calls.spliced_cons (thn (ha pins s σ H _ I h) fun u s1 ⟨x,H1,I1,r1,q1⟩=>?_)
 exact thn (hr pos pins s1 σ H1 _ I1 q1) fun us s2 ⟨xs,H2,I2,r2,q2⟩=>⟨x::xs,H2,I2,.cons r1 r2,q2⟩
noncomputable def tTup(t:TA):TE:=fun σ H Q=>t σ H fun xs H1=>xs.length<=sizeLine/\∀ p,H1 p=none->Q (.ref p) (upd H1 p (.tup xs))
noncomputable def tLst(t:TA):TE:=fun σ H Q=>t σ H fun xs H1=>xs.length<=sizeLine/\∀ p,H1 p=none->Q (.ref p) (upd H1 p (.lst xs))
theorem zbo{x1}(h:PA X es t):PE X (.Tuple es x1 pos) (tTup t):=by
 intro pins s σ H Q I hq
 refine wpAny_Tuple_spliced (thn (h pos pins s σ H _ I hq) fun us s1 ⟨xs,H1,I1,r,z,q⟩=>⟨by rw[<- r.length];exact z,?_⟩)
 have hf:H1 s1.heap.objs.size=none:=I1.hok.fresh (xh _)
 refine⟨.ref s1.heap.objs.size,upd H1 s1.heap.objs.size (.tup xs),I1.laid (t':=s1.toks) (fun b u e=>Heap.get?_push_of_some _ e) (xh _) ?_,rfl,q _ hf⟩
 exact⟨z,us,r,⟨_,Heap.get?_push_size _ rfl,rfl,_,rfl⟩⟩
theorem zbn(h:PA X es t):PE X (.List es pos) (tLst t):=by
 intro pins s σ H Q I hq
 refine wpAny_List_spliced (thn (h pos pins s σ H _ I hq) fun us s1 ⟨xs,H1,I1,r,z,q⟩=>⟨by rw[<- r.length];exact z,?_⟩)
 have hf:H1 s1.heap.objs.size=none:=I1.hok.fresh (xh _)
 refine⟨.ref s1.heap.objs.size,upd H1 s1.heap.objs.size (.lst xs),I1.laid (t':=s1.toks) (fun b u e=>Heap.get?_push_of_some _ e) (xh _) ?_,rfl,q _ hf⟩
 exact⟨z,us,0,r,Heap.get?_push_size _ rfl⟩
end
noncomputable abbrev Sp:=List V->Hp->VK->XK->Prop
noncomputable abbrev CXT:=List Env->Hp->Shared->XK->Value->Shared->Prop
structure Env0(P:Program)(w:World)(K:PySem.W.Frag)(mg:Str->Option Value)(base:Heap)(A:Around)(outer:List Env)(s:Shared)(H:Hp):Prop where
 frames:A.frames=some outer
 mod:Mod K mg base
 bs:∀ b o,base.get? b=some o->s.heap.get? b=some o/\H b=none
 bsz:base.objs.size<=s.heap.objs.size
 funs:s.heap.FunFrames base outer
 frf:∀ b∈frs outer,H b=none
 hok:HOk P w H s.heap
 bare:AllBare s.gens
noncomputable def CE(outer:List Env)(P:Program)(w:World)(H:Hp)(s:Shared)(Q:VK)(u:Value)(s':Shared):Prop :=
 ∃ v H',s'.os=s.os/\AllBare s'.gens/\Un (frs outer) [] H H' s.heap s'.heap/\HOk P w H' s'.heap/\RelV v u/\Q v H'
noncomputable def CR(CX:CXT)(outer:List Env)(P:Program)(w:World)(H:Hp)(s:Shared)(Q:VK)(E:XK)(r:Result)(s':Shared):Prop :=
 match r with
 |.ok (.ret u)=>CE outer P w H s Q u s'
 |.ok _=>False
 |.error e=>CX outer H s E e s'
structure FnOk(P:Program)(w:World)(K:PySem.W.Frag)(mg:Str->Option Value)(base:Heap)(CX:CXT)(k:Nat)(f:Addr)(fd:FuncData)(ps:List Str)(sp:Sp):Prop where
 len:∀ vs H Q E,sp vs H Q E->vs.length=ps.length
 run:∀ (A:Around) (outer:List Env) (s:Shared) (H:Hp) (args:Args) (us:List Value) (vs:List V) (Q:VK) (E:XK),Room k A->Env0 P w K mg base A outer s H->BindsTo s fd args (ps.zip us)->Vals vs us->sp vs H Q E ->
  codeAny (model P w) A (.call (.ref f) args) (CR CX outer P w H s Q E) s
theorem FnOk.mono {K:PySem.W.Frag}{j k:Nat}(F:FnOk P w K mg base CX j f fd ps sp)(h:j<=k) :
  FnOk P w K mg base CX k f fd ps sp:=⟨F.len,fun A outer s H args us vs Q E hr=>F.run A outer s H args us vs Q E (hr.mono h)⟩
theorem Env0.make {K:PySem.W.Frag}{A:Around}(e:Env0 P w K mg base A outer s H)(C:Addr)(us:List Value)(kw:List (Str×Value)) :
  Env0 P w K mg base (A.under (.builtin "type.__call__" ⟨.ref C::us,kw⟩)) outer s H:=⟨by first | exact e.frames | (simpa [Around.under,Code.envs,Code.isFrame,pushEnvs] using e.frames),e.mod,e.bs,e.bsz,e.funs,e.frf,e.hok,e.bare⟩
section
variable {X:Cx}{pins:List (Addr×Obj)}{σ:St}{H:Hp}{s s':Shared}
theorem Inv.env0(I:Inv X pins σ H s):Env0 X.prog X.w X.K X.mg X.base X.A X.stack s H :=
 ⟨I.ok.frames,I.ok.mod,I.bs,xH I.ok.bsz I.sz,I.stack,I.stkFree,I.hok,I.bare⟩
theorem Inv.after{Q:VK}(I:Inv X pins σ H s)(h:CE X.stack X.prog X.w H s Q u s'):EP X pins σ Q u s':=by
 obtain⟨v,H',os,bare,un,hok,r,q⟩:=h
 obtain⟨hh,g,d,t,os'⟩:=s'
 obtain rfl:os'=s.os:=os
 exact⟨v,H',I.call (h':=hh) (g':=g) (d':=d) (t':=t) (ch:= []) un hok bare (fun b z=>absurd z (by simp)),r,q⟩
end
noncomputable def zic(sp:Sp)(dvs:List V)(E:XK)(t:TA):TE:=fun σ H Q=>t σ H fun vs H1=>sp (vs++dvs) H1 Q E
noncomputable def Binds(K:PySem.W.Frag)(fd:FuncData)(ps:List Str)(ds:List Value):Prop :=
 ∀ (s:Shared) (us:List Value),K.In s.heap->(us++ds).length=ps.length->BindsTo s fd ⟨us,[]⟩ (ps.zip (us++ds))
theorem Binds.all{K:PySem.W.Frag}{ps:List Str}(h:∀ us:List Value,us.length=ps.length->bindArgs fd ⟨us,[]⟩=pure (ps.zip us)):Binds K fd ps []:=fun s us _ hl=>by
 rw[xX]at hl |-
 exact .of_eq (h us hl)
noncomputable def W4(CX:CXT)(X:Cx)(E:XK):Prop:=∀ (pins:List (Addr×Obj)) (σ:St) (H:Hp) (s:Shared) (e:Value) (s':Shared),Inv X pins σ H s->CX X.stack H s E e s'->X.xe e s'
section
variable {X:Cx}{CX:CXT}{k:Nat}{f C:Addr}{fd:FuncData}{ps:List Str}{sp:Sp}{dvs:List V}{ds:List Value}{E:XK}{x:Str}{p pos:Pos}{e:Expr}{es:List Expr}{t:TA}
theorem zgl {Q:VK}(F:FnOk X.prog X.w X.K X.mg X.base CX k f fd ps sp)(hr:Room k X.A)(hb:Binds X.K fd ps ds)(hd:Vals dvs ds)(hx:W4 CX X E)
  (I:Inv X pins σ H s) (r:Vals vs us) (h:sp (vs++dvs) H Q E):wpAny (model X.prog X.w) X.A (call (.ref f) us) (EP X pins σ Q) X.xe s:=by
 have r2:Vals (vs++dvs) (us++ds):=r.append hd
 have hl:(us++ds).length=ps.length:=by rw[<- r2.length];exact F.len _ _ _ _ h
 refine wpAny_call (codeAny_mono (F.run X.A X.stack s H ⟨us,[]⟩ (us++ds) (vs++dvs) Q E hr I.env0 (hb s us I.kIn hl) r2 h) fun r s' hq=>?_)
 cases r with
 |error e=>exact hx pins σ H s e s' I hq
 |ok fl=>
  cases fl with
  |ret u=>exact I.after hq
  |next=>exact False.elim hq
  |brk=>exact False.elim hq
  |cont=>exact False.elim hq
theorem zdv(F:FnOk X.prog X.w X.K X.mg X.base CX k f fd ps sp)(hr:Room k X.A)(hg:Gl X x)(hm:X.mg x=some (.ref f))(hk:PySem.W.keepIn X.K (.ref f)=true)(hb:Binds X.K fd ps ds)(hd:Vals dvs ds)(hx:W4 CX X E)
  (ha:PA X (e::es) t) (hdb:(x==("__debug__" :Str))=false:=by decide) (he:starEach (e::es) X.env=(false,eval e X.env)::starEach es X.env:=by rfl) (hpl:(backTo pos (starEach es X.env)).any (·.1)=false:=by rfl) :
  PE X (.Call (.Name x p) (e::es) [] pos) (zic sp dvs E t):=by
 intro pins s σ H Q I h
 refine wpAny_Call_Name_kw (jG I hg hm ?_ hdb)
 refine PySem.W.callWith_K (h₀:=X.base) I.ok.mod.kin hk (thn (ha pos pins s σ H _ I h) fun us s1 ⟨vs,H1,I1,r,q⟩=>⟨I1.kIn,?_⟩) he hpl
 exact zgl F hr hb hd hx I1 r q
structure Mk(K:PySem.W.Frag)(C f:Addr):Prop where
 makes:PySem.W.makesIn K C=true
 init:PySem.W.findIn K (.ref C) "__init__" =some (some (.ref f))
 fn:PySem.W.isFn K (.ref f)=true
 kp:PySem.W.keepIn K (.ref C)=true
end
section
end
structure qN(N P:List Str)(sc:Scope):Prop where
 kind:sc.kind=.function
 co:sc.isCoroutine=false
 gen:sc.isGenerator=false
 nd:N.Nodup
 pre:N.take P.length=P
 par:∀ x∈P,sc.names.lookup x=some .local∨sc.names.lookup x=some .cell
 nofree:∀ y∈sc.names,y.2≠ .free
theorem Wv{kindOf:Str->Option NameKind}{x:Str}:∀ {binds:List (Str×Value)}{m:Str->Option Value},(∀ v,(x,v)∉binds)->bindL kindOf binds m x=m x
 |[],_,_=>rfl
 | (n,v)::r,m,h=>by
  unfold bindL
  rw[Wv fun w hw=>h w (xi _ hw)]
  split
  ·have:x≠n:=by rintro rfl;exact h v xw
   simp[this]
  ·rfl
theorem Wt{kindOf:Str->Option NameKind}{x:Str}:∀ {binds:List (Str×Value)}{m:Str->Option Value},(∀ v,(x,v)∉binds)->bindC kindOf binds m x=m x
 |[],_,_=>rfl
 | (n,v)::r,m,h=>by
  unfold bindC
  rw[Wt fun w hw=>h w (xi _ hw)]
  split
  ·rfl
  ·have:x≠n:=by rintro rfl;exact h v xw
   simp[this]
theorem Wu{kindOf:Str->Option NameKind}{x:Str}{v:Value}:∀ {P:List Str}{vs:List Value}{i:Nat}{m:Str->Option Value},P.Nodup->P[i]?=some x->vs[i]?=some v->kindOf x=some .local ->
  bindL kindOf (P.zip vs) m x=some v
 |[],_,_,_,_,h,_,_=>by simp at h
 |_::_,[],_,_,_,_,h,_=>by simp at h
 |p::P,w::vs,0,m,nd,h1,h2,hk=>by
  simp at h1 h2;subst h1;subst h2
  show bindL kindOf ((p,w)::P.zip vs) m p=_
  unfold bindL
  rw[Wv fun v hv=>(xG.mp nd).1 (List.of_mem_zip hv).1,if_pos hk]
  simp
 |p::P,w::vs,i+1,m,nd,h1,h2,hk=>by
  show bindL kindOf ((p,w)::P.zip vs) m x=_
  unfold bindL
  exact Wu (i:=i) (xG.mp nd).2 (by simpa using h1) (by simpa using h2) hk
theorem Ws{kindOf:Str->Option NameKind}{x:Str}{v:Value}:∀ {P:List Str}{vs:List Value}{i:Nat}{m:Str->Option Value},P.Nodup->P[i]?=some x->vs[i]?=some v->kindOf x≠some .local ->
  bindC kindOf (P.zip vs) m x=some v
 |[],_,_,_,_,h,_,_=>by simp at h
 |_::_,[],_,_,_,_,h,_=>by simp at h
 |p::P,w::vs,0,m,nd,h1,h2,hk=>by
  simp at h1 h2;subst h1;subst h2
  show bindC kindOf ((p,w)::P.zip vs) m p=_
  unfold bindC
  rw[Wt fun v hv=>(xG.mp nd).1 (List.of_mem_zip hv).1,if_neg hk]
  simp
 |p::P,w::vs,i+1,m,nd,h1,h2,hk=>by
  show bindC kindOf ((p,w)::P.zip vs) m x=_
  unfold bindC
  exact Ws (i:=i) (xG.mp nd).2 (by simpa using h1) (by simpa using h2) hk
noncomputable def start(N:List Str)(vs:List V):St:=vs.map some++List.replicate (N.length-vs.length) none
noncomputable def Zv(CX:CXT)(P:Program)(w:World)(K:PySem.W.Frag)(mg:Str->Option Value)(base:Heap)(N:List Str)(qual:Str)(scope:Scope)(f:Addr)(cd:Value)(A:Around)(outer:List Env)(s:Shared)(H:Hp)(E:XK):Cx where
 prog:=P
 w:=w
 K:=K
 mg:=mg
 base:=base
 A:=A.deeper (envOfC qual scope s.heap.objs.size f cd)
 N:=N
 s₀:=s
 H₀:=H
 env:=envOfC qual scope s.heap.objs.size f cd
 outer:=outer
 stack:=envOfC qual scope s.heap.objs.size f cd::outer
 ex:= []
 calm:=true
 fn:=fun _=>true
 pn:= []
 xe:=fun e s'=>wpAny (model P w) (A.deeper (envOfC qual scope s.heap.objs.size f cd)) (leaving (envOfC qual scope s.heap.objs.size f cd) e) (fun _ s''=>CX outer H s E e s'') (fun e' s''=>CX outer H s E e' s'') s'
theorem Qf{sc:Scope}(h:sc.names.lookup x=some .cell):∃ c,(cellsFrom n sc.names []).lookup x=some c:=by
 have q:=PySem.W.cellsFrom_some sc.names n [] (.inl h)
 exact Option.isSome_iff_exists.mp q
theorem kL {K:PySem.W.Frag}{N ps:List Str}{scope:Scope}{A:Around}{s s1:Shared}{vs:List V}
  (S:qN N ps scope) (hd:A.handled=none) (e0:Env0 P w K mg base A outer s H) (hl:vs.length=ps.length) (r:Vals vs us)
  (x:InCallC s s.heap.objs.size (bindL (envOfC qual scope s.heap.objs.size f cd).kindOf (ps.zip us) fun _=>none) (cellsFrom (s.heap.objs.size+1) scope.names []) (bindC (envOfC qual scope s.heap.objs.size f cd).kindOf (ps.zip us) fun _=>none) s1) :
  Inv (Zv CX P w K mg base N qual scope f cd A outer s H E) [] (start N vs) H s1:=by
 have hpl:ps.length<=N.length:=by have:=congrArg List.length S.pre;rw[ud]at this;omega
 obtain⟨h1,tk,rfl,hk⟩:=x.done
 have noA:∀ b:Addr,b∉(Zv CX P w K mg base N qual scope f cd A outer s H E).ex:=fun b z=>absurd (show b∈([]:List Addr) from z) (by simp)
 refine⟨⟨e0.mod,S.kind,rfl,rfl,xh _,fun y z c h1 h2=>?_,fun y hy=>?_,fun y c _ h=>?_,fun _=>hd,Around.frames_deeper e0.frames,.inr ⟨rfl,rfl⟩,fun b z=>absurd z (noA b),e0.bs,e0.bsz,fun b _ _=>noA b,fun b z=>absurd z (noA b),e0.funs,e0.frf⟩,
  rfl,e0.bare,Un.kept hk,⟨_,x.toInCall.ns,fun i y v h1 h2 h3=>?_⟩,fun y c h=>⟨_,x.cell y c h⟩,e0.hok.fresh (xh _),fun y c h=>?_,fun p hp=>absurd (show p∈([]:List (Addr×Obj)) from hp) (by simp),e0.hok.kept hk,?_⟩
 ·exact name_of_addr x.apart (PySem.mem_of_lookup h1) (PySem.mem_of_lookup h2)
 ·have hy:scope.names.lookup y=some .cell∨scope.names.lookup y=some .free:=hy
  rcases hy with hy | hy
  ·exact Qf hy
  ·exact absurd rfl (S.nofree _ (PySem.mem_of_lookup hy))
 ·exact uv (x.above y c (PySem.mem_of_lookup h))
 ·have hi:i<vs.length:=by
   unfold start at h2
   by_cases hi:i<vs.length
   ·exact hi
   ·rw[xf (by simpa using hi)]at h2
    rw[xU]at h2
    split at h2<;>cases h2
  have ha:vs[i]?=some v:=by
   unfold start at h2
   rw[xc (by simpa using hi),xk]at h2
   cases e:vs[i]? with
   |none=>rw[e]at h2;cases h2
   |some a=>rw[e]at h2;cases h2;rfl
  obtain⟨u,hu,rv⟩:=r.get ha
  have hp:ps[i]?=some y:=by
   rw[<- S.pre,xV (by omega)];exact h1
  have ndP:ps.Nodup:=by rw[<- S.pre];exact S.nd.sublist (List.take_sublist _ _)
  refine⟨u,rv,?_⟩
  rcases S.par y (xJ hp)with k | k
  ·exact .inl ⟨k,Wu ndP hp hu k⟩
  ·obtain⟨c,e⟩:=Qf (n:=s.heap.objs.size+1) k
   refine .inr ⟨.inl k,c,e,?_⟩
   have q:=x.cell y c e
   rw[Ws ndP hp hu (by show scope.names.lookup y≠_;rw[k];decide)]at q
   exact q
 ·exact e0.hok.fresh (uv (x.above y c (PySem.mem_of_lookup h)))
 ·unfold start
  show _=N.length
  rw[xC,xo,uD]
  omega
theorem zaB {K:PySem.W.Frag}{k:Nat}{dV kV doc pm cdv ct oc:Value}
   {N ps:List Str}  (lk:K.lookup f=some ⟨oc,od,.func (PySem.W.fnOf name qual params body scope dV kV doc pm an cdv ct),osl⟩) (hcd:PySem.W.codeIn K cdv qual=true) (S:qN N ps scope)
  (len:∀ vs H Q E,sp vs H Q E->vs.length=ps.length)
  (hbody:∀ (A:Around) (outer:List Env) (s:Shared) (H:Hp) (vs:List V) (Q:VK) (E:XK),Room k (A.deeper (envOfC qual scope s.heap.objs.size f cdv))->sp vs H Q E ->
   ∃ t,PSs (Zv CX P w K mg base N qual scope f cdv A outer s H E) body t/\t { nx:=fun _ H'=>Q .non H',rt:=Q } (start N vs) H) :
  FnOk P w K mg base CX (k+1) f (PySem.W.fnOf name qual params body scope dV kV doc pm an cdv ct) ps sp:=by
 refine⟨len,fun A outer s H args us vs Q E hr e0 hb r hsp=>?_⟩
 have hl:=len _ _ _ _ hsp
 have KX:K.In s.heap:=e0.mod.kin.keeps fun b o e=>(e0.bs b o e).1
 have lim:s.heap.NoLimit:=e0.mod.nolimit.keeps fun b o e=>(e0.bs b o e).1
 have hkind:∀ y∈ps.zip us,scope.names.lookup y.1=some .local∨(scope.names.lookup y.1=some .cell/\((cellsFrom (s.heap.objs.size+1) scope.names []).lookup y.1).isSome=true):=fun ⟨n,v⟩ hy=>by
  rcases S.par n (List.of_mem_zip hy).1 with q | q
  ·exact .inl q
  ·exact .inr ⟨q,PySem.W.cellsFrom_some _ _ _ (.inl q)⟩
 refine codeAny_call_function hr.depth (KX _ _ lk) rfl S.co S.gen rfl (PySem.W.codeRec_of KX hcd) (hb _ _ _ _ ?_)
 refine wpAny_newFunctionEnv_cells S.kind hkind fun env he s1 x=>?_
 subst he
 refine⟨lim.keeps x.toInCall.keep,codeAny_func ?_⟩
 obtain⟨t,ht,hq⟩:=hbody A outer s H vs Q E (hr.deeper _) hsp
 have I:Inv (Zv CX P w K mg base N qual scope f cdv A outer s H E) [] (start N vs) H s1:=kL S hr.hd e0 hl r x
 refine wpAny_mono (ht [] s1 (start N vs) H _ I hq) (fun fl s' hs=>?_) fun e s' hs=>hs
 have fin:∀ {σ':St} {H':Hp} {v:V} {u:Value},Inv (Zv CX P w K mg base N qual scope f cdv A outer s H E) [] σ' H' s'->RelV v u->Q v H'->CE outer P w H s Q u s' :=
  fun {σ' H' v u} J rv q=>⟨v,H',J.os,J.bare,J.base,J.hok,rv,q⟩
 cases fl with
 |ret u=>
  obtain⟨v,σ',H',J,rv,q⟩:=hs
  exact fin J rv q
 |next=>
  obtain⟨σ',H',J,q⟩:=hs
  exact fin (v:=V.non) (u:=Value.none) J rfl q
 |brk=>
  obtain⟨_,_,_,q⟩:=hs
  exact False.elim q
 |cont=>
  obtain⟨_,_,_,q⟩:=hs
  exact False.elim q
section
variable {X:Cx}{x:Str}{p pos:Pos}{e:Expr}{es:List Expr}{t:TA}{id T:String}{r:List V->Hp->VK->Prop}
noncomputable def tCB(r:List V->Hp->VK->Prop)(t:TA):TE:=fun σ H Q=>t σ H fun vs H1=>r vs H1 Q
theorem Za (hc:jo X (.builtin id) r) (hg:Gl X x) (hm:X.mg x=none) (hv:bootBuiltins x=some (.builtin id)) (ha:PA X (e::es) t) (hn:x≠ "__name__" :=by decide) (hdb:(x==("__debug__" :Str))=false:=by decide)
    (he:starEach (e::es) X.env=(false,eval e X.env)::starEach es X.env:=by rfl) (hpl:(backTo pos (starEach es X.env)).any (·.1)=false:=by rfl):PE X (.Call (.Name x p) (e::es) [] pos) (tCB r t):=by
  intro pins s σ H Q I h
  refine wpAny_Call_Name_kw (jF I hg hm hv ?_ hn hdb)
  exact PyProof.Rows.callWith_builtin1 (thn (ha pos pins s σ H _ I h) fun us s1 ⟨vs,H1,I1,r1,q1⟩=>hc pins s1 σ H1 vs us Q I1 r1 q1) he hpl
theorem ju (hc:jo X (.type T) r) (hg:Gl X x) (hm:X.mg x=none) (hv:bootBuiltins x=some (.type T)) (ha:PA X (e::es) t) (hn:x≠ "__name__" :=by decide) (hdb:(x==("__debug__" :Str))=false:=by decide)
    (he:starEach (e::es) X.env=(false,eval e X.env)::starEach es X.env:=by rfl) (hpl:(backTo pos (starEach es X.env)).any (·.1)=false:=by rfl):PE X (.Call (.Name x p) (e::es) [] pos) (tCB r t):=by
  intro pins s σ H Q I h
  refine wpAny_Call_Name_kw (jF I hg hm hv ?_ hn hdb)
  exact PyProof.Rows.callWith_type1 (thn (ha pos pins s σ H _ I h) fun us s1 ⟨vs,H1,I1,r1,q1⟩=>hc pins s1 σ H1 vs us Q I1 r1 q1) he hpl
end
end L2
namespace HT
open PySem PyProof.Rows
section
open PySem.SeqAt
open PySem.AutoSeq1 (wpAny_loadPart')
open PySem.MeetsSeq PySem.MeetsSeq2 PySem.MeetsSeq3
end
section
variable {prog:Program}{w:World}{A:Around}{E:Value->Shared->Prop}{s:Shared}
theorem cat_tup {vs ws:List Value}{Q:Value->Shared->Prop}(ht:IsTup s.heap t vs.toArray)(hb:IsTup s.heap b ws.toArray)(hv:vs≠ [])
  (h1:ws= []->Q (.ref t) s) (h2:ws≠ []->Q (.ref s.heap.objs.size) { s with heap:=s.heap.push { cls:=.type "tuple",data:=.seq (vs++ws).toArray } })
  (hsz:vs.length+ws.length<=sizeLine):wpAny (model prog w) A (binaryOp .Add (.ref t) (.ref b)) Q E s:=by
 obtain⟨⟨cls,dd,data,sl⟩,ho,hc,n,hd⟩:=id ht
 obtain⟨⟨cls2,dd2,data2,sl2⟩,ho2,hc2,n2,hd2⟩:=id hb
 simp only at hc hd hc2 hd2
 subst hc hd hc2 hd2
 have e:vs.toArray++ws.toArray=(vs++ws).toArray:=by simp
 by_cases hw:ws= []
 ·exact concat_meets ⟨_,ho,rfl⟩ ⟨_,ho2,rfl⟩ noFill_tuple_add seq_tuple_add PySem.F.slot_tuple_add PySem.F.entry_tuple_add (PySem.F.args_tuple_add_2 _ _)
   (tuple_addW1 t b vs.toArray ws.toArray n n2 dd dd2 sl sl2 (by simpa using hv) (by simp[hw])) ⟨ho,ho2,h1 hw⟩
 ·refine concat_meets ⟨_,ho,rfl⟩ ⟨_,ho2,rfl⟩ noFill_tuple_add seq_tuple_add PySem.F.slot_tuple_add PySem.F.entry_tuple_add (PySem.F.args_tuple_add_2 _ _)
   (tuple_addW2 t b vs.toArray ws.toArray n n2 dd dd2 sl sl2 (by simpa using hv) (by simpa using hw) (by rw[xu,xu];exact hsz)) ⟨ho,ho2,?_⟩
  rw[e]
  exact h2 hw
noncomputable def sIx(n d:Nat):Option Int->Nat
 |none=>d
 |some v=>if v<0 then (v+(n:Int)).toNat else min v.toNat n
end
end HT
namespace L2
open PySem PySem.Spec PyProof.Rows
noncomputable abbrev TO:=St->Hp->(Option Int->Hp->Prop)->Prop
noncomputable def PO(X:Cx)(e:Option Expr)(t:TO):Prop :=
 ∀ (pins:List (Addr×Obj)) (s:Shared) (σ:St) (H:Hp) (Q:Option Int->Hp->Prop),Inv X pins σ H s->t σ H Q ->
  wpAny (model X.prog X.w) X.A (evalPart e X.env) (fun u s'=>∃ o H',Inv X pins σ H' s'/\IsPart u o/\Q o H') X.xe s
noncomputable def zej:TO:=fun _ H Q=>Q none H
noncomputable def zie(t:TE):TO:=fun σ H Q=>t σ H fun x H1=>∃ i,x=.int i/\Q (some i) H1
section
variable {X:Cx}{e:Expr}{te:TE}{lo hi:Option Expr}{tl th:TO}{pos p2:Pos}
theorem vG:PO X none zej:=by
 intro pins s σ H Q I h
 rw[evalPart_none]
 exact wpAny_pure ⟨none,H,I,.none,h⟩
theorem vH(h:PE X e te):PO X (some e) (zie te):=by
 intro pins s σ H Q I hw
 rw[evalPart_some]
 refine thn (h pins s σ H _ I hw) fun u s1 ⟨x,H1,I1,r1,q1⟩=>?_
 obtain⟨i,rfl,q⟩:=q1
 obtain⟨t,rfl⟩:=r1
 exact⟨some i,H1,I1,.int i t,q⟩
noncomputable def SlR(X:Cx)(r:V->Option Int->Option Int->Hp->VK->Prop):Prop :=
 ∀ (pins:List (Addr×Obj)) (s:Shared) (σ:St) (H:Hp) (x:V) (v vl vu:Value) (lo hi:Option Int) (sl:Addr) (Q:VK),Inv X pins σ H s->RelV x v->s.heap.IsSliceOf sl vl vu .none->IsPart vl lo->IsPart vu hi->r x lo hi H Q ->
  ∃ T id,typeLookup (.type T) "__getitem__" =pure (some (.builtin id))/\s.TypeIs v T/\wpAny (model X.prog X.w) X.A (getItem v (.ref sl)) (EP X pins σ Q) X.xe s
noncomputable def tSl(r:V->Option Int->Option Int->Hp->VK->Prop)(te:TE)(tl th:TO):TE:=fun σ H Q=>te σ H fun x H1=>tl σ H1 fun l H2=>th σ H2 fun u H3=>r x l u H3 Q
theorem VJ (hr:SlR X r)(he:PE X e te)(hl:PO X lo tl)(hu:PO X hi th):PE X (.Subscript e (.Slice lo hi none p2) pos) (tSl r te tl th):=by
 intro pins s σ H Q I h
 refine Subscript_ (thn (he pins s σ H _ I h) fun v s1 ⟨x,H1,I1,r1,q1⟩=>?_)
 refine wpAny_Slice (thn (hl pins s1 σ H1 _ I1 q1) fun vl s2 ⟨l,H2,I2,pl,q2⟩=>thn (hu pins s2 σ H2 _ I2 q2) fun vu s3 ⟨u,H3,I3,pu,q3⟩=>?_)
 rw[evalPart_none]
 refine wpAny_pure ?_
 have I4:Inv X pins σ H3 { s3 with heap:=s3.heap.push { cls:=.type "slice",data:=.fields #[vl,vu,.none] } }:=I3.kept (t':=s3.toks) fun b ob q=>Heap.get?_push_of_some _ q
 obtain⟨T,id,hT,ht,hg⟩:=hr pins { s3 with heap:=s3.heap.push { cls:=.type "slice",data:=.fields #[vl,vu,.none] } } σ H3 x v vl vu l u s3.heap.objs.size Q I4 r1 (Heap.IsSliceOf.new ..) pl pu q3
 show wpAny (model X.prog X.w) X.A (subscriptTail e (.Slice lo hi none p2) v (.ref s3.heap.objs.size)) (EP X pins σ Q) X.xe { s3 with heap:=s3.heap.push { cls:=.type "slice",data:=.fields #[vl,vu,.none] } }
 exact tail_any (ops:= [.ref s3.heap.objs.size,v]) ht hT hg (by with_unfolding_all rfl)
noncomputable def wd(xs:List V)(lo hi:Option Int):List V:=(xs.drop (HT.sIx xs.length 0 lo)).take (HT.sIx xs.length xs.length hi-HT.sIx xs.length 0 lo)
theorem Vl(xs:List V)(lo hi:Option Int):(wd xs lo hi).length<=xs.length:=by
 unfold wd
 rw[ud,List.length_drop]
 omega
theorem Vals.nil_iff (r:Vals xs us):us= []↔xs= []:=by
 cases r with
 |nil=>simp
 |cons _ _=>simp
end
noncomputable def ixN(n:Nat)(i:Int):Option Nat:=if 0<=i then (if i<n then some i.toNat else none) else if -(n:Int)<=i then some (i+n).toNat else none
noncomputable def atI{α:Type}(xs:List α)(i:Int):Option α:=(ixN xs.length i).bind fun j=>xs[j]?
theorem YJ{n:Nat}{i:Int}{j:Nat}(h:ixN n i=some j):seqIndex? i n=some j/\j<n/\ -(n:Int)<=i/\i<n:=by
 unfold ixN at h
 by_cases h0:0<=i
 ·rw[if_pos h0]at h
  by_cases h1:i<n
  ·rw[if_pos h1]at h
   have e:i.toNat=j:=Option.some.inj h
   exact⟨by rw[seqIndex_of h0 h1,e],by omega,by omega,h1⟩
  ·rw[if_neg h1]at h;cases h
 ·rw[if_neg h0]at h
  by_cases h1: -(n:Int)<=i
  ·rw[if_pos h1]at h
   have e:(i+n).toNat=j:=Option.some.inj h
   exact⟨by rw[seqIndex_neg (by omega) h1,e],by omega,h1,by omega⟩
  ·rw[if_neg h1]at h;cases h
theorem Yp{α:Type}{xs:List α}{i:Int}{v:α}(h:atI xs i=some v):∃ j,seqIndex? i xs.length=some j/\xs[j]?=some v/\j<xs.length/\ -(xs.length:Int)<=i/\i<xs.length:=by
 unfold atI at h
 cases e:ixN xs.length i with
 |none=>rw[e]at h;cases h
 |some j=>
  rw[e]at h
  obtain⟨h1,h2,h3,h4⟩:=YJ e
  exact⟨j,h1,h,h2,h3,h4⟩
theorem jd{α:Type}{xs:List α}{j:Nat}{v:α}(h:xs[j]?=some v):atI xs (j:Int)=some v:=by
 have hj:j<xs.length:=(xb.mp h).1
 have e:ixN xs.length (j:Int)=some j:=by
  unfold ixN
  rw[if_pos (by omega),if_pos (by omega)];simp
 unfold atI;rw[e];exact h
noncomputable def W5(b:Expr):Prop:=∀ o i,subscripted b false o i=operate [o,i] (getItem o i)
noncomputable def IxR(X:Cx)(r:R2):Prop :=
 ∀ (value slice:Expr) (pins:List (Addr×Obj)) (s:Shared) (σ:St) (H:Hp) (x y:V) (v u:Value) (Q:VK),Inv X pins σ H s->RelV x v->RelV y u->r x y H Q ->
  subscripted slice false v u=operate [v,u] (getItem v u)->wpAny (model X.prog X.w) X.A (subscriptTail value slice v u) (EP X pins σ Q) X.xe s
noncomputable def MtR(X:Cx)(id:String)(r:V->List V->Hp->VK->Prop):Prop :=
 ∀ (pins:List (Addr×Obj)) (s:Shared) (σ:St) (H:Hp) (x:V) (xs:List V) (v:Value) (us:List Value) (Q:VK),Inv X pins σ H s->RelV x v->Vals xs us->r x xs H Q ->
  wpAny (model X.prog X.w) X.A (call (.builtin id) (v::us)) (EP X pins σ Q) X.xe s
section
variable {X:Cx}{a b:Expr}{ta tb:TE}{pos:Pos}
theorem IxR.or (h:IxR X r)(h':IxR X r'):IxR X (fun x y H Q=>r x y H Q∨r' x y H Q):=by
 intro value slice pins s σ H x y v u Q I rx ry q hs
 rcases q with q | q
 ·exact h value slice pins s σ H x y v u Q I rx ry q hs
 ·exact h' value slice pins s σ H x y v u Q I rx ry q hs
theorem zhS (hr:IxR X r)(ha:PE X a ta)(hb:PE X b tb)(hs:W5 b):PE X (.Subscript a b pos) (tOp r ta tb):=by
 intro pins s σ H Q I h
 exact Subscript_ (ze9 ha hb I h fun v u s2 x y H2 I2 rx ry q=>hr a b pins s2 σ H2 x y v u Q I2 rx ry q (hs _ _))
noncomputable def rIxL(K:PySem.W.Frag):R2:=fun x y H Q=>∃ p xs i v,x=.ref p/\y=.int i/\SqL K H p xs/\atI xs i=some v/\Q v H
noncomputable def rIxT(K:PySem.W.Frag):R2:=fun x y H Q=>∃ p xs i v,x=.ref p/\y=.int i/\SqT K H p xs/\atI xs i=some v/\Q v H
theorem ix_list:IxR X (rIxL X.K):=by
 intro value slice pins s σ H x y v u Q I rx ry h hs
 obtain⟨p,xs,i,z,rfl,rfl,hq,he,q⟩:=h
 cases rx
 obtain⟨t,rfl⟩:=ry
 obtain⟨its,r,pl,hz⟩:=I.list hq
 obtain⟨j,h1,h2,h3,h4,h5⟩:=Yp he
 obtain⟨w,ew,rw'⟩:=r.get h2
 have hl:=r.length
 have hn:=wD
 have fin:EP X pins σ Q w s:=⟨z,H,I,rw',q⟩
 by_cases h0:0<=i
 ·have hj:i.toNat=j:=by
   rw[seqIndex_of h0 h5]at h1
   exact Option.some.inj h1
  exact item_listR pl.isList h0 (by omega) (by rw[hj];simpa using ew) fin hs
 ·have hj:(i+(its.toArray.size:Int)).toNat=j:=by
   rw[seqIndex_neg (by omega) h4]at h1
   rw[xu,<- hl]
   exact Option.some.inj h1
  exact subscriptTail_builtinR (x:=w) pl.isList.typeIs slot_list_getitem.lookup
   (wpAny_getItem_list_neg (Q:=fun r s'=>r=w/\EP X pins σ Q r s') pl.isList (by omega) (by rw[xu]<;>omega) (by omega) (by rw[hj];simpa using ew) ⟨rfl,fin⟩) hs
theorem zfN:IxR X (rIxT X.K):=by
 intro value slice pins s σ H x y v u Q I rx ry h hs
 obtain⟨p,xs,i,z,rfl,rfl,hq,he,q⟩:=h
 cases rx
 obtain⟨t,rfl⟩:=ry
 obtain⟨its,r,pl,hz⟩:=I.tuple hq
 obtain⟨j,h1,h2,h3,h4,h5⟩:=Yp he
 obtain⟨w,ew,rw'⟩:=r.get h2
 have hl:=r.length
 have hn:=wD
 have fin:EP X pins σ Q w s:=⟨z,H,I,rw',q⟩
 exact subscriptTail_builtinR (x:=w) pl.typeIs slot_tuple_getitem.lookup
  (getItem_tuple (j:=j) (Q:=fun r s'=>r=w/\EP X pins σ Q r s') pl (by omega) (by omega) (by rw[xu,<- hl];exact h1) (by simpa using ew) ⟨rfl,fin⟩) hs
theorem yI (its:List Value) (n j:Nat) (u:Value):Obj.mapSeq (·.setIfInBounds j u) { cls:=.type "list",data:=.seq its.toArray n }={ cls:=.type "list",data:=.seq (its.set j u).toArray n }:=by
 simp[Obj.mapSeq]
theorem Inv.lst{pins:List (Addr×Obj)}{σ:St}{H:Hp}{s:Shared}{p:Addr}{xs:List V}(I:Inv X pins σ H s)(h:H p=some (.lst xs)) :
  ∃ (its:List Value) (n:Nat),Vals xs its/\s.heap.get? p=some { cls:=.type "list",data:=.seq its.toArray n }/\xs.length<=sizeLine:=by
 obtain⟨z,its,n,r,e⟩:=I.hok p _ h
 exact⟨its,n,r,e,z⟩
theorem Inv.lstUpd {s:Shared}{xs ys:List V}{its its':List Value}(I:Inv X pins σ H s)(h:H p=some (.lst xs))
  (ho:s.heap.get? p=some { cls:=.type "list",data:=.seq its.toArray n }) (hf:f { cls:=.type "list",data:=.seq its.toArray n }={ cls:=.type "list",data:=.seq its'.toArray n' }) (r:Vals ys its') (hz:ys.length<=sizeLine) (t:Nat) :
  Inv X pins σ (upd H p (.lst ys)) { s with heap:=s.heap.update p f,toks:=t }:=by
 have e:(s.heap.update p f).get? p=some { cls:=.type "list",data:=.seq its'.toArray n' }:=by
  rw[Heap.get?_update_self f ho (by rw[hf]<;>rfl),hf]
 refine I.write (x:=p) (e:=p) (by rw[h];trivial) (.inl rfl) (fun b u hb q=>(Heap.get?_update_other _ _ (Ne.symm hb)).trans q) ⟨_,e⟩ ?_
 exact⟨hz,its',n',r,e⟩
noncomputable def zhY:V->V->V->Hp->(Hp->Prop)->Prop:=fun o i v H Q=>∃ p xs k j,o=.ref p/\i=.int k/\H p=some (.lst xs)/\ixN xs.length k=some j/\Q (upd H p (.lst (xs.set j v)))
theorem zbP:ze4 X zhY:=by
 intro pins s σ H o i v ov iv u Q I ro ri rv h
 obtain⟨p,xs,k,j,rfl,rfl,hp,hj,q⟩:=h
 cases ro
 obtain⟨t,rfl⟩:=ri
 obtain⟨its,n,r,ho,hz⟩:=I.lst hp
 obtain⟨h1,h2,h3,h4⟩:=YJ hj
 have hl:=r.length
 have hn:=wD
 have I':Inv X pins σ (upd H p (.lst (xs.set j v))) { s with heap:=s.heap.update p (Obj.mapSeq (·.setIfInBounds j u)) } :=
  I.lstUpd hp ho (yI its n j u) (r.set rv j) (by rw[uh];exact hz) s.toks
 by_cases h0:0<=k
 ·have hk:k.toNat=j:=by
   rw[seqIndex_of h0 h4]at h1
   exact Option.some.inj h1
  exact PySem.W.ki_setAt ho h0 (by omega) (by rw[xu,<- hl];exact h4) (by rw[hk];exact⟨_,I',q⟩)
 ·have hk:(k+(its.toArray.size:Int)).toNat=j:=by
   rw[seqIndex_neg (by omega) h3]at h1
   rw[xu,<- hl]
   exact Option.some.inj h1
  exact PySem.W.ki_setBack ho (by omega) (by rw[xu,<- hl];exact h3) (by omega) (by rw[hk];exact⟨_,I',q⟩)
theorem vN(lo hi:Option Int)(n:Nat):(sliceBounds lo hi none n).1=((HT.sIx n 0 lo:Nat):Int)/\(sliceBounds lo hi none n).2.1=((HT.sIx n n hi:Nat):Int)/\(sliceBounds lo hi none n).2.2=1:=by
 refine⟨?_,?_,rfl⟩
 ·cases lo with
  |none=>simp[sliceBounds,HT.sIx]
  |some i=>
   simp only[sliceBounds,HT.sIx,Option.getD_none,show (1:Int)>0 by decide,if_true]
   by_cases h:i<0
   ·simp only[h,if_true]<;>omega
   ·simp only[h,if_false]<;>omega
 ·cases hi with
  |none=>simp[sliceBounds,HT.sIx]
  |some i=>
   simp only[sliceBounds,HT.sIx,Option.getD_none,show (1:Int)>0 by decide,if_true]
   by_cases h:i<0
   ·simp only[h,if_true]<;>omega
   ·simp only[h,if_false]<;>omega
theorem Wi(its:List Value)(lo hi:Option Int):slicePick its.toArray lo hi none=((its.drop (HT.sIx its.length 0 lo)).take (HT.sIx its.length its.length hi-HT.sIx its.length 0 lo)).toArray:=by
 obtain⟨h1,h2,h3⟩:=vN lo hi its.toArray.size
 unfold slicePick
 rw[h1,h2,h3]
 simp only[sliceRange_one,pick_run,xu]<;>rfl
noncomputable def rSlL(K:PySem.W.Frag):V->Option Int->Option Int->Hp->VK->Prop:=fun x lo hi H Q=>∃ a xs,x=.ref a/\SqL K H a xs/\∀ p,H p=none->Q (.ref p) (upd H p (.lst (wd xs lo hi)))
theorem YV:SlR X (rSlL X.K):=by
 intro pins s σ H x v vl vu lo hi sl Q I rx hs pl pu h
 obtain⟨a,xs,rfl,hx,q⟩:=h
 cases rx
 obtain⟨its,r,ht,hz⟩:=I.list hx
 have hlen:=r.length
 refine⟨"list",_,slot_list_getitem.lookup,ht.isList.typeIs,?_⟩
 refine wpAny_getItem_list_slice ht.isList hs pl pu .none (by simp) ?_ (by rw[xu]<;>omega)
 rw[Wi,<- hlen]
 refine⟨.ref s.heap.objs.size,_,I.laid (t':=s.toks) (o:=.lst (wd xs lo hi)) (fun b ob q=>Heap.get?_push_of_some _ q) (xh _) ?_,rfl,q _ (I.hok.fresh (xh _))⟩
 exact⟨xH (Vl xs lo hi) hz,_,0,(r.drop (HT.sIx xs.length 0 lo)).take (HT.sIx xs.length xs.length hi-HT.sIx xs.length 0 lo),Heap.get?_push_size _ rfl⟩
theorem Qe:jo X (.builtin "len") (fun xs H Q=>∃ p ys,xs= [.ref p]/\(SqL X.K H p ys∨SqT X.K H p ys)/\Q (.int ys.length) H):=by
 intro pins s σ H xs us Q I r h
 obtain⟨p,ys,rfl,hq,q⟩:=h
 obtain⟨u,rfl,rx⟩:=ZE r
 cases rx
 have hn:=wD
 rcases hq with hq | hq
 ·obtain⟨its,r',pl,hz⟩:=I.list hq
  have hlen:=r'.length
  exact Calls.call_len_list pl.isList (by simp only[xu]<;>omega) ⟨.int ys.length,H,I.tok _,⟨s.toks+1,by rw[xu,hlen]⟩,q⟩
 ·obtain⟨its,r',pl,hz⟩:=I.tuple hq
  have hlen:=r'.length
  exact len_tuple pl (by simp only[xu]<;>omega) ⟨.int ys.length,H,I.tok _,⟨s.toks+1,by rw[xu,hlen]⟩,q⟩
theorem jA:jo X (.type "list") (fun xs H Q=>∃ p ys,xs= [.ref p]/\(SqL X.K H p ys∨SqT X.K H p ys)/\∀ l,H l=none->Q (.ref l) (upd H l (.lst ys))):=by
 intro pins s σ H xs us Q I r h
 obtain⟨p,ys,rfl,hq,q⟩:=h
 obtain⟨u,rfl,rx⟩:=ZE r
 cases rx
 have fin:∀ (its:List Value),Vals ys its->ys.length<=sizeLine->∀ (h':Heap) (c':Nat),(∀ b o',s.heap.get? b=some o'->h'.get? b=some o') ->
   h'.get? s.heap.objs.size=some { cls:=.type "list",dict:=none,data:=.seq its.toArray c',slots:=#[] }->EP X pins σ Q (.ref s.heap.objs.size) { s with heap:=h' }:=fun its r' hz h' c' kp e=>
  ⟨.ref s.heap.objs.size,_,I.laid (t':=s.toks) kp (xh _) (show ObjOk X.prog X.w _ h' _ (.lst ys) from ⟨hz,its,c',r',e⟩),rfl,q _ (I.hok.fresh (xh _))⟩
 rcases hq with hq | hq
 ·obtain⟨its,r',pl,hz⟩:=I.list hq
  have hlen:=r'.length
  obtain⟨o,ho,hc,n,hd⟩:=pl.isList
  exact call_list_seq p (.inl rfl) ho hc hd (fun h' c' kp e=>fin its r' hz h' c' kp e) (by simp only[xu]<;>omega)
 ·obtain⟨its,r',pl,hz⟩:=I.tuple hq
  have hlen:=r'.length
  obtain⟨o,ho,hc,n,hd⟩:=pl
  exact call_list_seq p (.inr rfl) ho hc hd (fun h' c' kp e=>fin its r' hz h' c' kp e) (by simp only[xu]<;>omega)
theorem Wb:jo X (.type "tuple") (fun xs H Q=>∃ p ys,xs= [.ref p]/\((SqL X.K H p ys/\∀ l,H l=none->Q (.ref l) (upd H l (.tup ys)))∨(SqT X.K H p ys/\Q (.ref p) H))):=by
 intro pins s σ H xs us Q I r h
 obtain⟨p,ys,rfl,h⟩:=h
 obtain⟨u,rfl,rx⟩:=ZE r
 cases rx
 rcases h with ⟨hq,q⟩ | ⟨hq,q⟩
 ·obtain⟨its,r',pl,hz⟩:=I.list hq
  have hlen:=r'.length
  refine call_tuple_list pl.isList (fun h' kp=>?_) (by simp only[xu]<;>omega)
  have I1:Inv X pins σ H { s with heap:=h' }:=I.kept (t':=s.toks) kp
  have I2:Inv X pins σ (upd H h'.objs.size (.tup ys)) { s with heap:=h'.push { cls:=.type "tuple",data:=.seq its.toArray } } :=
   I1.laid (t':=s.toks) (fun b o e=>Heap.get?_push_of_some _ e) (xh _) (show ObjOk X.prog X.w _ _ _ (.tup ys) from ⟨hz,its,r',IsTup.new _ _⟩)
  exact⟨.ref h'.objs.size,_,I2,rfl,q _ (I1.hok.fresh (xh _))⟩
 ·obtain⟨its,r',pl,hz⟩:=I.tuple hq
  exact call_tuple_same pl ⟨.ref p,H,I,rfl,q⟩
noncomputable def tyV(K:PySem.W.Frag)(T:String)(x:V)(H:Hp):Prop:=match x with
 |.str _=>T= "str"
 |.int _=>T= "int"
 |.ref p=>(T= "list" /\∃ xs,SqL K H p xs)∨(T= "tuple" /\∃ o,K.lookup p=some o/\o.cls=.type "tuple" /\o.dict=none) ∨
   (T= "dict" /\((∃ kvs,H p=some (.dK kvs))∨∃ kvs,H p=some (.dT kvs)))∨(T= "set" /\∃ S n,H p=some (.set S n))
 |_=>False
theorem zgW {s:Shared}(I:Inv X pins σ H s)(r:RelV x v)(ty:tyV X.K T x H) :
  s.TypeIs v T/\∀ a,v=.ref a->∃ ob,s.heap.get? a=some ob/\ob.dict=none:=by
 cases x with
 |str z=>
  obtain⟨t,rfl⟩:=r
  cases (show T= "str" from ty)
  exact⟨typeIs_str s z t,fun _ e=>nomatch e⟩
 |int i=>
  obtain⟨t,rfl⟩:=r
  cases (show T= "int" from ty)
  exact⟨typeIs_int s i t,fun _ e=>nomatch e⟩
 |ref p=>
  cases r
  rcases ty with ⟨rfl,xs,hq⟩ | ⟨rfl,o,hk,hc,hd⟩ | ⟨rfl,hk⟩ | ⟨rfl,S,n,hk⟩
  ·obtain⟨its,_,pl,_⟩:=I.list hq
   refine⟨pl.isList.typeIs,fun a e=>?_⟩
   cases e
   obtain⟨o,n,e,c,hd,_⟩:=pl
   exact⟨o,e,hd⟩
  ·refine⟨⟨o,I.kIn p o hk,hc⟩,fun a e=>?_⟩
   cases e
   exact⟨o,I.kIn _ o hk,hd⟩
  ·have z:∃ o,s.heap.get? p=some o/\o.ExactDict:=by
    rcases hk with ⟨kvs,hk⟩ | ⟨kvs,hk⟩
    ·obtain⟨_,_,_,_,o,_,_,e,ex,_⟩:=I.hok p _ hk
     exact⟨o,e,ex⟩
    ·obtain⟨_,_,_,_,o,_,_,e,ex,_⟩:=I.hok p _ hk
     exact⟨o,e,ex⟩
   obtain⟨o,e,ex⟩:=z
   refine⟨⟨o,e,ex.1⟩,fun a e2=>?_⟩
   cases e2
   exact⟨o,e,ex.2.1⟩
  ·obtain⟨o,_,_,_,e,ex,_⟩:=I.hok p _ hk
   refine⟨⟨o,e,ex.1⟩,fun a e2=>?_⟩
   cases e2
   exact⟨o,e,ex.2.1⟩
 |_=>exact False.elim ty
noncomputable def tBM(K:PySem.W.Frag)(T:String)(r:V->List V->Hp->VK->Prop)(to:TE)(t:TA):TE:=fun σ H Q=>to σ H fun x H1=>tyV K T x H1/\t σ H1 fun xs H2=>r x xs H2 Q
variable {o e:Expr}{es:List Expr}{to:TE}{t:TA}{name:Str}{apos cpos:Pos}{T id:String}{r:V->List V->Hp->VK->Prop}
theorem zhQ (pa:PlainAttrs T) (slot:Slot T name id) (hty:typeOf (.builtin id)=pure (.type "method_descriptor")) (hm:MtR X id r) (ho:PE X o to) (ha:PA X (e::es) t)
  (hbase:attributeBase o name X.env (eval o X.env)=eval o X.env:=by rfl)
  (hfew:((backTo cpos (starEach (e::es) X.env)).all (fun x=> !x.1)&&(backToKw cpos (keywordEach [] X.env)).all (fun x=>x.1.isSome)
   && decide ((e::es).length+([]:List Keyword).length+(if ([]:List Keyword).isEmpty then 0 else 1)<30))=true:=by rfl)
  (hline:(apos.endLine==cpos.line)=true:=by rfl) (hs:starEach (e::es) X.env=(false,eval e X.env)::starEach es X.env:=by rfl) (hplain:(backTo cpos (starEach es X.env)).any (·.1)=false:=by rfl) :
  PE X (.Call (.Attribute o name apos) (e::es) [] cpos) (tBM X.K T r to t):=by
 intro pins s σ H Q I h
 refine wpAny_Call_method_late hbase hfew hline rfl (thn (ho pins s σ H _ I h) fun v s1 ⟨x,H1,I1,r1,ty,q1⟩=>?_)
 obtain⟨h1,h2⟩:=zgW I1 r1 ty
 refine⟨T,id,pa,slot,hty,h1,h2,?_⟩
 have hA:=ha cpos pins s1 σ H1 _ I1 q1
 rw[hs]at hA |-
 refine Calls.callWith_builtin (by show (false||(backTo cpos (starEach es X.env)).any (·.1))=false;rw[hplain]<;>rfl) (Calls.evalArgs_plain ?_)
 exact thn hA fun us s2 ⟨vs,H2,I2,r2,q2⟩=>hm pins s2 σ H2 x vs v us Q I2 r1 r2 q2
end
noncomputable def MtM(X:Cx)(id:String)(r:V->List V->Hp->VK->Prop):Prop :=
 ∀ (pins:List (Addr×Obj)) (s:Shared) (σ:St) (H:Hp) (x:V) (xs:List V) (v:Value) (us:List Value) (Q:VK),Inv X pins σ H s->RelV x v->Vals xs us->r x xs H Q ->
  wpAny (model X.prog X.w) X.A (call (.builtin id) (v::us)) (EP X pins σ Q) X.xe s
theorem Vals.one:∀ {x:V}{us:List Value},Vals [x] us->∃ u,us= [u]/\RelV x u
 |_,_,.cons r .nil=>⟨_,rfl,r⟩
theorem Vals.rep (h:Vals xs us):∀ k:Nat,Vals (List.replicate k xs).flatten (List.replicate k us).flatten
 |0=>.nil
 |k+1=>by
  rw[um,um,xY,xY]
  exact Vals.append h (Vals.rep h k)
theorem WG(its:List Value):∀ (k:Nat) (acc:List Value),
  List.foldl (fun x1 x2=>x1++x2) acc.toArray (List.replicate k its.toArray)=(acc++(List.replicate k its).flatten).toArray
 |0,acc=>by simp
 |k+1,acc=>by
  have e:acc.toArray++its.toArray=(acc++its).toArray:=by simp
  have e2:(acc++its)++(List.replicate k its).flatten=acc++(List.replicate (k+1) its).flatten:=by
   rw[um,xY,xR]
  rw[<- e2,<- WG its k (acc++its),<- e,um,uC]
section
variable {X:Cx}{pins:List (Addr×Obj)}{σ:St}{H:Hp}{s:Shared}{l:Addr}{xs ys:List V}
theorem Inv.lset{its its':List Value}{t':Nat}(I:Inv X pins σ H s)(hH:H l=some (.lst xs))
  (e:s.heap.get? l=some { cls:=.type "list",data:=.seq its.toArray n }) (hf:f its.toArray=its'.toArray) (hv:Vals ys its') (hz:ys.length<=sizeLine) :
  Inv X pins σ (upd H l (.lst ys)) { s with heap:=s.heap.update l (Obj.mapSeq f),toks:=t' }:=by
 have q:=PySem.IsL.update e f
 rw[hf]at q
 refine I.write (x:=l) (e:=l) (by rw[hH];exact trivial) (.inl rfl) (fun b' u hb hu=>(Heap.get?_update_other s.heap (Obj.mapSeq f) (Ne.symm hb)).trans hu) ⟨_,q⟩ ?_
 exact⟨hz,its',_,hv,q⟩
theorem Inv.lnew{its:List Value}{t':Nat}(I:Inv X pins σ H s)(hv:Vals ys its)(hz:ys.length<=sizeLine) :
  Inv X pins σ (upd H s.heap.objs.size (.lst ys)) { s with heap:=s.heap.push { cls:=.type "list",data:=.seq its.toArray },toks:=t' } :=
 I.laid (fun _ _ q=>Heap.get?_push_of_some _ q) (xh _) ⟨hz,its,0,hv,Heap.get?_push_size _ rfl⟩
theorem Inv.fresh(I:Inv X pins σ H s):H s.heap.objs.size=none:=I.hok.fresh (xh _)
theorem Inv.lstM (I:Inv X pins σ H s) (hH:H l=some (.lst xs)):xs.length<=sizeLine/\∃ (its:List Value) (n:Nat),Vals xs its/\xs.length=its.length/\s.heap.get? l=some { cls:=.type "list",data:=.seq its.toArray n }:=by
 obtain⟨z,its,n,r,e⟩:=I.hok l _ hH
 exact⟨z,its,n,r,r.length,e⟩
theorem zbd{n:Nat}(h:n<=sizeLine):Builtin.List.listTooLong n=false:=by
 unfold Builtin.List.listTooLong
 exact decide_eq_false (by omega)
end
section
variable {X:Cx}
noncomputable def zdH:V->List V->Hp->VK->Prop:=fun x vs H Q=>∃ l xs y,x=.ref l/\vs= [y]/\H l=some (.lst xs)/\xs.length<sizeLine/\Q .non (upd H l (.lst (xs++ [y])))
theorem kT:MtM X "list.append" zdH:=by
 intro pins s σ H x vs v us Q I rx rv h
 obtain⟨l,xs,y,rfl,rfl,hH,hz,q⟩:=h
 cases rx
 obtain⟨u,rfl,ru⟩:=rv.one
 obtain⟨z,its,n,r,hl,e⟩:=I.lstM hH
 refine call_meets F.slot_list_append ⟨_,e,rfl⟩ F.entry_list_append (F.args_list_append_2 _ _) (PySem.list_append l its.toArray n u (by rw[xu];omega)) ⟨e,?_⟩
 refine⟨.non,_,I.lset (its':=its++ [u]) hH e (by simp) (r.append (.cons ru .nil)) ?_,rfl,q⟩
 rw[xC,List.length_singleton]
 omega
noncomputable def rCat:R2:=fun x y H Q=>∃ l b xs zs,x=.ref l/\y=.ref b/\H l=some (.lst xs)/\H b=some (.lst zs)/\xs.length+zs.length<=sizeLine/\∀ p,H p=none->Q (.ref p) (upd H p (.lst (xs++zs)))
theorem zf1:OpR X (binaryOp .Add) rCat:=by
 intro pins s σ H x y v u Q I rx ry h
 obtain⟨l,b,xs,zs,rfl,rfl,hH,hB,hz,q⟩:=h
 cases rx
 cases ry
 obtain⟨z,its,n,r,hl,e⟩:=I.lstM hH
 obtain⟨z2,its2,n2,r2,hl2,e2⟩:=I.lstM hB
 refine PySem.P.add_list e e2 ?_ (by rw[xu,xu];omega)
 have ea:its.toArray++its2.toArray=(its++its2).toArray:=by simp
 rw[ea]
 exact⟨.ref _,_,I.lnew (t':=s.toks) (r.append r2) (by rw[xC];omega),rfl,q _ I.fresh⟩
theorem YM{α:Type}(xs:List α)(k:Nat):(List.replicate k xs).flatten.length=k*xs.length:=by
 induction k with
 |zero=>simp
 |succ k ih=>rw[um,xY,xC,ih,Nat.succ_mul,Nat.add_comm]
end
section
end
section
end
end L2
namespace Att
open PySem PySem.W PySem.Calls PyProof.Rows
theorem Jq :∀ (ns:List Int) (vs:List Value),WellAll P h vs (ns.map WData.int)->IntsAre vs ns:=by
 intro ns
 induction ns with
 |nil=>
  intro vs w
  rw[List.map_nil]at w
  cases w
  exact .nil
 |cons n ns ih=>
  intro vs w
  rw[xB]at w
  cases w with
  |cons a b=>
   cases a
   exact .cons _ _ (ih _ b)
theorem Kj{l:OpenLaw}{n:Nat}(hn:l.most=some n){h:Heap}
  (hpre:l.row.toRowW.claim.pre args=true) (hwl:WellAll P h vals args) :
  ∃ a vs ns,vals= [Value.ref a]/\args= [WData.list (ns.map WData.int)]/\h.get? a=some { cls:=.type "list",data:=.seq vs.toArray }/\IntsAre vs ns/\ns.length<=n:=by
 have hsh:WShape.hasAll [] args [.list .int]=true:=(pre_splitW hpre).1
 have hc:l.pre.holds [] { args:=args }=true:=(pre_splitW hpre).2
 obtain⟨d,r,rfl,h1,h2⟩:=hasAllW_cons hsh
 obtain rfl:=hasAllW_nil h2
 obtain⟨xs,rfl,h3⟩:=hasW_list h1
 obtain⟨ns,rfl⟩:=items_int h3
 have hlen:ns.length<=n:=by
  unfold OpenLaw.pre at hc
  have h4:(WTm.not (.lt (.lit (.int (n:Int))) (.len (.arg 0)))).holds [] { args:= [.list (ns.map .int)] }=true:=by
   have h4:=(holds_andW hc).1
   rw[hn]at h4
   exact h4
  have h5:=condW_of h4 (w_not (w_lt w_lit (w_len_list (w_arg rfl))))
  rw[xo]at h5
  refine Nat.le_of_not_lt fun q=>?_
  have q':(n:Int)<((ns.length:Nat):Int):=by omega
  first
   | (rw[decide_eq_true q']at h5;exact absurd h5 (by decide))
   | (simp at h5;omega)
 cases hwl with
 |cons w1 w2=>
  cases w2
  cases w1 with
  |list ho hall=>exact⟨_,_,ns,rfl,rfl,ho,Jq ns _ hall,hlen⟩
theorem Kc(l:OpenLaw)(args:List WData):l.row.toRowW.claim.post args (.bool true) args=true :=
 postW_of (r:=l.row.toRowW) (X:=(true==true))
  (show WShape.has [] (.bool true) .bool=true by first | rfl | decide | simp[WShape.has,WShape.arms,WShape.armsAll])
  (show (WTm.eq .res (.lit (.bool true))).value [] { args:=args,res:=some (.bool true),after:=args }=some (.bool (true==true)) from w_eq_bool (w_res rfl) w_lit) rfl
theorem attach_call{l:OpenLaw}{n:Nat}{d:DefRec}
  (hn:l.most=some n) (hdf:d.params.defaults= [])
  (call:∀ (w:World) (s₀ s₁:Shared) (mg mb:Str->Option Value) (fa:Addr) (o:Obj) (pm cd doc:Value) (a:Addr) (vs:List Value) (ns:List Int),
   Ground q loose [] XP w s₀ mg mb s₁.heap->YP w s₁.heap ->
   s₁.heap.get? fa=some o->o.data=.func (docDef d.name d.params d.body d.scope pm cd doc)->s₁.heap.CodeRec cd d.name->mg d.name=some (.ref fa) ->
   s₁.heap.get? a=some { cls:=.type "list",data:=.seq vs.toArray }->IntsAre vs ns->ns.length<=n->s₁.gens=#[] ->
   codeAny (model l.prog w) callerA (.call (.ref fa) ⟨[.ref a],[]⟩) (fun r s'=>r=.ok (.ret (.bool true))/\OldK s₁.heap s'.heap/\s'.os=s₁.os/\AllBare s'.gens) s₁) :
  WalkO q loose XP YP l.row.toRowW d [] (fun f vs=>PySem.call f vs):=by
 intro w s₀ s₁ mg mb G Y fa o pm cd doc dV kV ho hd hcd hD hmg hg args vals as hpre hlay hrd hwl hlo
 obtain rfl:dV=.none:=Dflts.none hD hdf
 obtain rfl:kV=.none:=Dflts.noKw hD
 obtain⟨a,vs,ns,rfl,rfl,hobj,hints,hlen⟩:=Kj hn hpre hwl
 refine enter_call (codeAny_mono (call w s₀ s₁ mg mb fa o pm cd doc a vs ns G Y ho (fd_plain hd) hcd hmg hobj hints hlen hg) fun r s' hq=>?_)
 obtain⟨rfl,h2,h3,h4⟩:=hq
 exact⟨.inl ⟨.bool true,.bool true,[],rfl,fun _=>rfl,.bool true,Kc l _,fun _=>⟨List.Pairwise.nil,fun _ hm=>(nomatch hm)⟩⟩,h2,h3,h4⟩
section
end
end Att
namespace L2
open PySem PySem.Spec PyProof.Rows
theorem jw:∀ {vs:List Value}{ns:List Int},IntsAre vs ns->Vals (ns.map V.int) vs
 |_,_,.nil=>.nil
 |_,_,.cons n t h=>.cons ⟨t,rfl⟩ (jw h)
noncomputable def ze3(H:Hp):Prop:=∀ b,H b=none∨∃ o xs,H b=some (.frz o (.lst xs))
theorem zaU {K:PySem.W.Frag}{s₁:Shared}{vs:List Value}{ns:List Int}
  (KX:K.In s₁.heap) (hns:s₁.heap.Ns mainGlobals mg) (hb:s₁.heap.Ns builtinsNs mb) (hbb:∀ x:Str,x≠ "__name__" ->mb x=bootBuiltins x) (hlim:s₁.heap.NoLimit) (hg:s₁.gens=#[])
  (ha:s₁.heap.get? a=some { cls:=.type "list",data:=.seq vs.toArray }) (hi:IntsAre vs ns) (hl:ns.length<=sizeLine) (hr:Room k callerA)
  (F:∀ base:Heap,K.In base->base.Ns mainGlobals mg->FnOk P w K mg base CX k fa fd [x] sp) (hbind:∀ (s:Shared) (u:Value),BindsTo s fd ⟨[u],[]⟩ [(x,u)])
  (hsp:∀ H:Hp,ze3 H->SqL K H a (ns.map V.int)->sp [.ref a] H (fun v _=>v=.bl true) fun _ _ _=>False)
  (hCX:∀ H e s',CX [] H s₁ (fun _ _ _=>False) e s'->False) :
  codeAny (model P w) callerA (.call (.ref fa) ⟨[.ref a],[]⟩) (fun r s'=>r=.ok (.ret (.bool true))/\OldK s₁.heap s'.heap/\s'.os=s₁.os/\AllBare s'.gens) s₁:=by
 have rv:=jw hi
 have lenV:=hi.length
 -- from an abstract heap in which nothing but the script may be tracked
 have core:∀ H:Hp,ze3 H->SqL K H a (ns.map V.int)->HOk P w H s₁.heap->(∀ b,H b≠none->b=a)->(H a≠none->K.lookup a=none) ->
   codeAny (model P w) callerA (.call (.ref fa) ⟨[.ref a],[]⟩) (fun r s'=>r=.ok (.ret (.bool true))/\OldK s₁.heap s'.heap/\s'.os=s₁.os/\AllBare s'.gens) s₁:=by
  intro H hO hS hok hA hK
  have W8:∀ {b:Addr} {o:Obj},s₁.heap.get? b=some o->H b=none->(vm s₁.heap H).get? b=some o:=fun e n=>zaJ e n
  have noA:∀ {b:Addr} {o:Obj} {es:Array DictEntry} {ep:Nat},s₁.heap.get? b=some o->o.data=.dict es ep->H b=none:=fun {b o es ep} e d=>by
   cases q:H b with
   |none=>rfl
   |some u=>
    have e':b=a:=hA b (by rw[q];simp)
    subst e'
    rw[ha]at e;cases e
    have d':Data.seq vs.toArray _=Data.dict es ep:=d
    cases d'
  have nsK:∀ {b:Addr} {m:Str->Option Value},s₁.heap.Ns b m->(vm s₁.heap H).Ns b m:=fun {b m} ⟨o,es,ep,e,d,r⟩=>⟨o,es,ep,W8 e (noA e d),d,r⟩
  have hKb:K.In (vm s₁.heap H):=fun b o e=>W8 (KX b o e) (by
   cases q:H b with
   |none=>rfl
   |some u=>
    have e':b=a:=hA b (by rw[q];simp)
    subst e'
    rw[hK (by rw[q];simp)]at e;cases e)
  have hM:Mod K mg (vm s₁.heap H):=⟨hKb,nsK hns,⟨mb,nsK hb,hbb⟩,let ⟨mc,h1,h2⟩:=hlim;⟨mc,nsK h1,h2⟩⟩
  have e0:Env0 P w K mg (vm s₁.heap H) callerA [] s₁ H:=⟨rfl,hM,fun b o e=>zdp e,Nat.le_of_eq (kJ _ _),trivial,fun b hb=>absurd (show b∈([]:List Addr) from hb) (by simp),hok,.of_eq hg⟩
  refine codeAny_mono ((F _ hKb (nsK hns)).run callerA [] s₁ H ⟨[.ref a],[]⟩ [.ref a] [.ref a] _ _ hr e0 (hbind s₁ (.ref a)) (.cons rfl .nil) (hsp H hO hS)) fun r s' h=>?_
  cases r with
  |error e=>exact (hCX H e s' h).elim
  |ok fl=>
   cases fl with
   |next=>exact False.elim h
   |brk=>exact False.elim h
   |cont=>exact False.elim h
   |ret u=>
    obtain⟨v,H',os,bare,un,hok',r',q⟩:=h
    have q':v=.bl true:=q
    subst q'
    obtain rfl:u=Value.bool true:=r'
    refine⟨rfl,OldK.of_keep fun b o e=>?_,os,bare⟩
    cases q:H b with
    |none=>exact un.keep b o e q (by intro z;exact absurd (show b∈([]:List Addr) from z) (by simp)) (by simp)
    |some u=>
     rcases hO b with z | ⟨ob,xs,z⟩
     ·rw[q]at z;cases z
     ·have z2:=un.frzs b ob _ z
      obtain⟨e1,_⟩:=hok b _ z
      obtain⟨e2,_⟩:=hok' b _ z2
      rw[e]at e1;cases e1
      exact e2
 cases hk:K.lookup a with
 |some o=>
  -- the script is one of the module's own objects
  have e:=KX a o hk
  rw[ha]at e
  cases e
  refine core (fun _=>none) (fun _=>.inl rfl) (.inr ⟨_,vs.toArray,_,hk,rfl,rfl,rfl,by rw[xu,lenV];exact hl,by simpa using rv⟩) (fun b u z=>by have z':(none:Option HO)=some u:=z;cases z') (fun b z=>absurd rfl z) fun z=>absurd rfl z
 |none=>
  refine core (fun b=>if b=a then some (.frz { cls:=.type "list",data:=.seq vs.toArray } (.lst (ns.map V.int))) else none) (fun b=>?_) (.inl (.inr ⟨{ cls:=.type "list",data:=.seq vs.toArray },if_pos rfl⟩)) (fun b u z=>?_) (fun b z=>?_) fun _=>hk
  ·by_cases hb:b=a
   ·exact .inr ⟨_,_,if_pos hb⟩
   ·exact .inl (if_neg hb)
  ·by_cases hb:b=a
   ·have z':=(if_pos hb).symm.trans z
    cases z'
    subst hb
    exact⟨ha,by rw[xo];exact hl,vs,_,rv,ha⟩
   ·have z':=(if_neg hb).symm.trans z
    cases z'
  ·by_cases hb:b=a
   ·exact hb
   ·exact absurd (if_neg hb) z
noncomputable abbrev KOf{K:PySem.W.Frag}{h:Heap}(_:K.In h):PySem.W.Frag:=K
theorem walk_of{l:PySem.W.OpenLaw}{n k:Nat}{q:Program}{loose:List Str}{XP:(Str->Option Value)->Heap->Prop}{YP:World->Heap->Prop}{d:DefRec}{K:Params->PySem.W.Frag}{CX:World->CXT}{sp:World->Sp}{x:Str}
  (hn:l.most=some n) (hn2:n<=sizeLine) (hdf:d.params.defaults= []) (hr:Room k callerA)
  (hY:∀ (w:World) (h:Heap),YP w h->(K w.params).In h)
  (F:∀ (w:World) (mg:Str->Option Value) (fa:Addr) (h:Heap),(K w.params).In h->h.Ns mainGlobals mg->mg d.name=some (.ref fa) ->
   ∃ fd:FuncData,(∀ (s:Shared) (u:Value),BindsTo s fd ⟨[u],[]⟩ [(x,u)]) /\
    ∀ base:Heap,(K w.params).In base->base.Ns mainGlobals mg->FnOk l.prog w (K w.params) mg base (CX w) k fa fd [x] (sp w))
  (hsp:∀ (w:World) (H:Hp) (a:Addr) (ns:List Int),ns.length<=n->ze3 H->SqL (K w.params) H a (ns.map V.int)->sp w [.ref a] H (fun v _=>v=.bl true) fun _ _ _=>False)
  (hCX:∀ (w:World) (H:Hp) (s:Shared) (e:Value) (s':Shared),CX w [] H s (fun _ _ _=>False) e s'->False) :
  PySem.W.WalkO q loose XP YP l.row.toRowW d [] (fun f vs=>PySem.call f vs):=by
 refine Att.attach_call hn hdf fun w s₀ s₁ mg mb fa o pm cd doc a vs ns G Y ho hd hcd hmg hobj hints hlen hg=>?_
 have KX:=hY w _ Y
 obtain⟨fd,hb,hF⟩:=F w mg fa _ KX G.T.g hmg
 exact zaU KX G.T.g G.T.b G.T.builtins G.T.nolimit hg hobj hints (xH hlen hn2) hr hF hb (fun H hO hS=>hsp w H a ns hlen hO hS) fun H e s'=>hCX w H s₁ e s'
noncomputable def z6(s:Stmt):Arguments:=match s with
 |.FunctionDef _ a _ _ _ _ _ _ _ _=>a
 |_=>{ posonlyargs:= [],args:= [],vararg:=none,kwonlyargs:= [],kw_defaults:= [],kwarg:=none,defaults:= [] }
noncomputable def defBody(s:Stmt):List Stmt:=match s with
 |.FunctionDef _ _ b _ _ _ _ _ _ _=>b
 |_=> []
noncomputable def defScope(s:Stmt):Scope:=match s with
 |.FunctionDef _ _ _ _ _ _ sc _ _ _=>sc
 |_=>{ kind:=.function,names:= [],isGenerator:=false,isCoroutine:=false }
noncomputable abbrev CX0:CXT:=fun _ _ _ _ _ _=>False
noncomputable abbrev E0:XK:=fun _ _ _=>False
theorem zhP :W4 CX0 X E0:=fun _ _ _ _ _ _ _ h=>h.elim
structure Fun(K:PySem.W.Frag)(x qual:Str)(st:Stmt)(f:Addr)(fd:FuncData):Prop where
 ex:∃ (oc:Value) (od:Option Addr) (kV doc pm:Value) (an:Option Addr) (cdv ct:Value) (osl:Array (Option Value)),
  fd=PySem.W.fnOf x qual (z6 st) (defBody st) (defScope st) .none kV doc pm an cdv ct/\K.lookup f=some ⟨oc,od,.func fd,osl⟩/\PySem.W.codeIn K cdv qual=true
 kp:PySem.W.keepIn K (.ref f)=true
section
variable {P:Program}{w:World}{K:PySem.W.Frag}{mg:Str->Option Value}{base:Heap}
theorem Fun.ok {st:Stmt}{N ps:List Str}{k:Nat}(F:Fun K x qual st f fd)(S:qN N ps (defScope st))(len:∀ vs H Q E,sp vs H Q E->vs.length=ps.length)
  (hbody:∀ (cdv:Value) (A:Around) (outer:List Env) (s:Shared) (H:Hp) (vs:List V) (Q:VK) (E:XK),Room k (A.deeper (envOfC qual (defScope st) s.heap.objs.size f cdv))->sp vs H Q E ->
   ∃ t,PSs (Zv CX0 P w K mg base N qual (defScope st) f cdv A outer s H E).nox (defBody st) t/\t { nx:=fun _ H'=>Q .non H',rt:=Q } (start N vs) H):FnOk P w K mg base CX0 (k+1) f fd ps sp:=by
 obtain⟨oc,od,kV,doc,pm,an,cdv,ct,osl,rfl,lk,hcd⟩:=F.ex
 refine zaB lk hcd S len fun A outer s H vs Q E hr hsp=>?_
 obtain⟨t,h,q⟩:=hbody cdv A outer s H vs Q E hr hsp
 exact⟨t,h.nox,q⟩
theorem Fun.binds {st:Stmt}{ps:List Str}(F:Fun K x qual st f fd)
  (h:∀ (kV doc pm:Value) (an:Option Addr) (cdv ct:Value) (us:List Value),us.length=ps.length->bindArgs (PySem.W.fnOf x qual (z6 st) (defBody st) (defScope st) .none kV doc pm an cdv ct) ⟨us,[]⟩=pure (ps.zip us)):Binds K fd ps []:=by
 obtain⟨oc,od,kV,doc,pm,an,cdv,ct,osl,rfl,lk,hcd⟩:=F.ex
 exact .all (h kV doc pm an cdv ct)
theorem jD {st:Stmt}{kV doc pm cdv ct:Value}(l:K.lookup f=some ⟨oc,od,.func (PySem.W.fnOf x qual (z6 st) (defBody st) (defScope st) .none kV doc pm an cdv ct),osl⟩)
  (c:PySem.W.codeIn K cdv qual=true) (k:PySem.W.keepIn K (.ref f)=true):Fun K x qual st f (PySem.W.fnOf x qual (z6 st) (defBody st) (defScope st) .none kV doc pm an cdv ct):=⟨⟨oc,od,kV,doc,pm,an,cdv,ct,osl,rfl,l,c⟩,k⟩
end
section
variable {X:Cx}
theorem pv (i:Nat)(hN:X.N[i]?=some x:=by rfl) (hv:Vis X.env.scope x:=by first | exact Or.inl rfl | exact Or.inr (Or.inl rfl) | exact Or.inr (Or.inr rfl)) (hd:(x==("__debug__" :Str))=false:=by decide)
    (hcd:(x==("__classdict__" :Str))=false:=by decide):PE X (.Name x pos) (zb7 i):=qg hN hv hd hcd
end
theorem vp{A B:Prop}(h:B):if false=true then A else B:=by
 rw[if_neg uA]
 exact h
theorem vq{A B:Prop}(h:A):if true=true then A else B:=by
 rw[if_pos rfl]
 exact h
noncomputable def Same(H H':Hp):Prop:=∀ b o,H b=some o->H' b=some o
theorem Same.refl(H:Hp):Same H H:=fun _ _ h=>h
theorem Same.trans (a:Same H H1)(b:Same H1 H2):Same H H2:=fun c o h=>b c o (a c o h)
theorem Same.free (e:Same H H')(h:H' l=Option.none):H l=Option.none:=by
 cases q:H l with
 |none=>rfl
 |some o=>
  rw[e l o q]at h
  cases h
theorem Same.seq{K:PySem.W.Frag}(e:Same H H')(h:SqL K H a xs):SqL K H' a xs:=by
 rcases h with (h | ⟨o,h⟩) | h
 ·exact .inl (.inl (e _ _ h))
 ·exact .inl (.inr ⟨o,e _ _ h⟩)
 ·exact .inr h
section
variable {κ:Type}[DecidableEq κ]
noncomputable def V6(kvs:List (κ×V))(k:κ):Option V:=(kvs.find? fun kv=>decide (kv.1=k)).map (·.2)
theorem w9{p:κ×V}{r:List (κ×V)}{k:κ}(e:p.1=k):V6 (p::r) k=some p.2:=by simp[V6,e]
theorem w6{p:κ×V}{r:List (κ×V)}{k:κ}(e:¬ p.1=k):V6 (p::r) k=V6 r k:=by simp[V6,e]
theorem V7(k:κ):∀ kvs:List (κ×V),(kvs.any fun kv=>decide (kv.1=k))=(V6 kvs k).isSome
 |[]=>rfl
 |p::r=>by
  rw[ug]
  by_cases e:p.1=k
  ·simp only[w9 e,decide_eq_true e,Bool.true_or,Option.isSome_some]
  ·rw[w6 e,decide_eq_false e,Bool.false_or];exact V7 k r
theorem KV.any{kvs:List (κ×V)}{vs:List (κ×Value)}(r:KV kvs vs)(k:κ):(kvs.any fun kv=>decide (kv.1=k))=vs.any fun kv=>decide (kv.1=k):=by
 unfold KV at r
 induction r with
 |nil=>rfl
 |cons h t ih=>rw[ug,ug,ih,h.1]
theorem KV.keys{kvs:List (κ×V)}{vs:List (κ×Value)}(r:KV kvs vs):kvs.map (·.1)=vs.map (·.1):=by
 unfold KV at r
 induction r with
 |nil=>rfl
 |cons h t ih=>rw[xB,xB,ih,h.1]
theorem KV.length{kvs:List (κ×V)}{vs:List (κ×Value)}(r:KV kvs vs):kvs.length=vs.length:=Paired.length r
end
section
end
section
variable {X:Cx}{pins:List (Addr×Obj)}{σ:St}{H:Hp}{s:Shared}
theorem Inv.big(I:Inv X pins σ H s):sysModules<s.heap.objs.size:=by
 have h:mainGlobals<s.heap.objs.size:=(I.mod.glob.keeps I.bk).lt
 exact Nat.lt_trans (by decide) h
end
section
end
section
end
section
end
section
end
section
end
section
end
section
end
section
end
theorem qk{α β:Type}[BEq α][LawfulBEq α]:∀ {l:List (α×β)}{x:α}{v:β},l.lookup x=some v->(x,v)∈l
 |[],_,_,h=>by simp at h
 | (a,b)::r,x,v,h=>by
  rw[xz]at h
  cases e:x==a with
  |true=>rw[e]at h;have e':=eq_of_beq e;subst e';cases h;exact xw
  |false=>rw[e]at h;exact xi _ (qk h)
theorem ZK{env:Env}:∀ (names:List (Str×NameKind)) (cs:List (Str×Addr)),
    (∀ y∈names,y.2=.free->∃ c,env.cells.lookup y.1=some c)->(∀ x c,cs.lookup x=some c->env.cells.lookup x=some c) ->
    ∃ cl,(forIn names cs fun x r=>if (x.snd==NameKind.free)=true then do
                let z<-cellOf env x.fst
                pure (ForInStep.yield ((x.fst,z)::r))
              else pure (ForInStep.yield r):Sem (List (Str×Addr)))=pure cl/\(∀ x c,cl.lookup x=some c->env.cells.lookup x=some c) /\
      (∀ x,(∃ c,cs.lookup x=some c)∨(x,NameKind.free)∈names->∃ c,cl.lookup x=some c)
  |[],cs,_,h2=>⟨cs,by simp,h2,fun x hx=>by
      rcases hx with h | h
      · exact h
      · cases h⟩
  | (n,k)::r,cs,h1,h2=>by
    rw[List.forIn_cons]
    by_cases hk:k=.free
    · subst hk
      obtain⟨c,hc⟩:=h1 (n,.free) xw rfl
      have e:cellOf env n=pure c:=by unfold cellOf;rw[hc]
      obtain⟨cl,e1,h3,h4⟩:=ZK r ((n,c)::cs) (fun y hy=>h1 y (xi _ hy)) (fun x c' hx=>by
        rw[xz]at hx
        cases q:x==n with
        |true=>rw[q]at hx;cases hx;rw[eq_of_beq q];exact hc
        |false=>rw[q]at hx;exact h2 x c' hx)
      refine⟨cl,?_,h3,fun x hx=>h4 x ?_⟩
      · simp only [beq_self_eq_true, if_true, e, pure_bind]
        exact e1
      · by_cases q : x = n
        · subst q;exact .inl ⟨c,by simp⟩
        · rcases hx with ⟨c', hx⟩ | hx
          · exact .inl ⟨c',by rw[xz,beq_eq_false_iff_ne.mpr q];exact hx⟩
          · rcases List.mem_cons.mp hx with z | z
            · exact absurd (congrArg Prod.fst z) q
            · exact .inr z
    · have hb : (k == NameKind.free) = false := by simpa using hk
      obtain⟨cl,e1,h3,h4⟩:=ZK r cs (fun y hy=>h1 y (xi _ hy)) h2
      refine⟨cl,?_,h3,fun x hx=>h4 x ?_⟩
      · simp only [hb, Bool.false_eq_true, if_false, pure_bind]
        exact e1
      · rcases hx with hx | hx
        · exact .inl hx
        · rcases List.mem_cons.mp hx with z | z
          · exact absurd (congrArg Prod.snd z).symm hk
          · exact .inr z
theorem ym{sc:Scope}{env:Env}(h:∀ y∈sc.names,y.2=.free->∃ c,env.cells.lookup y.1=some c) :
  ∃ cl,closureFor sc env=pure cl/\(∀ x c,cl.lookup x=some c->env.cells.lookup x=some c)/\(∀ x,(x,NameKind.free)∈sc.names->∃ c,cl.lookup x=some c):=by
 obtain⟨cl,e,h1,h2⟩:=ZK (env:=env) sc.names [] h (fun x c z=>by simp at z)
 refine⟨cl,?_,h1,fun x hx=>h2 x (.inr hx)⟩
 simp only[closureFor]
 rw[bind_pure]
 exact e
noncomputable def K2 (X:Cx) (C:Addr) (x:Value) (s':Shared):Prop:=∃ m,s'.heap.Ns C m/\∀ h',Heap.SameBut C s'.heap h'->∀ cenv:Env,cenv.locals=C->wpAny (model X.prog X.w) X.A (passOn "comprehension.variables-let-go" x cenv:Sem Value) (fun _ _=>False) X.xe { s' with heap:=h' }
noncomputable abbrev Cx.comp(X:Cx)(N':List Str)(scope:Scope)(cl:List (Str×Addr))(C:Addr)(s2:Shared)(H2:Hp)(fp:List Addr):Cx :=
 { X with N:=N',env:=compEnvC scope cl C X.env,s₀:=s2,H₀:=H2,outer:=X.stack,stack:=X.stack,ex:=fp,fn:=fun x=>decide (scope.names.lookup x=some .cell),pn:= [],xe:=notedBy (model X.prog X.w) X.A (compEnvC scope cl C X.env) (K2 X C) }
noncomputable def Cat(X:Cx)(σ:St)(C:Addr)(s2:Shared)(H2:Hp)(fp:List Addr):Prop:=∃ pins,Inv X pins σ H2 s2/\(∀ b∈fp,ZF X pins H2 b)/\s2.heap.objs.size<=C
structure CSc(psc:Scope)(N:List Str)(sc:Scope)(N':List Str)(k:Nat)(ix:List Nat):Prop where
 kind:sc.kind=.function
 cel:∀ y∈sc.names,y.2=.cell->sc.names.lookup y.1=some .cell
 loc:∀ y∈sc.names,y.2=.local->sc.names.lookup y.1=some .local
 fre:∀ y∈sc.names,y.2=.free->psc.names.lookup y.1=some .cell∨psc.names.lookup y.1=some .free
 len:N'.length=k+ix.length
 nd:N'.Nodup
 cap:∀ (j i:Nat),ix[j]?=some i->∃ y,N'[k+j]?=some y/\N[i]?=some y/\sc.names.lookup y=some .free
noncomputable def zan(psc:Scope)(N:List Str)(sc:Scope)(N':List Str)(k:Nat)(ix:List Nat):Bool :=
 decide (sc.kind=.function)&&sc.names.all (fun y=>(decide (y.2≠ .cell)||decide (sc.names.lookup y.1=some .cell))&&(decide (y.2≠ .local)||decide (sc.names.lookup y.1=some .local))&&(decide (y.2≠ .free)||decide (psc.names.lookup y.1=some .cell)||decide (psc.names.lookup y.1=some .free))) &&
 decide (N'.length=k+ix.length)&&decide N'.Nodup&&(List.range ix.length).all (fun j=>match N'[k+j]?,N[ix.getD j 0]? with
  |some y,some z=>decide (y=z)&&decide (sc.names.lookup y=some .free)
  |_,_=>false)
theorem CSc.of (h:zan psc N sc N' k ix=true):CSc psc N sc N' k ix:=by
 unfold zan at h
 simp only[xa,decide_eq_true_eq,xA,xO]at h
 obtain⟨⟨⟨⟨h1,h2⟩,h3⟩,h4⟩,h5⟩:=h
 refine⟨h1,fun y hy e=>?_,fun y hy e=>?_,fun y hy e=>?_,h3,h4,fun j i e=>?_⟩
 ·rcases (h2 y hy).1.1 with z | z
  ·exact absurd e z
  ·exact z
 ·rcases (h2 y hy).1.2 with z | z
  ·exact absurd e z
  ·exact z
 ·rcases (h2 y hy).2 with (z | z) | z
  ·exact absurd e z
  ·exact .inl z
  ·exact .inr z
 ·obtain⟨hj,ei⟩:=xb.mp e
  have:=h5 j (xL.mpr hj)
  have e2:ix.getD j 0=i:=by rw[List.getD_eq_getElem?_getD,e];rfl
  rw[e2]at this
  split at this
  ·rename_i y z ey ez
   simp only[xa,decide_eq_true_eq]at this
   obtain⟨rfl,hl⟩:=this
   exact⟨y,ey,ez,hl⟩
  ·cases this
noncomputable def cS(k:Nat)(ix:List Nat)(σ:St):St:=List.replicate k none++ix.map fun i=>(σ[i]?).join
theorem Qq{env:Env}:∀ {names:List (Str×NameKind)}{x:Str},
    ((names.map fun (n,k)=>if (k==NameKind.free&&env.scope.kind==.function&&env.kindOf n==some .cell) then (n,NameKind.cell) else (n,k)).lookup x=some .cell ∨
     (names.map fun (n,k)=>if (k==NameKind.free&&env.scope.kind==.function&&env.kindOf n==some .cell) then (n,NameKind.cell) else (n,k)).lookup x=some .free)->names.lookup x=some .free∨names.lookup x=some .cell
  |[],_,h=>by simp at h
  | (n,k)::r,x,h=>by
    have ih:=@Qq env r x
    rw[xB]at h
    dsimp only at h
    by_cases hcd:(k==NameKind.free&&env.scope.kind==.function&&env.kindOf n==some .cell)=true
    · have hkf : k = .free := by
        simp only[xa]at hcd
        exact eq_of_beq hcd.1.1
      rw[if_pos hcd]at h
      cases hx:x==n with
      |true=>rw[xz,hx,hkf];exact .inl rfl
      |false=>simp only[xz,hx]at h;simp only[xz,hx];exact ih h
    · rw [if_neg hcd] at h
      cases hx:x==n with
      |true=>
        simp only[xz,hx]at h
        rw[xz,hx]
        rcases h with h | h
        · exact .inr h
        · exact .inl h
      |false=>simp only[xz,hx]at h;simp only[xz,hx];exact ih h
theorem Jf{env:Env}:∀ {names:List (Str×NameKind)}{x:Str},names.lookup x=some .free ->
    ((names.map fun (n,k)=>if (k==NameKind.free&&env.scope.kind==.function&&env.kindOf n==some .cell) then (n,NameKind.cell) else (n,k)).lookup x=some .cell ∨
     (names.map fun (n,k)=>if (k==NameKind.free&&env.scope.kind==.function&&env.kindOf n==some .cell) then (n,NameKind.cell) else (n,k)).lookup x=some .free)
  |[],_,h=>by simp at h
  | (n,k)::r,x,h=>by
    have ih:=@Jf env r x
    rw[xB]
    dsimp only
    cases hx:x==n with
    |true=>
      rw[xz,hx]at h
      cases h
      by_cases hcd:(NameKind.free==NameKind.free&&env.scope.kind==.function&&env.kindOf n==some .cell)=true
      · rw[if_pos hcd];simp[xz,hx]
      · rw[if_neg hcd];simp[xz,hx]
    |false=>
      rw[xz,hx]at h
      by_cases hcd:(k==NameKind.free&&env.scope.kind==.function&&env.kindOf n==some .cell)=true
      · rw[if_pos hcd];simp only[xz,hx];exact ih h
      · rw[if_neg hcd];simp only[xz,hx];exact ih h
structure ClOk(X:Cx)(sc:Scope)(cl:List (Str×Addr))(C:Addr)(h4:Heap):Prop where
 src:∀ x c,cl.lookup x=some c->X.env.cells.lookup x=some c∨(C<c/\h4.IsCell c none)
 inj:∀ x y c,cl.lookup x=some c->cl.lookup y=some c->x=y
 has:∀ x,(sc.names.lookup x=some .free∨sc.names.lookup x=some .cell)->∃ c,cl.lookup x=some c
 own:∀ x c,sc.names.lookup x=some .cell->cl.lookup x=some c->C<c
 old:∀ x c,sc.names.lookup x=some .free->cl.lookup x=some c->X.env.cells.lookup x=some c
theorem qh:∀ (names:List (Str×NameKind)) (n:Nat) (acc:List (Str×Addr)),cellsFrom n names acc=cellsFrom n names []++acc
 |[],n,acc=>rfl
 | (x,k)::r,n,acc=>by
  unfold cellsFrom
  split
  ·rw[qh r (n+1) ((x,n)::acc),qh r (n+1) [(x,n)],xR];rfl
  ·exact qh r n acc
theorem jC:∀ (names:List (Str×NameKind)) (n:Nat) (y:Str×Addr),y∈cellsFrom n names []->(y.1,NameKind.cell)∈names
 |[],n,y,h=>by cases h
 | (x,k)::r,n,y,h=>by
  unfold cellsFrom at h
  split at h
  ·rename_i hk
   rw[qh]at h
   rcases xM.mp h with h | h
   ·exact xi _ (jC r _ y h)
   ·have e:y=(x,n):=by simpa using h
    subst e
    have hk':k=.cell:=eq_of_beq hk
    subst hk'
    exact xw
  ·exact xi _ (jC r _ y h)
theorem ZP{β:Type}:∀ (l1 l2:List (Str×β)) (x:Str),(l1++l2).lookup x=(match l1.lookup x with | some v=>some v | none=>l2.lookup x)
 |[],l2,x=>rfl
 | (a,b)::l1,l2,x=>by
  rw[List.cons_append,xz,xz]
  cases x==a with
  |true=>rfl
  |false=>exact ZP l1 l2 x
theorem Wn {s:Shared}{scope:Scope}{Q:Env->Shared->Prop}
  (hQ:Q (newEnv scope s.heap.objs.size globals (cellsFrom (s.heap.objs.size+1) scope.names cl) qual none .none (some env) builtins) { s with heap:=pushCells (s.heap.push { cls:=.type "dict",data:=.dict #[] }) scope.names }) :
  wpAny M A (newFunctionEnv scope globals cl [] qual none .none (some env) builtins) Q E s:=by
 simp only[newFunctionEnv,Option.isSome_some,if_true]
 refine wpAny_bind (wpAny_alloc ?_)
 refine wpAny_bind (wpAny_layCells _ (fun name kind cells=>by cases hkc:kind==NameKind.cell<;>simp[hkc]) _ _ _ _ ?_)
 rw[show ({ s with heap:=s.heap.push { cls:=.type "dict",data:=.dict #[] } }:Shared).heap.objs.size=s.heap.objs.size+1 from Heap.size_push ..]
 simp only[List.forIn_nil]
 exact wpAny_bind (wpAny_pure (wpAny_pure hQ))
section
variable {X:Cx}{pins:List (Addr×Obj)}{σ:St}{H:Hp}{s2:Shared}
theorem ClOk.of{sc:Scope}(I:Inv X pins σ H s2)(S:CSc X.env.scope X.N sc N' k ix){cl:List (Str×Addr)}(hcl1:∀ x c,cl.lookup x=some c->X.env.cells.lookup x=some c)(hcl2:∀ x,(x,NameKind.free)∈sc.names->∃ c,cl.lookup x=some c)
  {g:Heap}  (hg:s2.heap.objs.size<=g.objs.size):ClOk X sc (cellsFrom (g.objs.size+1) sc.names cl) g.objs.size (pushCells (g.push o) sc.names):=by
 have ok:=cellsFrom_ok sc.names (g.push o) (g.objs.size+1) [] ⟨(fun _ _ hm=>nomatch hm),List.Pairwise.nil⟩ (by rw[Heap.size_push];exact xh _)
 rw[Heap.size_push]at ok
 rw[qh]
 have hnew:∀ x c,(cellsFrom (g.objs.size+1) sc.names []).lookup x=some c->g.objs.size<c/\(pushCells (g.push o) sc.names).IsCell c none/\(x,NameKind.cell)∈sc.names:=fun x c e=>by
  have hm:=qk e
  have:=ok.empty x c hm
  exact⟨Nat.lt_of_succ_le this.2,this.1,jC _ _ _ hm⟩
 have hold:∀ x c,cl.lookup x=some c->c<g.objs.size:=fun x c e=>by
  obtain⟨v,ob,hob,_⟩:=I.cell x c (hcl1 x c e)
  exact xv (Heap.lt_size hob) hg
 have hget:∀ x c,(cellsFrom (g.objs.size+1) sc.names []++cl).lookup x=some c->((cellsFrom (g.objs.size+1) sc.names []).lookup x=some c)∨((cellsFrom (g.objs.size+1) sc.names []).lookup x=none/\cl.lookup x=some c):=fun x c e=>by
  rw[ZP]at e
  cases q:(cellsFrom (g.objs.size+1) sc.names []).lookup x with
  |some v=>rw[q]at e;exact .inl e
  |none=>rw[q]at e;exact .inr ⟨rfl,e⟩
 have hnone:∀ x,sc.names.lookup x=some .free->(cellsFrom (g.objs.size+1) sc.names []).lookup x=none:=fun x hx=>by
  cases q:(cellsFrom (g.objs.size+1) sc.names []).lookup x with
  |none=>rfl
  |some c=>
   have:=S.cel (x,.cell) (hnew x c q).2.2 rfl
   rw[hx]at this;cases this
 refine⟨fun x c e=>?_,fun x y c e1 e2=>?_,fun x hx=>?_,fun x c hx e=>?_,fun x c hx e=>?_⟩
 ·rcases hget x c e with q | ⟨_,q⟩
  ·exact .inr ⟨(hnew x c q).1,(hnew x c q).2.1⟩
  ·exact .inl (hcl1 x c q)
 ·rcases hget x c e1 with q1 | ⟨_,q1⟩
  ·rcases hget y c e2 with q2 | ⟨_,q2⟩
   ·have m1:=qk q1
    have m2:=qk q2
    by_cases hxy:x=y
    ·exact hxy
    ·exfalso
     have:=ok.apart
     obtain⟨i,hi,ei⟩:=List.getElem_of_mem m1
     obtain⟨j,hj,ej⟩:=List.getElem_of_mem m2
     have pw:=List.pairwise_iff_getElem.mp this
     rcases Nat.lt_trichotomy i j with h | h | h
     ·have:=pw i j hi hj h
      rw[ei,ej]at this;exact this rfl
     ·subst h
      rw[ei]at ej
      exact hxy (congrArg Prod.fst ej)
     ·have:=pw j i hj hi h
      rw[ei,ej]at this;exact this rfl
   ·exact absurd (hold y c q2) (uS.mpr (uv (hnew x c q1).1))
  ·rcases hget y c e2 with q2 | ⟨_,q2⟩
   ·exact absurd (hold x c q1) (uS.mpr (uv (hnew y c q2).1))
   ·exact I.ok.inj x y c (hcl1 x c q1) (hcl1 y c q2)
 ·rw[ZP]
  rcases hx with hx | hx
  ·rw[hnone x hx]
   exact hcl2 x (qk hx)
  ·obtain⟨c,hc⟩:=Qf (n:=g.objs.size+1) hx
   rw[hc];exact⟨c,rfl⟩
 ·rcases hget x c e with q | ⟨q,_⟩
  ·exact (hnew x c q).1
  ·obtain⟨c',hc⟩:=Qf (n:=g.objs.size+1) hx
   rw[hc]at q;cases q
 ·rcases hget x c e with q | ⟨_,q⟩
  ·rw[hnone x hx]at q;cases q
  ·exact hcl1 x c q
theorem Inv.child (I:Inv X pins σ H s2)(S:CSc X.env.scope X.N sc N' k ix)(hf:∀ b∈fp,ZF X pins H b)
  (hfo:∀ b∈fp,∃ o,s2.heap.get? b=some o) 
  {C:Addr} {s4:Shared} (L:ClOk X sc cl C s4.heap) (hC:s2.heap.objs.size<=C) (keep:∀ b o,s2.heap.get? b=some o->s4.heap.get? b=some o)  (hns:s4.heap.Ns C m0) (ho:s4.os=s2.os) (hg:AllBare s4.gens) :
  Inv (X.comp N' sc cl C s2 H fp) [] (cS k ix σ) H s4 where
 ok:={
  mod:=I.ok.mod
  kind:=S.kind
  glob:=I.ok.glob
  blt:=I.ok.blt
  above:=hC
  inj:=L.inj
  has:=fun x hx=>L.has x (Qq (env:=X.env) hx)
  cab:=fun x c h e=>xH hC (uv (L.own x c (of_decide_eq_true h) e))
  hd:=I.ok.hd
  frames:=I.ok.frames
  stk:=.inl rfl
  exf:=fun b hb=>by
   obtain⟨f0,f1,f2,f3,f4,f5⟩:=hf b hb
   obtain⟨o,e⟩:=hfo b hb
   refine⟨xr (xv (Heap.lt_size e) hC),fun x c z=>?_⟩
   rcases L.src x c z with z | z
   ·exact f4 x c z
   ·exact Ne.symm (xr (Nat.lt_trans (xv (Heap.lt_size e) hC) z.1))
  bs:=fun b o e=>I.bs b o e
  bsz:=xH I.ok.bsz I.sz
  noex:=fun b o e hb=>by
   obtain⟨f0,f1,f2,f3,f4,f5⟩:=hf b hb
   rcases f3 with z | z
   ·exact I.ok.noex b o e z
   ·exact absurd (xv (Heap.lt_size (I.ok.bs b o e).1) z) (uf _)
  exfs:=fun b hb hz=>by
   obtain⟨f0,f1,f2,f3,f4,f5⟩:=hf b hb
   rcases xt.mp (I.stkSub b hz)with z | z
   ·exact f1 z
   ·exact f2 z
  funs:=I.stack
  frf:=I.stkFree }
 os:=ho
 bare:=hg
 base:=Un.kept keep
 loc:=⟨m0,hns,fun i x v e1 e2 e3=>by
  unfold cS at e2
  by_cases hi:i<k
  ·rw[xc (by simpa using hi),xU,if_pos hi]at e2
   cases e2
  ·obtain⟨j,rfl⟩:∃ j,i=k+j:=⟨i-k,by omega⟩
   rw[xf (by simp),uD,Nat.add_sub_cancel_left,xk]at e2
   cases q:ix[j]? with
   |none=>rw[q]at e2;cases e2
   |some i0=>
    rw[q]at e2
    obtain⟨y,hy1,hy2,hy3⟩:=S.cap j i0 q
    have ey:y=x:=by
     have:(X.comp N' sc cl C s2 H fp).N[k+j]?=some y:=hy1
     rw[this]at e1;exact Option.some.inj e1
    subst ey
    have ev:σ[i0]?=some (some v):=by
     simp only[uW,Option.some.injEq]at e2
     cases r:σ[i0]? with
     |none=>rw[r]at e2;cases e2
     |some z=>rw[r]at e2;exact congrArg some e2
    obtain⟨m,hn,hl⟩:=I.loc
    have hfr:=S.fre (y,.free) (qk hy3) rfl
    have hv:Vis X.env.scope y:=.inr hfr
    obtain⟨u,r1,l1⟩:=hl i0 y v hy2 ev hv
    refine⟨u,r1,.inr ⟨Jf (env:=X.env) hy3,?_⟩⟩
    obtain⟨c,hc⟩:=L.has y (.inl hy3)
    refine⟨c,hc,?_⟩
    have hc':=L.old y c hy3 hc
    rcases l1 with ⟨hk,_⟩ | ⟨_,c',hc2,z⟩
    ·have hk':X.env.scope.names.lookup y=some .local:=hk
     rcases hfr with w | w
     ·rw[hk']at w;cases w
     ·rw[hk']at w;cases w
    ·rw[hc']at hc2;cases hc2
     obtain⟨ob,hob,hd⟩:=z
     exact⟨ob,keep _ _ hob,hd⟩⟩
 cell:=fun x c e=>by
  rcases L.src x c e with e | e
  ·obtain⟨v,ob,hob,hd⟩:=I.cell x c e
   exact⟨v,ob,keep _ _ hob,hd⟩
  ·exact⟨none,e.2⟩
 free:=I.hok.fresh hC
 freeC:=fun x c e=>by
  rcases L.src x c e with e | e
  ·exact I.freeC x c e
  ·exact I.hok.fresh (xH hC (uv e.1))
 pin:=fun p hp=>by cases hp
 hok:=I.hok.kept keep
 len:=by
  show (cS k ix σ).length=N'.length
  rw[S.len];unfold cS;simp
theorem Inv.back {C:Addr}(I:Inv X pins σ H s2)(hf:∀ b∈fp,ZF X pins H b)(J:Inv (X.comp N' sc cl C s2 H fp) pl σc H5 s5):Inv X pins σ H5 s5 :=
 I.call' (ch:=fp) J.os J.base J.hok J.bare fun b hb=>by
  obtain⟨f0,f1,f2,f3,f4,f5⟩:=hf b hb
  exact⟨f3,f1,f4,f5⟩
end
section
variable {X:Cx}{pins:List (Addr×Obj)}{σ:St}{H:Hp}{s:Shared}
theorem Inv.track{a:Addr}{o:HO}(I:Inv X pins σ H s)(ha:X.s₀.heap.objs.size<=a)(hn:H a=none)(hL:a≠X.env.locals)(hc:∀ x c,X.env.cells.lookup x=some c->c≠a)(hp:∀ p∈X.pn++pins,p.1≠a)
  (new:ObjOk X.prog X.w (upd H a o) s.heap a o):Inv X pins σ (upd H a o) s where
 ok:=I.ok
 os:=I.os
 bare:=I.bare
 base:={
  keep:=I.base.keep
  slot:=I.base.slot
  free:=fun b ob e n hx=>by
   rw[zg (xr (xv (Heap.lt_size e) ha))]
   exact I.base.free b ob e n hx
  there:=I.base.there
  tups:=fun b xs e=>by
   have:=I.base.tups b xs e
   rw[zg (zN this hn)];exact this
  frzs:=fun b ob u e=>by
   have:=I.base.frzs b ob u e
   rw[zg (zN this hn)];exact this
  tbls:=fun b ps e=>by
   obtain⟨mo,this⟩:=I.base.tbls b ps e
   exact⟨mo,by rw[zg (zN this hn)];exact this⟩ }
 loc:=I.loc
 cell:=I.cell
 free:=by rw[zg (Ne.symm hL)];exact I.free
 freeC:=fun x c e=>by rw[zg (hc x c e)];exact I.freeC x c e
 pin:=fun p h=>by
  obtain⟨e,n,r⟩:=I.pin p h
  exact⟨e,by rw[zg (hp p h)];exact n,r⟩
 hok:=fun b u q=>by
  by_cases hb:b=a
  ·subst hb;rw[zk]at q;cases q;exact new
  ·rw[zg hb]at q
   exact (I.hok b u q).stay (fun c v _ r=>r) (fun c r=>by rw[zg (zN r hn)];exact r) fun c xs r=>by rw[zg (zN r hn)];exact r
 len:=I.len
end
noncomputable def PF(X:Cx)(ifs:List Expr)(t:TT):Prop :=
 ∀ (pins:List (Addr×Obj)) (s:Shared) (σ:St) (H:Hp) (Q:Bool->Hp->Prop),Inv X pins σ H s->t σ H Q ->
  wpAny (model X.prog X.w) X.A (forIn ifs true fun c r=>if r=true then do let ok<-isTrue c X.env (eval c X.env);pure (ForInStep.yield ok) else pure (ForInStep.yield r)) (TP X pins σ Q) X.xe s
noncomputable def zif:TT:=fun _ H Q=>Q true H
theorem pf_nil :PF X [] zif:=fun _ _ _ H _ I h=>wpAny_tests_nil ⟨H,I,h⟩
theorem zf9 (h:PT X c t):PF X [c] t:=fun pins s σ H Q I hw=>wpAny_tests_one (h pins s σ H Q I hw)
theorem Vk{prog:Program}{w:World}{A:Around}{R:Result->Shared->Prop}{s:Shared}{e target iter:Expr}{ifs:List Expr}{it acc:Value}{env:Env}{act:Sem Unit}(hlp:∀ (R:Result->Shared->Prop) (s:Shared) (I:Nat->Shared->Prop) (n:Nat),(∀ n s,I n s->wpAny (model prog w) A ((compTurn e 0 it acc env).onRaise (fun x=>do noteFrame x env;theTreesLotGoes x)) (fun fin s'=>match fin with
   |.done f=>R (.ok f) s'
   |.again c'=>c'=Code.compLoop e 0 it acc env/\∃ m,m<n/\I m s') (fun e s'=>R (.error e) s') s)->I n s->codeAny (model prog w) A (.compLoop e 0 it acc env) R s)
  (heq:compTurn e 0 it acc env=(do
   standAt iter.pos
   match<-pyNext it with
   |none=>pure (.done .next)
   |some v=>
    letOwnedTupleGo target it v
    assign target env v
    let mut ok:=true
    for c in ifs do
     if ok then ok<-isTrue c env (eval c env)
    if ok then act
    again (.compLoop e 0 it acc env))) (I:Nat->Shared->Prop)
  (turn:∀ n s,I n s->wpAny (model prog w) A (pyNext it) (fun r s₁=>match r with
   |none=>R (.ok .next) s₁
   |some v=>wpAny (model prog w) A (letOwnedTupleGo target it v) (fun _ s₁=>wpAny (model prog w) A (assign target env v) (fun _ s₂=>
     wpAny (model prog w) A (forIn ifs true fun c r=>if r=true then do let ok<-isTrue c env (eval c env);pure (ForInStep.yield ok) else pure (ForInStep.yield r)) (fun ok s₃=>
      if ok=true then wpAny (model prog w) A act (fun _ s₅=>∃ m,m<n/\I m s₅) (notedBy (model prog w) A env fun e s'=>R (.error e) s') s₃
      else ∃ m,m<n/\I m s₃) (notedBy (model prog w) A env fun e s'=>R (.error e) s') s₂) (notedBy (model prog w) A env fun e s'=>R (.error e) s') s₁) (notedBy (model prog w) A env fun e s'=>R (.error e) s') s₁) (notedBy (model prog w) A env fun e s'=>R (.error e) s') s)
  (n:Nat) (h:I n s):codeAny (model prog w) A (.compLoop e 0 it acc env) R s:=by
 refine hlp R s I n (fun n s hI=>?_) h
 refine wpAny_noted ?_
 rw[heq]
 refine wpAny_bind (wpAny_standAt (wpAny_bind (wpAny_mono (turn n s hI) (fun r s₁ h₁=>?_) fun _ _ f=>f)))
 cases r with
 |none=>exact wpAny_pure h₁
 |some v=>
  refine wpAny_bind (wpAny_mono h₁ (fun _ s₂ h₂=>?_) fun _ _ f=>f)
  refine wpAny_bind (wpAny_mono h₂ (fun _ s₂ h₂=>wpAny_bind (wpAny_mono h₂ (fun ok s₃ h₃=>?_) fun _ _ f=>f)) fun _ _ f=>f)
  cases ok with
  |false=>exact wpAny_pure ⟨rfl,h₃⟩
  |true=>exact wpAny_bind (wpAny_mono h₃ (fun _ s₅ h₅=>wpAny_pure ⟨rfl,h₅⟩) fun _ _ f=>f)
structure Acc(α β:Type) where
 a0:α
 add:α->β->α
 len:α->Nat
 ho:α->HO
noncomputable def zcO{α β:Type}(ac:Acc α β)(k:Nat)(ix:List Nat)(g:TG)(tt:TT)(te:St->Hp->(β->Hp->Prop)->Prop)(σ:St)(J:It)(H1:Hp)(Q:α->Hp->Prop):Prop :=
 ∃ W:Nat->Nat->α->Hp->Prop,(∃ m,W 0 m ac.a0 H1)/\∀ i m ys H,W i m ys H->ac.len ys<sizeLine /\
  ((J.stop i H/\Q ys H)∨(J.go i H/\∃ N:α->Hp->Prop,(∀ ys' H',N ys' H'->∃ m',m'<m/\W (i+1) m' ys' H')/\∀ x H',J.yld i H x H'->g x (cS k ix σ) H' fun σ2 H2=>σ2.drop k=(cS k ix σ).drop k/\tt σ2 H2 fun b H3=>
   if b=true then te σ2 H3 fun y H4=>N (ac.add ys y) H4 else N ys H3))
noncomputable abbrev zcE:Acc (List V) V:=⟨[],fun ys y=>ys++ [y],List.length,.lst⟩
noncomputable def WX(k:Nat)(ix:List Nat)(wi:TI)(g:St->TG)(tt:St->TT)(te:St->TE):TE:=fun σ H Q=>
 wi σ H fun J H1=>zcO zcE k ix (g σ) (tt σ) (te σ) σ J H1 fun ys H2=>∀ p,H2 p=none->Q (.ref p) (upd H2 p (.lst ys))
structure zg8(P:Program)(w:World){α β γ:Type}(ac:Acc α β)(OK:α->Obj->Prop)(RB:β->γ->Prop)(o0:Obj)(na:Sem Value)(st:Addr->γ->Sem Unit):Prop where
 new:∀ (A:Around) (E:Value->Shared->Prop) (s:Shared) (Q:Value->Shared->Prop),Q (.ref s.heap.objs.size) { s with heap:=s.heap.push o0 }->wpAny (model P w) A na Q E s
 z0:OK ac.a0 o0
 live:o0.isFreed=false
 cell:∀ a o,OK a o->∀ v,o.data≠ .cell v
 st:∀ (A:Around) (E:Value->Shared->Prop) (s:Shared) (Q:Unit->Shared->Prop) (D:Addr) (a:α) (o:Obj) (y:β) (b:γ),OK a o->ac.len a<sizeLine->RB y b->s.heap.get? D=some o ->
  (∀ h' o' t',Heap.SameBut D s.heap h'->h'.get? D=some o'->OK (ac.add a y) o'->Q () { s with heap:=h',toks:=t' })->wpAny (model P w) A (st D b) Q E s
 ok:∀ (H:Hp) (h:Heap) (D:Addr) (a:α) (o:Obj),OK a o->ac.len a<=sizeLine->sysModules<D->h.get? D=some o->ObjOk P w H h D (ac.ho a)
noncomputable def PEv(X:Cx){β γ:Type}(RB:β->γ->Prop)(st:Addr->γ->Sem Unit)(act:Addr->Env->Sem Unit)(te:St->Hp->(β->Hp->Prop)->Prop):Prop:=∀ (D:Addr) (pins:List (Addr×Obj)) (s:Shared) (σ:St) (H:Hp) (Q:β->Hp->Prop) (R:Unit->Shared->Prop),Inv X pins σ H s->te σ H Q ->
 (∀ y b s' H',Inv X pins σ H' s'->RB y b->Q y H'->wpAny (model X.prog X.w) X.A (st D b) R X.xe s')->wpAny (model X.prog X.w) X.A (act D X.env) R X.xe s
section
variable {X:Cx}{pins:List (Addr×Obj)}{σ:St}{H:Hp}{s2:Shared}
theorem kF{α β γ:Type}{ac:Acc α β}{OK:α->Obj->Prop}{RB:β->γ->Prop}{o0:Obj}{na:Sem Value}{sto:Addr->γ->Sem Unit}{act:Addr->Env->Sem Unit}{e tg iter:Expr}{ifs:List Expr}{scope:Scope}{N':List Str}{k:Nat}{ix:List Nat}{g:TG}{tt:TT}{te:St->Hp->(β->Hp->Prop)->Prop}{cl:List (Str×Addr)}{it:Addr}{fp:List Addr}{tn:Nat->Heap->Prop}{J:It}
  {Q:α->Hp->Prop} {RR:Value->Addr->Result->Shared->Prop} {E:Value->Shared->Prop} (AK:zg8 X.prog X.w ac OK RB o0 na sto)
  (hlp:∀ (it acc:Value) (env:Env) (R:Result->Shared->Prop) (s:Shared) (I:Nat->Shared->Prop) (n:Nat),(∀ n s,I n s->wpAny (model X.prog X.w) X.A ((compTurn e 0 it acc env).onRaise (fun x=>do noteFrame x env;theTreesLotGoes x)) (fun fin s'=>match fin with
   |.done f=>R (.ok f) s'
   |.again c'=>c'=Code.compLoop e 0 it acc env/\∃ m,m<n/\I m s') (fun e s'=>R (.error e) s') s)->I n s->codeAny (model X.prog X.w) X.A (.compLoop e 0 it acc env) R s)
  (heq:∀ it D env,compTurn e 0 it (.ref D) env=(do
   standAt iter.pos
   match<-pyNext it with
   |none=>pure (.done .next)
   |some v=>
    letOwnedTupleGo tg it v
    assign tg env v
    let mut ok:=true
    for c in ifs do
     if ok then ok<-isTrue c env (eval c env)
    if ok then act D env
    again (.compLoop e 0 it (.ref D) env)))
  (hstart:∀ (R:Result->Shared->Prop) (s:Shared) (it acc:Value) (env:Env),codeAny (model X.prog X.w) X.A (.compLoop e 0 it acc env) R s->wpAny (model X.prog X.w) X.A (pyIter it) (fun it' s'=>codeAny (model X.prog X.w) X.A (.compLoop e 0 it' acc env) R s') (notedBy (model X.prog X.w) X.A env fun x s'=>R (.error x) s') s ->
   codeAny (model X.prog X.w) X.A (.compStart e 0 it acc env) R s) (hcalm:X.calm=true)
  (S:CSc X.env.scope X.N scope N' k ix)
  (hg:∀ cl C s2 H2 fp,Cat X σ C s2 H2 fp->PG (X.comp N' scope cl C s2 H2 fp) tg g) (ht:∀ cl C s2 H2 fp,Cat X σ C s2 H2 fp->PF (X.comp N' scope cl C s2 H2 fp) ifs tt) (he:∀ cl C s2 H2 fp,Cat X σ C s2 H2 fp->PEv (X.comp N' scope cl C s2 H2 fp) RB sto act te)
  (I2:Inv X pins σ H s2) (T:yd X.prog X.w X.K tg J fp it tn) (st2:tn 0 s2.heap) (f2:∀ b∈fp,ZF X pins H b) (hR:zcO ac k ix g tt te σ J H Q)
  (hcl1:∀ x c,cl.lookup x=some c->X.env.cells.lookup x=some c) (hcl2:∀ x,(x,NameKind.free)∈scope.names->∃ c,cl.lookup x=some c)
  (herr:∀ (D C:Addr) (x:Value) (s':Shared),K2 X C x s'->RR (.ref D) C (.error x) s')
  (fin:∀ (D C:Addr) (ys:α) (H5:Hp) (s5:Shared) (m:Str->Option Value),Inv X pins σ (upd H5 D (ac.ho ys)) s5->Q ys H5->H5 D=none->s5.heap.Ns C m->C≠D->s2.heap.objs.size<=C->upd H5 D (ac.ho ys) C=none ->
   RR (.ref D) C (.ok .next) s5) :
  wpAny (model X.prog X.w) X.A na (fun acc s₃=>wpAny (model X.prog X.w) X.A (newFunctionEnv scope X.env.globals cl [] X.env.qual none .none (some X.env)) (fun cenv s₄=>
   codeAny (model X.prog X.w) X.A (.compStart e 0 (.ref it) acc { cenv with scope:=relabel scope X.env }) (RR acc cenv.locals) s₄) E s₃) E s2:=by
 refine AK.new _ _ _ _ (Wn ?_)
 dsimp only
 generalize hH2:s2.heap.push o0=G2
 have hC:G2.objs.size=s2.heap.objs.size+1:=by rw[<- hH2,Heap.size_push]
 have hDC:s2.heap.objs.size≠G2.objs.size:=by rw[hC];exact xr (uI _)
 have hCle:s2.heap.objs.size<=G2.objs.size:=by rw[hC];exact uO _
 have cat:Cat X σ G2.objs.size s2 H fp:=⟨pins,I2,f2,hCle⟩
 have L:=ClOk.of I2 S hcl1 hcl2 (g:=G2) (o:={ cls:=.type "dict",data:=.dict #[] }) hCle
 have below:∀ b,b<s2.heap.objs.size->b≠G2.objs.size/\b≠s2.heap.objs.size:=fun b hb=>⟨by rw[hC];exact xr (uQ hb),xr hb⟩
 have old:∀ b o,s2.heap.get? b=some o->(pushCells (G2.push { cls:=.type "dict",data:=.dict #[] }) scope.names).get? b=some o:=fun b o e=>pushCells_keeps _ _ b o (Heap.get?_push_of_some _ (hH2 ▸ Heap.get?_push_of_some _ e))
 have hacc:(pushCells (G2.push { cls:=.type "dict",data:=.dict #[] }) scope.names).get? s2.heap.objs.size=some o0:=pushCells_keeps _ _ _ _ (Heap.get?_push_of_some _ (hH2 ▸ Heap.get?_push_size _ AK.live))
 have hns₁:(pushCells (G2.push { cls:=.type "dict",data:=.dict #[] }) scope.names).Ns G2.objs.size _:=(Heap.Ns.new G2 (.type "dict")).keeps (pushCells_keeps _ _)
 generalize pushCells (G2.push { cls:=.type "dict",data:=.dict #[] }) scope.names=h₁ at L old hacc hns₁ |-
 generalize cellsFrom (G2.objs.size+1) scope.names cl=cl2 at L |-
 have st1:tn 0 h₁:=T.keep _ _ _ st2 fun b _ o e=>old b o e
 have hfo:∀ b∈fp,∃ o,s2.heap.get? b=some o:=fun b hb=>let ⟨o,e,_⟩:=T.obj _ _ st2 b hb;⟨o,e⟩
 have Ic:Inv (X.comp N' scope cl2 G2.objs.size s2 H fp) [] (cS k ix σ) H { s2 with heap:=h₁ } :=
  I2.child S f2 hfo L hCle old hns₁ rfl I2.bare
 -- the accumulator D,as a pin
 have dfs:s2.heap.objs.size∉(X.comp N' scope cl2 G2.objs.size s2 H fp).fs:=fun hz=>by
  rcases xt.mp (I2.stkSub _ hz)with z | z
  ·exact absurd I2.lt (by rw[<- z];exact uf _)
  ·exact I2.nofs (xh _) z
 have dcell:∀ x c,cl2.lookup x=some c->c≠s2.heap.objs.size:=fun x c e=>by
  rcases L.src x c e with e | e
  ·obtain⟨v,ob,hob,_⟩:=I2.cell x c e
   exact xr (Heap.lt_size hob)
  ·exact Ne.symm (xr (Nat.lt_of_le_of_lt hCle e.1))
 have dpin:∀ (ys:α) (ob:Obj) (σ':St) (H':Hp) (s':Shared),Inv (X.comp N' scope cl2 G2.objs.size s2 H fp) [] σ' H' s'->OK ys ob->s'.heap.get? s2.heap.objs.size=some ob->H' s2.heap.objs.size=none ->
   Inv (X.comp N' scope cl2 G2.objs.size s2 H fp) [(s2.heap.objs.size,ob)] σ' H' s':=fun ys ob σ' H' s' I' ok e hn=>I'.pins_of fun p hp=>by
  have e':p=(s2.heap.objs.size,ob):=by simpa using hp
  subst e'
  exact⟨e,hn,hDC,dfs,fun v z=>AK.cell _ _ ok v z⟩
 have fpc:∀ (ob:Obj) (H':Hp),(∀ b∈fp,H' b=none)->∀ b∈fp,ZF (X.comp N' scope cl2 G2.objs.size s2 H fp) [(s2.heap.objs.size,ob)] H' b:=fun ob H' hn b hb=>by
  obtain⟨f0,f1,f2',f3,f4,f5⟩:=f2 b hb
  obtain⟨o,e⟩:=hfo b hb
  have hb2:=below b (Heap.lt_size e)
  refine⟨hn b hb,hb2.1,fun hz=>?_,.inl hb,fun x c z=>?_,fun p hp=>?_⟩
  ·rcases xt.mp (I2.stkSub b hz)with z | z
   ·exact f1 z
   ·exact f2' z
  ·rcases L.src x c z with z | z
   ·exact f4 x c z
   ·exact Ne.symm (xr (Nat.lt_trans (xv (Heap.lt_size e) hCle) z.1))
  ·have e':p=(s2.heap.objs.size,ob):=by simpa using hp
   subst e'
   exact Ne.symm hb2.2
 obtain⟨W,⟨m0,w0⟩,turn⟩:=hR
 have loop:codeAny (model X.prog X.w) X.A (.compLoop e 0 (.ref it) (.ref s2.heap.objs.size) (compEnvC scope cl2 G2.objs.size X.env)) (RR (.ref s2.heap.objs.size) G2.objs.size)
   { s2 with heap:=h₁ }:=by
  have hxe:∀ x s',(X.comp N' scope cl2 G2.objs.size s2 H fp).xe x s'->notedBy (model X.prog X.w) X.A (compEnvC scope cl2 G2.objs.size X.env) (fun e s'=>RR (.ref s2.heap.objs.size) G2.objs.size (.error e) s') x s':=fun x s' h=>
   wpAny_mono h (fun _ s'' q=>herr _ _ _ _ q) fun _ s'' q=>herr _ _ _ _ q
  have thnX:∀ {τ:Type} {m:Sem τ} {Q1:τ->Shared->Prop} {Q2:τ->Shared->Prop} {s':Shared},wpAny (model X.prog X.w) X.A m Q1 (X.comp N' scope cl2 G2.objs.size s2 H fp).xe s'->(∀ v s'',Q1 v s''->Q2 v s'')->wpAny (model X.prog X.w) X.A m Q2 (notedBy (model X.prog X.w) X.A (compEnvC scope cl2 G2.objs.size X.env) (fun e s'=>RR (.ref s2.heap.objs.size) G2.objs.size (.error e) s')) s':=fun h k=>wpAny_mono h k hxe
  refine Vk (hlp _ _ _) (heq _ _ _) (fun n s'=>∃ i ys ob H',Inv (X.comp N' scope cl2 G2.objs.size s2 H fp) [(s2.heap.objs.size,ob)] (cS k ix σ) H' s'/\OK ys ob/\tn i s'.heap/\(∀ b∈fp,H' b=none)/\W i n ys H') ?_ m0
   ⟨0,_,o0,H,dpin _ _ _ _ _ Ic AK.z0 hacc (I2.hok.fresh (xh _)),AK.z0,st1,fun b hb=>(f2 b hb).1,w0⟩
  rintro n s3 ⟨i,ys,ob,H3,I3,rv,st3,fr3,w3⟩
  obtain⟨hlen,hw⟩:=turn i n ys H3 w3
  have hDn:H3 s2.heap.objs.size=none:=(I3.pin (s2.heap.objs.size,ob) (by simp)).2.1
  have hDe:s3.heap.get? s2.heap.objs.size=some ob:=(I3.pin (s2.heap.objs.size,ob) (by simp)).1
  rcases hw with ⟨stop,q⟩ | ⟨go,N,hN,step⟩
  ·refine thn (T.done (X.comp N' scope cl2 G2.objs.size s2 H fp) rfl rfl rfl hcalm i _ s3 _ H3 _ I3 (fpc _ _ fr3) st3 stop) fun r s4 ⟨hr,I4⟩=>?_
   subst hr
   have hDe4:s4.heap.get? s2.heap.objs.size=some ob:=(I4.pin (s2.heap.objs.size,ob) (by simp)).1
   have Ib:Inv X pins σ H3 s4:=I2.back f2 I4
   have hz:ac.len ys<=sizeLine:=uv hlen
   obtain⟨m',hn',_⟩:=I4.loc
   have It:Inv X pins σ (upd H3 s2.heap.objs.size (ac.ho ys)) s4:=Ib.track I2.sz hDn (Ne.symm (xr I2.lt)) (fun x c e=>by
    obtain⟨v,ob,hob,_⟩:=I2.cell x c e
    exact xr (Heap.lt_size hob)) (fun p hp=>xr (Heap.lt_size (I2.pin p hp).1)) (AK.ok _ _ _ _ _ rv hz I2.big hDe4)
   exact fin _ _ ys H3 s4 m' It q hDn hn' (Ne.symm hDC) hCle (by rw[zg (Ne.symm hDC)];exact I4.free)
  ·refine thn (T.item (X.comp N' scope cl2 G2.objs.size s2 H fp) rfl rfl rfl hcalm i _ s3 _ H3 _ I3 (fpc _ _ fr3) st3 go) fun r s4 ⟨u,hr,h4⟩=>?_
   subst hr
   refine thn h4 fun _ s5 ⟨x,H5,I5,r5,y5,st5,fr5⟩=>?_
   have I5':=I5.pinned (fpc ob H5 fr5) (T.obj _ _ st5)
   refine thnX (hg _ _ _ _ _ cat _ s5 _ H5 x u _ I5' r5 (step x H5 y5)) fun _ s6 ⟨σ6,H6,I6,hσ,q6⟩=>?_
   refine thnX (ht _ _ _ _ _ cat _ s6 σ6 H6 _ I6 q6) fun ok s7 ⟨H7,I7,q7⟩=>?_
   have wk:∀ {pl:List (Addr×Obj)} {H':Hp} {s':Shared},Inv (X.comp N' scope cl2 G2.objs.size s2 H fp) pl σ6 H' s'->Inv (X.comp N' scope cl2 G2.objs.size s2 H fp) pl (cS k ix σ) H' s':=fun {pl H' s'} I'=>
    I'.weak (by rw[Ic.len,I'.len]) fun j v ev=>by
     by_cases hj:j<k
     ·unfold cS at ev
      rw[xc (by simpa using hj),xU,if_pos hj]at ev
      cases ev
     ·obtain⟨j',rfl⟩:∃ j',j=k+j':=⟨j-k,by omega⟩
      rw[<- List.getElem?_drop,hσ,List.getElem?_drop]
      exact ev
   have itk:∀ {σ':St} {H':Hp} {s':Shared},Inv (X.comp N' scope cl2 G2.objs.size s2 H fp) ([(s2.heap.objs.size,ob)]++QW fp s5.heap) σ' H' s'->tn (i+1) s'.heap/\∀ b∈fp,H' b=none:=fun {σ' H' s'} I'=>
    ⟨T.keep _ _ _ st5 fun b hb o e=>(I'.pin (b,o) (xF _ (xF _ (jH hb e)))).1,fun b hb=>by
     obtain⟨o,e,_⟩:=T.obj _ _ st5 b hb
     exact (I'.pin (b,o) (xF _ (xF _ (jH hb e)))).2.1⟩
   cases ok with
   |false=>
    rw[if_neg (by decide)]at q7 |-
    obtain⟨m',hm,w7⟩:=hN _ _ q7
    obtain⟨t7,f7⟩:=itk I7
    exact⟨m',hm,i+1,ys,ob,H7,wk I7.unpinned,rv,t7,f7,w7⟩
   |true=>
    rw[if_pos rfl]at q7 |-
    refine thnX (he _ _ _ _ _ cat s2.heap.objs.size _ s7 σ6 H7 _ _ I7 q7 fun y b s8 H8 I8 r8 n8q=>?_) fun _ _ q=>q
    obtain⟨m',hm,w8⟩:=hN _ _ n8q
    obtain⟨t8,f8⟩:=itk I8
    have I8':Inv (X.comp N' scope cl2 G2.objs.size s2 H fp) [(s2.heap.objs.size,ob)] σ6 H8 s8:=I8.unpinned
    have e8:s8.heap.get? s2.heap.objs.size=some ob:=(I8'.pin (s2.heap.objs.size,ob) (by simp)).1
    have n8:H8 s2.heap.objs.size=none:=(I8'.pin (s2.heap.objs.size,ob) (by simp)).2.1
    refine AK.st _ _ s8 _ _ ys ob y b rv hlen r8 e8 fun h' o' t' sb e9 ok9=>?_
    have I8n:Inv (X.comp N' scope cl2 G2.objs.size s2 H fp) [] σ6 H8 s8:=I8'.pins_of fun p hp=>by cases hp
    have I9:Inv (X.comp N' scope cl2 G2.objs.size s2 H fp) [] σ6 H8 { s8 with heap:=h',toks:=t' } :=
     I8n.turned (t':=t') (fun b o hb e=>(sb.2 b hb).trans e) n8 hDC (.inr (xh _)) (fun x c e=>dcell x c e) (fun p hp=>by cases hp)
    refine⟨m',hm,i+1,_,o',H8,wk (dpin _ _ _ _ _ I9 ok9 e9 n8),ok9,?_,f8,w8⟩
    exact T.keep _ _ _ t8 fun b hb o e=>(sb.2 b (by
     obtain⟨o',e'⟩:=hfo b hb
     exact (below b (Heap.lt_size e')).2)).trans e
 exact hstart _ _ _ _ _ loop (T.self X.A 0 _ _ _ st1 loop)
noncomputable abbrev zhE (ys:List Value) (n:Nat):Obj:={ cls:=.type "list",data:=.seq ys.toArray n }
theorem ke :zg8 P w zcE (fun ys o=>∃ its n,Vals ys its/\o=zhE its n) RelV (zhE [] 0) (newList []) (fun D b=>do let _<-call (.builtin "list.append") [.ref D,b]) where
 new A E s Q h:=wpAny_newObj_type h
 z0:=⟨[],0,.nil,rfl⟩
 live:=rfl
 cell a o h v z:=by
  obtain⟨its,n,_,rfl⟩:=h
  cases z
 st A E s Q D a o y b h hl r e k:=by
  obtain⟨its,n,rv,rfl⟩:=h
  refine wpAny_bind (call_meets F.slot_list_append ⟨_,e,rfl⟩ F.entry_list_append (F.args_list_append_2 _ _) (PySem.list_append D its.toArray n b (by
   have:=rv.length
   have hl':a.length<sizeLine:=hl
   rw[xu];omega)) ⟨e,wpAny_pure ?_⟩)
  have q9:=PySem.IsL.update e (·.push b)
  rw[show its.toArray.push b=(its++ [b]).toArray by simp]at q9
  exact k _ _ _ ⟨by simp[Heap.update],fun c hc=>Heap.get?_update_other s.heap _ (Ne.symm hc)⟩ q9 ⟨its++ [b],_,rv.append (.cons r .nil),rfl⟩
 ok H h D a o hk hz _ e:=by
  obtain⟨its,n,rv,rfl⟩:=hk
  exact⟨hz,its,n,rv,e⟩
theorem wc{X:Cx}{scope:Scope}(I:Inv X pins σ H s)(S:CSc X.env.scope X.N scope N' k ix) :
  ∃ cl,closureFor scope X.env=pure cl/\(∀ x c,cl.lookup x=some c->X.env.cells.lookup x=some c)/\(∀ x,(x,NameKind.free)∈scope.names->∃ c,cl.lookup x=some c) :=
 ym fun y hy e=>by
  rcases S.fre y hy e with z | z
  ·exact I.ok.has _ (.inl z)
  ·exact I.ok.has _ (.inr z)
theorem Inv.letgo {s5:Shared}{C:Addr}{h':Heap}(I2:Inv X pins σ H s2)(I5:Inv X pins σ5 H5 s5)(hCs:s2.heap.objs.size<=C)(hCn:H5 C=none)(hs:∀ b,b≠C->h'.get? b=s5.heap.get? b):Inv X pins σ5 H5 { s5 with heap:=h' } :=
 I5.turned (t':=s5.toks) (it:=C) (fun b o hb e=>(hs b hb).trans e) hCn (Ne.symm (xr (xv I2.lt hCs))) (.inr (xH I2.sz hCs))
  (fun x c e=>by
   obtain⟨v,ob,hob,_⟩:=I2.cell x c e
   exact xr (xv (Heap.lt_size hob) hCs))
  (fun p hp=>xr (xv (Heap.lt_size (I2.pin p hp).1) hCs))
end
section
variable {X:Cx}{elt tg iter:Expr}{ifs:List Expr}{scope:Scope}{pos:Pos}{N':List Str}{k:Nat}{ix:List Nat}{g:St->TG}{tt:St->TT}{te:St->TE}{wi:TI}
theorem y4{it:Value}{D:Addr}:compTurn (.ListComp elt [⟨tg,iter,ifs,0⟩] scope pos) 0 it (.ref D) env=(do
   standAt iter.pos
   match<-pyNext it with
   |none=>pure (.done .next)
   |some v=>
    letOwnedTupleGo tg it v
    assign tg env v
    let mut ok:=true
    for c in ifs do
     if ok then ok<-isTrue c env (eval c env)
    if ok then (do let _<-call (.builtin "list.append") [.ref D,<- eval elt env])
    again (.compLoop (.ListComp elt [⟨tg,iter,ifs,0⟩] scope pos) 0 it (.ref D) env)):=compTurn_list elt tg iter ifs scope pos it (.ref D) env
theorem zbp {X:Cx}{te:TE}(he:PE X elt te):PEv X RelV (fun D b=>do let _<-call (.builtin "list.append") [.ref D,b]) (fun D env=>do let _<-call (.builtin "list.append") [.ref D,<- eval elt env]) te:=fun D pins s σ H Q R I h k=>
 wpAny_bind (wpAny_mono (he pins s σ H Q I h) (fun b s' ⟨y,H',I',r,q⟩=>k y b s' H' I' r q) fun _ _ z=>z)
theorem WE(hcalm:X.calm=true)(S:CSc X.env.scope X.N scope N' k ix)
     {s2:Shared} {cl:List (Str×Addr)} {it:Addr}    {Q:List V->Hp->Prop} {RR:Value->Addr->Result->Shared->Prop} 
  (hg:∀ cl C s2 H2 fp,Cat X σ C s2 H2 fp->PG (X.comp N' scope cl C s2 H2 fp) tg (g σ)) (ht:∀ cl C s2 H2 fp,Cat X σ C s2 H2 fp->PF (X.comp N' scope cl C s2 H2 fp) ifs (tt σ)) (he:∀ cl C s2 H2 fp,Cat X σ C s2 H2 fp->PE (X.comp N' scope cl C s2 H2 fp) elt (te σ))
  (I2:Inv X pins σ H s2) (T:yd X.prog X.w X.K tg J fp it tn) (st2:tn 0 s2.heap) (f2:∀ b∈fp,ZF X pins H b) (hR:zcO zcE k ix (g σ) (tt σ) (te σ) σ J H Q)
  (hcl1:∀ x c,cl.lookup x=some c->X.env.cells.lookup x=some c) (hcl2:∀ x,(x,NameKind.free)∈scope.names->∃ c,cl.lookup x=some c)
  (herr:∀ (D C:Addr) (x:Value) (s':Shared),K2 X C x s'->RR (.ref D) C (.error x) s')
  (fin:∀ (D C:Addr) (ys:List V) (H5:Hp) (s5:Shared) (m:Str->Option Value),Inv X pins σ (upd H5 D (.lst ys)) s5->Q ys H5->H5 D=none->s5.heap.Ns C m->C≠D->s2.heap.objs.size<=C->upd H5 D (.lst ys) C=none->RR (.ref D) C (.ok .next) s5) :
  wpAny (model X.prog X.w) X.A (newList []) (fun acc s₃=>wpAny (model X.prog X.w) X.A (newFunctionEnv scope X.env.globals cl [] X.env.qual none .none (some X.env)) (fun cenv s₄=>
   codeAny (model X.prog X.w) X.A (.compStart (.ListComp elt [⟨tg,iter,ifs,0⟩] scope pos) 0 (.ref it) acc { cenv with scope:=relabel scope X.env }) (RR acc cenv.locals) s₄) E s₃) E s2 :=
 kF ke (act:=fun D env=>do let _<-call (.builtin "list.append") [.ref D,<- eval elt env]) (fun it acc env R s I n h h0=>codeAny_loop rfl I h n h0) (fun _ _ _=>y4) (fun R s it acc env h0 h=>codeAny_compStart_list h0 h) hcalm S hg ht (fun cl C s2 H2 fp c=>zbp (he cl C s2 H2 fp c)) I2 T st2 f2 hR hcl1 hcl2 herr fin
theorem zdx(hcalm:X.calm=true)(S:CSc X.env.scope X.N scope N' k ix)(hi:PI X tg iter wi)
  (hg:∀ σ cl C s2 H2 fp,Cat X σ C s2 H2 fp->PG (X.comp N' scope cl C s2 H2 fp) tg (g σ)) (ht:∀ σ cl C s2 H2 fp,Cat X σ C s2 H2 fp->PF (X.comp N' scope cl C s2 H2 fp) ifs (tt σ)) (he:∀ σ cl C s2 H2 fp,Cat X σ C s2 H2 fp->PE (X.comp N' scope cl C s2 H2 fp) elt (te σ))
  (hs:∀ x,foldedSetIterable iter X.env x=pure x:=by intro _;rfl):PE X (.ListComp elt [⟨tg,iter,ifs,0⟩] scope pos) (WX k ix wi g tt te):=by
 intro pins s σ H Q I h
 obtain⟨cl,ecl,hcl1,hcl2⟩:=wc I S
 rw[eval_ListComp]
 refine wpAny_comprehension_free (use:=none) rfl hs ecl S.kind S.loc (thn (hi pins s σ H _ I h) fun v s1 h1=>thn h1 fun itv s2 h2=>?_)
 obtain⟨it,fp,tn,J,H2,e,I2,T,st2,f2,hR⟩:=h2
 subst e
 refine WE (RR:=fun acc C=>compPost (model X.prog X.w) X.A X.xe none (EP X pins σ Q) acc C) hcalm S (hg σ) (ht σ) (he σ) I2 T st2 f2 hR hcl1 hcl2 (fun D C x s' h=>h) ?_
 intro D C ys H5 s5 m I5 q hD hn hCD hCs hCn
 exact⟨m,hn,fun h' hs'=>⟨.ref D,upd H5 D (.lst ys),I2.letgo I5 hCs hCn hs'.2,rfl,q D hD⟩⟩
theorem zdB{i:Nat}{pos' spos:Pos}(hN:X.N.Nodup)(hi':X.N[i]?=some x)(hx:Loc X.env.scope x)(hcalm:X.calm=true)(S:CSc X.env.scope X.N scope N' k ix)(hi:PI X tg iter wi)
  (hg:∀ σ cl C s2 H2 fp,Cat X σ C s2 H2 fp->PG (X.comp N' scope cl C s2 H2 fp) tg (g σ)) (ht:∀ σ cl C s2 H2 fp,Cat X σ C s2 H2 fp->PF (X.comp N' scope cl C s2 H2 fp) ifs (tt σ)) (he:∀ σ cl C s2 H2 fp,Cat X σ C s2 H2 fp->PE (X.comp N' scope cl C s2 H2 fp) elt (te σ))
  (hsw:swapsWith (.ListComp elt [⟨tg,iter,ifs,0⟩] scope pos) (some (.Name x pos')) spos.line X.env=pure true)
  (hs:∀ x,foldedSetIterable iter X.env x=pure x:=by intro _;rfl) (hf:X.fn x=true∨X.env.scope.names.lookup x=some .local:=by first | exact .inl rfl | exact .inr rfl | assumption) :
  PS X (.Assign [.Name x pos'] (.ListComp elt [⟨tg,iter,ifs,0⟩] scope pos) spos) (yZ (WX k ix wi g tt te) (Vv i)):=by
 intro pins s σ H D' I h
 obtain⟨cl,ecl,hcl1,hcl2⟩:=wc I S
 rw[exec_Assign_Name_used _ _ _ _ hsw]
 refine wpAny_bind (wpAny_standAt (wpAny_bind ?_))
 show wpAny _ X.A (do let _<-comprehension (.ListComp elt [⟨tg,iter,ifs,0⟩] scope pos) scope X.env _ (newList []) false (eval iter X.env) (some (assign (.Name x pos') X.env))) _ _ s
 refine wpAny_bind (wpAny_mono (wpAny_comprehension_free (use:=some (assign (.Name x pos') X.env)) (Q:=fun _ s'=>SP X pins D' .next s') rfl hs ecl S.kind S.loc
  (thn (hi pins s σ H _ I h) fun v s1 h1=>thn h1 fun itv s2 h2=>?_)) (fun _ s' hq=>wpAny_pure (wpAny_pure hq)) fun _ _ e=>e)
 obtain⟨it,fp,tn,J,H2,e,I2,T,st2,f2,hR⟩:=h2
 subst e
 refine WE (RR:=fun acc C=>compPost (model X.prog X.w) X.A X.xe (some (assign (.Name x pos') X.env)) (fun _ s'=>SP X pins D' .next s') acc C) hcalm S (hg σ) (ht σ) (he σ) I2 T st2 f2 hR hcl1 hcl2 (fun D C x s' h=>h) ?_
 intro D C ys H5 s5 m I5 q hD hn hCD hCs hCn
 show wpAny _ X.A (assign (.Name x pos') X.env (.ref D)) _ _ s5
 refine wpAny_assign_Name (WU (v:=.ref D) I5 hN hi' hx rfl (fun s' I' ⟨a,sb,ha⟩=>?_) hf)
 have hCa:C≠a:=by
  rcases ha with rfl | ha
  ·exact Ne.symm (xr (xv I2.lt hCs))
  ·obtain⟨v,ob,hob,_⟩:=I2.cell x a ha
   exact Ne.symm (xr (xv (Heap.lt_size hob) hCs))
 exact⟨m,hn.sameBut sb hCa,fun h' hs'=>⟨_,_,I2.letgo I' hCs hCn hs'.2,q D hD⟩⟩
end
section
end
class Cs where
 adr:Str->Addr
variable [Cs]
noncomputable def kK(p:Str×V):Key×V:=(.inr p.1,p.2)
noncomputable def dK(p:Str×PyData):PyData×PyData:=(.str p.1,p.2)
mutual
/-- the value v stands for the data d;no list of it lies in M -/
inductive Rep(M:Addr->Prop)(H:Hp):V->PyData->Prop
 |none:Rep M H .non .none
 |bool (b:Bool):Rep M H (.bl b) (.bool b)
 |int (i:Int):Rep M H (.int i) (.int i)
 |str (x:Str):Rep M H (.str x) (.str x)
 |list {a:Addr} {vs:List V} {ds:List PyData}:H a=some (.lst vs)->¬ M a->RepL M H vs ds->Rep M H (.ref a) (.list ds)
 |tuple {a:Addr} {vs:List V} {ds:List PyData}:H a=some (.tup vs)->RepL M H vs ds->Rep M H (.ref a) (.tuple ds)
 |dict {a:Addr} {kvs:List (Str×V)} {ds:List (Str×PyData)}:Rd H a (.dK (kvs.map kK))->¬ M a->kvs.map (·.1)=ds.map (·.1)->RepL M H (kvs.map (·.2)) (ds.map (·.2))->Rep M H (.ref a) (.dict (ds.map dK))
 |inst {a dx:Addr} {c:Str} {fs:List (Str×V)} {ds:List (Str×PyData)}:H a=some (.ins (Cs.adr c) dx fs)->¬ M a->fs.map (·.1)=ds.map (·.1)->RepL M H (fs.map (·.2)) (ds.map (·.2))->Rep M H (.ref a) (.dict ((.none,.str c)::ds.map dK))
inductive RepL(M:Addr->Prop)(H:Hp):List V->List PyData->Prop
 |nil:RepL M H [] []
 |cons {v:V} {vs:List V} {d:PyData} {ds:List PyData}:Rep M H v d->RepL M H vs ds->RepL M H (v::vs) (d::ds)
end
noncomputable def zhg(M:Addr->Prop)(H H':Hp):Prop:=∀ b o,¬ M b->H b=some o->H' b=some o
noncomputable def TupM(H H':Hp):Prop:=∀ b xs,H b=some (.tup xs)->H' b=some (.tup xs)
structure ze1(M:Addr->Prop)(H H':Hp):Prop where
 same:zhg M H H'
 tups:TupM H H'
 stay:∀ b,H b≠none->H' b≠none
theorem Same.grow (s:Same H H'):ze1 M H H' :=
 ⟨fun b o _ e=>s b o e,fun b xs e=>s b _ e,fun b h=>by
  cases q:H b with
  |none=>exact absurd q h
  |some o=>rw[s b o q];exact fun z=>nomatch z⟩
mutual
theorem Rep.grow (g:ze1 M H H'):∀ {v:V}{d:PyData},Rep M H v d->Rep M H' v d
 |_,_,.none=>.none
 |_,_,.bool b=>.bool b
 |_,_,.int i=>.int i
 |_,_,.str x=>.str x
 |_,_,.list e n r=>.list (g.same _ _ n e) n (RepL.grow g r)
 |_,_,.tuple e r=>.tuple (g.tups _ _ e) (RepL.grow g r)
 |_,_,.dict e n k r=>.dict (e.imp (g.same _ _ n) fun ⟨o,z⟩=>⟨o,g.same _ _ n z⟩) n k (RepL.grow g r)
 |_,_,.inst e n k r=>.inst (g.same _ _ n e) n k (RepL.grow g r)
theorem RepL.grow (g:ze1 M H H'):∀ {vs:List V}{ds:List PyData},RepL M H vs ds->RepL M H' vs ds
 |_,_,.nil=>.nil
 |_,_,.cons r t=>.cons (Rep.grow g r) (RepL.grow g t)
end
mutual
/-- fewer addresses may change;or one more that is not there -/
theorem Rep.less (g:∀ b,M' b->H b≠none->M b):∀ {v:V}{d:PyData},Rep M H v d->Rep M' H v d
 |_,_,.none=>.none
 |_,_,.bool b=>.bool b
 |_,_,.int i=>.int i
 |_,_,.str x=>.str x
 |_,_,.list e n r=>.list e (fun z=>n (g _ z (by rw[e];exact fun z=>nomatch z))) (RepL.less g r)
 |_,_,.tuple e r=>.tuple e (RepL.less g r)
 |_,_,.dict e n k r=>.dict e (fun z=>n (g _ z (by rcases e with e | ⟨o,e⟩<;>rw[e]<;>exact fun z=>nomatch z))) k (RepL.less g r)
 |_,_,.inst e n k r=>.inst e (fun z=>n (g _ z (by rw[e];exact fun z=>nomatch z))) k (RepL.less g r)
theorem RepL.less (g:∀ b,M' b->H b≠none->M b):∀ {vs:List V}{ds:List PyData},RepL M H vs ds->RepL M' H vs ds
 |_,_,.nil=>.nil
 |_,_,.cons r t=>.cons (Rep.less g r) (RepL.less g t)
end
theorem RepL.length :∀ {vs:List V}{ds:List PyData},RepL M H vs ds->vs.length=ds.length
 |_,_,.nil=>rfl
 |_,_,.cons _ t=>by rw[xn,xn,RepL.length t]
theorem RepL.append :∀ {vs ws:List V}{ds es:List PyData},RepL M H vs ds->RepL M H ws es->RepL M H (vs++ws) (ds++es)
 |_,_,_,_,.nil,s=>s
 |_,_,_,_,.cons r t,s=>.cons r (RepL.append t s)
theorem RepL.get :∀ {vs:List V}{ds:List PyData}{i:Nat}{v:V},RepL M H vs ds->vs[i]?=some v->∃ d,ds[i]?=some d/\Rep M H v d
 |_,_,_,_,.nil,e=>by simp at e
 |_,_,0,_,.cons r _,e=>by simp at e;subst e;exact⟨_,rfl,r⟩
 |_,_,i+1,v,.cons _ t,e=>by
  obtain⟨u,h1,h2⟩:=RepL.get (i:=i) (v:=v) t (by simpa using e)
  exact⟨u,by simpa using h1,h2⟩
theorem RepL.get' {i:Nat}(r:RepL M H vs ds)(e:ds[i]?=some d):∃ v,vs[i]?=some v/\Rep M H v d:=by
 have hl:=r.length
 have hi:i<vs.length:=by rw[hl];exact (xb.mp e).1
 obtain⟨d',e',r'⟩:=r.get (i:=i) (v:=vs[i]) (by simp[hi])
 rw[e]at e';cases e'
 exact⟨vs[i],by simp[hi],r'⟩
theorem RepL.ints :∀ (ns:List Int),RepL M H (ns.map V.int) (ns.map PyData.int)
 |[]=>.nil
 |n::ns=>.cons (.int n) (RepL.ints ns)
mutual
theorem Rep.reads (ok:HOk P w H h):∀ {v:V}{d:PyData}{u:Value},Rep M H v d->d.canLay0=true->RelV v u->∃ as,Reads h u d as
 |_,_,_,.none,_,r=>by cases (show _=Value.none from r);exact⟨_,.none⟩
 |_,_,_,.bool b,_,r=>by cases (show _=Value.bool b from r);exact⟨_,.bool b⟩
 |_,_,_,.int i,_,r=>by obtain⟨t,e⟩:=(show ∃ t,_=Value.int i t from r);cases e;exact⟨_,.int i t⟩
 |_,_,_,.str x,_,r=>by obtain⟨t,e⟩:=(show ∃ t,_=Value.str x t from r);cases e;exact⟨_,.str x t⟩
 |_,_,_,.list (a:=a) (vs:=vs) e n q,l,r=>by
  cases (show _=Value.ref a from r)
  obtain⟨_,its,c,rv,ho⟩:=(show ObjOk P w H h a (.lst vs) from ok a _ e)
  obtain⟨as,z⟩:=RepL.reads ok q l rv
  exact⟨_,.list ho rfl rfl (by simpa using z)⟩
 |_,_,_,.tuple (a:=a) (vs:=vs) e q,l,r=>by
  cases (show _=Value.ref a from r)
  obtain⟨_,its,rv,o,ho,hc,c,hd⟩:=(show ObjOk P w H h a (.tup vs) from ok a _ e)
  obtain⟨as,z⟩:=RepL.reads ok q l rv
  exact⟨_,.tuple ho hc hd (by simpa using z)⟩
 |_,_,_,.dict e n k q,l,r=>by cases l
 |_,_,_,.inst e n k q,l,r=>by cases l
theorem RepL.reads (ok:HOk P w H h):∀ {vs:List V}{ds:List PyData}{us:List Value},RepL M H vs ds->PyData.canLayAll0 ds=true->Vals vs us->∃ as,ReadsAll h us ds as
 |_,_,_,.nil,_,r=>by cases r;exact⟨_,.nil⟩
 |_,_,_,.cons q t,l,r=>by
  have l':=xQ.mp l
  cases r with
  |cons r rs=>
   obtain⟨as,z⟩:=Rep.reads ok q l'.1 r
   obtain⟨bs,y⟩:=RepL.reads ok t l'.2 rs
   exact⟨_,.cons z y⟩
end
section
variable (X:Cx)
noncomputable def wpE(e:Expr):TE:=fun σ H Q=>∀ (pins:List (Addr×Obj)) (s:Shared),Inv X pins σ H s->wpAny (model X.prog X.w) X.A (eval e X.env) (EP X pins σ Q) X.xe s
noncomputable def wpT(e:Expr):TT:=fun σ H Q=>∀ (pins:List (Addr×Obj)) (s:Shared),Inv X pins σ H s->wpAny (model X.prog X.w) X.A (isTrue e X.env (eval e X.env)) (TP X pins σ Q) X.xe s
noncomputable def wpW(e:Expr):TT:=fun σ H Q=>∀ (whole:Sem Value) (pins:List (Addr×Obj)) (s:Shared),Inv X pins σ H s->wpAny (model X.prog X.w) X.A (isTrue e X.env whole) (TP X pins σ Q) X.xe s
noncomputable def wpA(es:List Expr):TA:=fun σ H Q=>∀ (pos:Pos) (pins:List (Addr×Obj)) (s:Shared),Inv X pins σ H s->wpAny (model X.prog X.w) X.A (spliced (backTo pos (starEach es X.env))) (AP X pins σ Q) X.xe s
noncomputable def wpS(st:Stmt):TS:=fun D σ H=>∀ (pins:List (Addr×Obj)) (s:Shared),Inv X pins σ H s->wpAny (model X.prog X.w) X.A (exec st X.env) (SP X pins D) X.xe s
noncomputable def wpB(st:List Stmt):TS:=fun D σ H=>∀ (pins:List (Addr×Obj)) (s:Shared),Inv X pins σ H s->wpAny (model X.prog X.w) X.A (execs st X.env) (SP X pins D) X.xe s
noncomputable def wpG(tg:Expr):TG:=fun v σ H Q=>∀ (pins:List (Addr×Obj)) (s:Shared) (u:Value),Inv X pins σ H s->RelV v u->wpAny (model X.prog X.w) X.A (assign tg X.env u) (fun _ s'=>∃ σ' H',Inv X pins σ' H' s'/\Q σ' H') X.xe s
noncomputable def wpF(ifs:List Expr):TT:=fun σ H Q=>∀ (pins:List (Addr×Obj)) (s:Shared),Inv X pins σ H s ->
 wpAny (model X.prog X.w) X.A (forIn ifs true fun c r=>if r=true then do let ok<-isTrue c X.env (eval c X.env);pure (ForInStep.yield ok) else pure (ForInStep.yield r)) (TP X pins σ Q) X.xe s
noncomputable def wpI(tg iter:Expr):TI:=fun σ H R=>∀ (pins:List (Addr×Obj)) (s:Shared),Inv X pins σ H s ->
  wpAny (model X.prog X.w) X.A (eval iter X.env) (fun v s1=>wpAny (model X.prog X.w) X.A (pyIter v) (PIE X pins σ tg R) X.xe s1) X.xe s
end
section
variable {X:Cx}{e:Expr}{es:List Expr}{st:Stmt}{sts:List Stmt}{tg iter:Expr}{σ:St}{H:Hp}
theorem ze:PE X e (wpE X e):=fun pins s σ H Q I h=>h pins s I
theorem qR:PT X e (wpT X e):=fun pins s σ H Q I h=>h pins s I
theorem YS:PW X e (wpW X e):=fun wh pins s σ H Q I h=>h wh pins s I
theorem ji:PA X es (wpA X es):=fun pos pins s σ H Q I h=>h pos pins s I
theorem vJ:PS X st (wpS X st):=fun pins s σ H D I h=>h pins s I
theorem qj:PSs X sts (wpB X sts):=fun pins s σ H D I h=>h pins s I
theorem vE:PG X tg (wpG X tg):=fun pins s σ H v u Q I r h=>h pins s u I r
theorem vF:PI X tg iter (wpI X tg iter):=fun pins s σ H R I h=>h pins s I
theorem PE.wp {Q:VK}(h:PE X e t)(q:t σ H Q):wpE X e σ H Q:=fun pins s I=>h pins s σ H Q I q
theorem PT.wp {Q:Bool->Hp->Prop}(h:PT X e t)(q:t σ H Q):wpT X e σ H Q:=fun pins s I=>h pins s σ H Q I q
theorem PW.wp {Q:Bool->Hp->Prop}(h:PW X e t)(q:t σ H Q):wpW X e σ H Q:=fun wh pins s I=>h wh pins s σ H Q I q
theorem PA.wp {Q:List V->Hp->Prop}(h:PA X es t)(q:t σ H Q):wpA X es σ H Q:=fun pos pins s I=>h pos pins s σ H Q I q
theorem PS.wp {D:qJ}(h:PS X st t)(q:t D σ H):wpS X st D σ H:=fun pins s I=>h pins s σ H D I q
theorem PSs.wp {D:qJ}(h:PSs X sts t)(q:t D σ H):wpB X sts D σ H:=fun pins s I=>h pins s σ H D I q
theorem PG.wp {Q:St->Hp->Prop}(h:PG X tg t)(q:t v σ H Q):wpG X tg v σ H Q:=fun pins s u I r=>h pins s σ H v u Q I r q
theorem PF.wp {Q:Bool->Hp->Prop}(h:PF X ifs t)(q:t σ H Q):wpF X ifs σ H Q:=fun pins s I=>h pins s σ H Q I q
theorem PI.wp {R:It->Hp->Prop}(h:PI X tg iter t)(q:t σ H R):wpI X tg iter σ H R:=fun pins s I=>h pins s σ H R I q
theorem wpE.mono{Q Q':VK}(h:wpE X e σ H Q)(k:∀ v H',Q v H'->Q' v H'):wpE X e σ H Q':=fun pins s I=>thn (h pins s I) fun u s' ⟨v,H',a,b,c⟩=>⟨v,H',a,b,k v H' c⟩
theorem wpA.mono{Q Q':List V->Hp->Prop}(h:wpA X es σ H Q)(k:∀ v H',Q v H'->Q' v H'):wpA X es σ H Q':=fun pos pins s I=>thn (h pos pins s I) fun u s' ⟨v,H',a,b,c⟩=>⟨v,H',a,b,k v H' c⟩
end
noncomputable def Al(M:Addr->Prop)(H:Hp):Prop:=∀ a,M a->H a≠none
inductive Ent where
 |d (x:PyData)
 |v (x:V)
noncomputable abbrev Ge:=List (Option Ent)
structure RS(M:Addr->Prop)(Γ:Ge)(σ:St)(H:Hp):Prop where
 al:Al M H
 at':∀ (i:Nat) (d:PyData),Γ[i]?=some (some (.d d))->∃ v,σ[i]?=some (some v)/\Rep M H v d
 av:∀ (i:Nat) (v:V),Γ[i]?=some (some (.v v))->σ[i]?=some (some v)
noncomputable def zhc(M:Addr->Prop)(H:Hp)(v:V):Ent->Prop
 |.d d=>Rep M H v d
 |.v u=>v=u
theorem RS.setE {Γ:Ge}{σ:St}{i:Nat}(h:RS M Γ σ H)(r:zhc M H v z)(hi:i<σ.length):RS M (Γ.set i (some z)) (σ.set i (some v)) H:=⟨h.al,fun j d' e=>by
 by_cases hj:j=i
 ·subst hj
  by_cases hl:j<Γ.length
  ·rw[xl hl]at e
   cases e
   exact⟨v,by rw[xl hi],r⟩
  ·rw[xy (by simpa using hl)]at e;cases e
 ·rw[xj (Ne.symm hj)]at e |-
  exact h.at' j d' e,fun j d' e=>by
 by_cases hj:j=i
 ·subst hj
  by_cases hl:j<Γ.length
  ·rw[xl hl]at e
   cases e
   rw[xl hi];exact congrArg (fun x=>some (some x)) r
  ·rw[xy (by simpa using hl)]at e;cases e
 ·rw[xj (Ne.symm hj)]at e |-
  exact h.av j d' e⟩
theorem RS.setV {Γ:Ge}{σ:St}{i:Nat}(h:RS M Γ σ H)(hi:i<σ.length):RS M (Γ.set i (some (.v v))) (σ.set i (some v)) H:=h.setE rfl hi
section
variable {X:Cx}{p:Pos}{b:Expr}{d1 d2:PyData}
theorem zB{H:Hp}{p:Addr}{o:HO}(n:H p=none):Same H (upd H p o):=fun b u e=>by rw[zg (zN e n)];exact e
theorem kZ(hu:∀ n,n<=60->X.A.units+n<cLine):OpR X (compareOp .Eq) (fun x y H Q=>∃ M M' d1 d2,Rep M H x d1/\Rep M' H y d2/\d1.canLay0=true/\d2.canLay0=true/\min d1.depth d2.depth<=60/\Q (.bl (PyData.eqv d1 d2)) H):=by
 intro pins s σ H x y v u Q I rx ry h
 obtain⟨M,M',d1,d2,r1,r2,c1,c2,hd,q⟩:=h
 obtain⟨as,z1⟩:=r1.reads I.hok c1 rx
 obtain⟨bs,z2⟩:=r2.reads I.hok c2 ry
 exact SeqAt.compareEq_reads z1 z2 c1 c2 (hu _ hd) ⟨.bl _,H,I,rfl,q⟩
theorem k6(hu:∀ n,n<=60->X.A.units+n<cLine):OpR X (compareOp .NotEq) (fun x y H Q=>∃ M M' d1 d2,Rep M H x d1/\Rep M' H y d2/\d1.canLay0=true/\d2.canLay0=true/\min d1.depth d2.depth<=60/\Q (.bl (!PyData.eqv d1 d2)) H):=by
 intro pins s σ H x y v u Q I rx ry h
 obtain⟨M,M',d1,d2,r1,r2,c1,c2,hd,q⟩:=h
 obtain⟨as,z1⟩:=r1.reads I.hok c1 rx
 obtain⟨bs,z2⟩:=r2.reads I.hok c2 ry
 exact SeqAt.compareNe_reads z1 z2 c1 c2 (hu _ hd) ⟨.bl _,H,I,rfl,q⟩
theorem Room.u60 {A:Around}(r:Room k A):∀ n,n<=60->A.units+n<cLine:=fun n h=>by have:=r.units;omega
end
end L2
namespace PySem
open PySem.AutoSeq1 (wpAny_loadPart')
theorem V3(l:Addr)(items:Array Value)(n:Nat)(dd:Option Addr)(sl:Array (Option Value))(x:Int)(u:Tok)(hb1:¬ (decide (x< -(2 ^ 63))||decide (x≥2 ^ 63))=true)(hc0:¬ (items.isEmpty||x==1)=true)(hc1:¬ (decide (x<=0)||items.isEmpty)=true)(hc2:¬ (items.size:Int)*x>(2 ^ 63-1) / 8)(hc3:¬ Builtin.Tuple.tupleTooMany ((items.size:Int)*x)=true)(hsz:((List.replicate x.toNat items).foldl (·++·) #[]).size<=sizeLine) :
  Meets (Builtin.«tuple.__mul__» ⟨[.ref l,.int x u],[]⟩) (fun _ R s=>s.heap.get? l=some { cls:=.type "tuple",dict:=dd,data:=.seq items n,slots:=sl }/\R (.ok (.ret (Value.ref s.heap.objs.size))) { s with heap:=s.heap.push { cls:=Value.type "tuple",data:=Data.seq ((List.replicate x.toNat items).foldl (·++·) #[]) },toks:=s.toks }) :=
 .of_wp fun prog w A R s h=>by
  obtain⟨hp,g,d,tk,os⟩:=s;obtain⟨hl,h⟩:=h
  have f1:=AutoSeq1.idx_int
  wp_walk using wpAny_loadPart' hl
  refine wpAny_ite_false (decide_eq_false hb1) ?_
  wp_walk using wpAny_loadPart' hl
  first | (refine wpAny_ite_false (decide_eq_false hc2) ?_;wp_walk using wpAny_loadPart' hl) | skip
  first | (refine wpAny_ite_false (decide_eq_false (uS.mpr hsz)) ?_;wp_walk using wpAny_loadPart' hl) | skip
  exact⟨_,rfl,h⟩
theorem V1(l:Addr)(items:Array Value)(n:Nat)(dd:Option Addr)(sl:Array (Option Value))(x:Int)(u:Tok)(hb1:¬ (decide (x< -(2 ^ 63))||decide (x≥2 ^ 63))=true)(hc0:(items.isEmpty||x==1)=true) :
  Meets (Builtin.«tuple.__mul__» ⟨[.ref l,.int x u],[]⟩) (fun _ R s=>s.heap.get? l=some { cls:=.type "tuple",dict:=dd,data:=.seq items n,slots:=sl }/\R (.ok (.ret (Value.ref l))) { s with heap:=s.heap,toks:=s.toks }) :=
 .of_wp fun prog w A R s h=>by
  obtain⟨hp,g,d,tk,os⟩:=s;obtain⟨hl,h⟩:=h
  have f1:=AutoSeq1.idx_int
  wp_walk using wpAny_loadPart' hl
  refine wpAny_ite_false (decide_eq_false hb1) ?_
  wp_walk using wpAny_loadPart' hl
  exact⟨_,rfl,h⟩
theorem V2(l:Addr)(items:Array Value)(n:Nat)(dd:Option Addr)(sl:Array (Option Value))(x:Int)(u:Tok)(hb1:¬ (decide (x< -(2 ^ 63))||decide (x≥2 ^ 63))=true)(hc0:¬ (items.isEmpty||x==1)=true)(hc1:(decide (x<=0)||items.isEmpty)=true) :
  Meets (Builtin.«tuple.__mul__» ⟨[.ref l,.int x u],[]⟩) (fun _ R s=>s.heap.get? l=some { cls:=.type "tuple",dict:=dd,data:=.seq items n,slots:=sl }/\R (.ok (.ret (Value.ref s.heap.objs.size))) { s with heap:=s.heap.push { cls:=Value.type "tuple",data:=Data.seq #[] },toks:=s.toks }) :=
 .of_wp fun prog w A R s h=>by
  obtain⟨hp,g,d,tk,os⟩:=s;obtain⟨hl,h⟩:=h
  have f1:=AutoSeq1.idx_int
  wp_walk using wpAny_loadPart' hl
  refine wpAny_ite_false (decide_eq_false hb1) ?_
  wp_walk using wpAny_loadPart' hl
  exact⟨_,rfl,h⟩
theorem Qm:fillsNumberSlot (.type "tuple") "mul" =pure false :=
 fillsNumberSlot_seq (id:= "tuple.__mul__") (r:=some (.builtin "tuple.__rmul__")) F.slot_tuple_mul.lookup (by decide +kernel) F.slot_tuple_rmul.lookup (by decide +kernel)
theorem Wh:seqRepeat? (.type "tuple")=pure (some (.builtin "tuple.__mul__")):=by
 unfold seqRepeat?
 rw[seqSlot_of (T:= "tuple") (name:= "__mul__") (id:= "tuple.__mul__") F.slot_tuple_mul.lookup (by decide +kernel),seqSlot_of (T:= "tuple") (name:= "__rmul__") (id:= "tuple.__rmul__") F.slot_tuple_rmul.lookup (by decide +kernel)]
 rfl
theorem Jp(a:Int)(t:Tok)(l:Addr)(items:Array Value)(n:Nat)(dd:Option Addr)(sl:Array (Option Value)) :
  Meets (Builtin.«int.__rmul__» ⟨[.int a t,.ref l],[]⟩) (fun _ R s=>s.heap.get? l=some { cls:=.type "tuple",dict:=dd,data:=.seq items n,slots:=sl }/\R (.ok (.ret Value.notImplemented)) s) :=
 .of_wp fun prog w A R s h=>by obtain⟨hp,g,d,tk,os⟩:=s;obtain⟨hl,h⟩:=h;wp_walk using wpAny_loadPart' hl;exact⟨_,rfl,h⟩
end PySem
namespace L2
open PySem PySem.Spec PyProof.Rows
variable [Cs]
section
variable {X:Cx}
noncomputable def zhX(K:PySem.W.Frag):R2:=fun x y H Q=>∃ l k xs,x=.ref l/\y=.int k/\SqT K H l xs/\ -(2 ^ 63)<=k/\k<2 ^ 63/\xs.length*k.toNat<=sizeLine /\
 ((xs= []∨k=1)->Q (.ref l) H)/\∀ p,H p=none->Q (.ref p) (upd H p (.tup (List.replicate k.toNat xs).flatten))
theorem zdt:OpR X (binaryOp .Mult) (zhX X.K):=by
 intro pins s σ H x y v u Q I rx ry h
 obtain⟨l,k,xs,rfl,rfl,hH,h1,h2,hz,qs,q⟩:=h
 cases rx
 obtain⟨t,rfl⟩:=ry
 obtain⟨its,r,hit,hzz⟩:=I.tuple hH
 have hl:=r.length
 obtain⟨⟨cls,dd,data,sl⟩,ho,hc,n,hd⟩:=id hit
 simp only at hc hd
 subst hc hd
 have hb1:¬ (decide (k< -(2 ^ 63))||decide (k≥2 ^ 63))=true:=by
  simp only[xO,decide_eq_true_eq];omega
 have hnew:List.foldl (fun x1 x2=>x1++x2) #[] (List.replicate k.toNat its.toArray)=(List.replicate k.toNat its).flatten.toArray:=by
  have:=WG its k.toNat []
  rw[uJ]at this
  exact this
 refine wpAny_binaryOp_repeat_ref (T:= "tuple") (U:= "int") (by decide) ⟨_,ho,rfl⟩ (fun s'=>typeIs_int s' k t) Qm F.fills_int_mul F.slot_int_rmul Wh F.slot_int_index.lookup
  (call_meets F.slot_int_rmul (typeIs_int s k t) F.entry_int_rmul (F.args_int_rmul_2 _ _) (Jp k t l its.toArray n dd sl) ⟨ho,rfl,⟨_,ho,rfl⟩,?_⟩)
 by_cases hc0:(its.toArray.isEmpty||k==1)=true
 ·refine call_meets F.slot_tuple_mul ⟨_,ho,rfl⟩ F.entry_tuple_mul (F.args_tuple_mul_2 _ _) (V1 l its.toArray n dd sl k t hb1 hc0) ⟨ho,?_⟩
  refine⟨.ref l,H,I,rfl,qs ?_⟩
  simp only[xO,beq_iff_eq]at hc0
  rcases hc0 with z | z
  ·left
   have:its= []:=by simpa using z
   subst this
   exact List.eq_nil_of_length_eq_zero hl
  ·exact .inr z
 ·by_cases hc1:(decide (k<=0)||its.toArray.isEmpty)=true
  ·refine call_meets F.slot_tuple_mul ⟨_,ho,rfl⟩ F.entry_tuple_mul (F.args_tuple_mul_2 _ _) (V2 l its.toArray n dd sl k t hb1 hc0 hc1) ⟨ho,?_⟩
   have e0:(List.replicate k.toNat xs).flatten= []:=by
    simp only[xO,decide_eq_true_eq]at hc1
    rcases hc1 with z | z
    ·rw[show k.toNat=0 by omega];rfl
    ·exact absurd (by simp[z]) hc0
   refine⟨.ref s.heap.objs.size,_,I.laid (t':=s.toks) (o:=.tup []) (fun b u e=>Heap.get?_push_of_some _ e) (xh _) ?_,rfl,by have:=q _ (I.hok.fresh (xh _));rw[e0]at this;exact this⟩
   exact⟨uk _,[],.nil,⟨_,Heap.get?_push_size _ rfl,rfl,_,rfl⟩⟩
  ·have hlen:its.length*k.toNat<=sizeLine:=by rw[<- hl];exact hz
   have hk0:0<k:=by
    simp only[xO,decide_eq_true_eq]at hc1;omega
   have hm:((its.toArray.size:Int)*k)=((its.length*k.toNat:Nat):Int):=by
    rw[xu]
    have:k=(k.toNat:Int):=by omega
    rw[Int.natCast_mul,<- this]
   have hsl:(sizeLine:Nat)<=(2 ^ 63-1) / 8:=by decide
   have hc2:¬ (its.toArray.size:Int)*k>(2 ^ 63-1) / 8:=by
    rw[hm]
    have h63:((2 ^ 63-1) / 8:Int)=(((2 ^ 63-1) / 8:Nat):Int):=by decide
    rw[h63]
    intro z
    have:=Int.ofNat_lt.mp z
    omega
   have hc3:¬ Builtin.Tuple.tupleTooMany ((its.toArray.size:Int)*k)=true:=by
    unfold Builtin.Tuple.tupleTooMany
    rw[hm,decide_eq_true_eq]
    intro z
    have:=Int.ofNat_lt.mp z
    omega
   refine call_meets F.slot_tuple_mul ⟨_,ho,rfl⟩ F.entry_tuple_mul (F.args_tuple_mul_2 _ _) (V3 l its.toArray n dd sl k t hb1 hc0 hc1 hc2 hc3 (by rw[hnew,xu,YM,Nat.mul_comm];exact hlen)) ⟨ho,?_⟩
   rw[hnew]
   refine⟨.ref s.heap.objs.size,_,I.laid (t':=s.toks) (o:=.tup (List.replicate k.toNat xs).flatten) (fun b u e=>Heap.get?_push_of_some _ e) (xh _) ?_,rfl,q _ (I.hok.fresh (xh _))⟩
   exact⟨by rw[YM,Nat.mul_comm];exact hz,_,r.rep k.toNat,⟨_,Heap.get?_push_size _ rfl,rfl,_,rfl⟩⟩
theorem RepL.rep (h:RepL M H vs ds):∀ k:Nat,RepL M H (List.replicate k vs).flatten (List.replicate k ds).flatten
 |0=>.nil
 |k+1=>by rw[um,um,xY,xY];exact h.append (RepL.rep h k)
theorem Rep.tup_inv (r:Rep M H v (.tuple ds)):∃ a vs,v=.ref a/\H a=some (.tup vs)/\RepL M H vs ds:=by
 cases r with
 |tuple e q=>exact⟨_,_,rfl,e,q⟩
theorem Rep.lst_inv (r:Rep M H v (.list ds)):∃ a vs,v=.ref a/\H a=some (.lst vs)/\¬ M a/\RepL M H vs ds:=by
 cases r with
 |list e n q=>exact⟨_,_,rfl,e,n,q⟩
variable {p:Pos}{a b:Expr}{d:PyData}{ds:List PyData}
noncomputable def zgi(K:PySem.W.Frag):R2:=fun x y H Q=>∃ a b xs ys,x=.ref a/\y=.ref b/\SqT K H a xs/\SqT K H b ys/\xs.length+ys.length<=sizeLine/\(xs= []->Q (.ref b) H)/\(ys= []->Q (.ref a) H)/\∀ p,H p=none->Q (.ref p) (upd H p (.tup (xs++ys)))
theorem zbg:OpR X (binaryOp .Add) (zgi X.K):=by
 intro pins s σ H x y v u Q I rx ry h
 obtain⟨a,b,xs,ys,rfl,rfl,ha,hb,hz,q0,q1,q⟩:=h
 cases rx
 cases ry
 obtain⟨its,r,hit,_⟩:=I.tuple ha
 obtain⟨its2,r2,hit2,_⟩:=I.tuple hb
 by_cases hv:its= []
 ·obtain⟨⟨cls,dd,data,sl⟩,ho,hc,n,hd⟩:=id hit
  obtain⟨⟨cls2,dd2,data2,sl2⟩,ho2,hc2,n2,hd2⟩:=id hit2
  simp only at hc hd hc2 hd2
  subst hc hd hc2 hd2
  refine concat_meets ⟨_,ho,rfl⟩ ⟨_,ho2,rfl⟩ noFill_tuple_add seq_tuple_add PySem.F.slot_tuple_add PySem.F.entry_tuple_add (PySem.F.args_tuple_add_2 _ _)
   (tuple_addW0 a b its.toArray its2.toArray n n2 dd dd2 sl sl2 (by simp[hv])) ⟨ho,ho2,⟨.ref b,H,I,rfl,q0 ?_⟩⟩
  exact r.nil_iff.mp hv
 ·refine HT.cat_tup hit hit2 hv (fun hw=>⟨.ref a,H,I,rfl,q1 (r2.nil_iff.mp hw)⟩) (fun _=>?_) (by rw[<- r.length,<- r2.length];exact hz)
  refine⟨.ref s.heap.objs.size,_,I.laid (t':=s.toks) (o:=.tup (xs++ys)) (fun b u e=>Heap.get?_push_of_some _ e) (xh _) ?_,rfl,q _ (I.hok.fresh (xh _))⟩
  exact⟨by rw[xC];exact hz,_,r.append r2,⟨_,Heap.get?_push_size _ rfl,rfl,_,rfl⟩⟩
theorem W7 {i:Int}(r:RepL M H vs ds)(h:atI ds i=some d):∃ v,atI vs i=some v/\Rep M H v d:=by
 unfold atI at h |-
 rw[r.length]
 cases e:ixN ds.length i with
 |none=>rw[e]at h;cases h
 |some j=>
  rw[e]at h
  exact r.get' h
end
noncomputable def tyD:PyData->String
 |.none=> "NoneType"
 |.bool _=> "bool"
 |.int _=> "int"
 |.str _=> "str"
 |.list _=> "list"
 |.tuple _=> "tuple"
 |.dict _=> "dict"
theorem Rep.ty {K:PySem.W.Frag}(r:Rep M H v d) (hd:tyD d≠ "dict"):ZV K H v (.type (tyD d)):=by
 cases r with
 |none=>exact .non
 |bool b=>exact .bl b
 |int i=>exact .int i
 |str x=>exact .str x
 |list e n q=>exact .lst e
 |tuple e q=>exact .tup e
 |dict _ _ _ _=>exact absurd rfl hd
 |inst _ _ _ _=>exact absurd rfl hd
section
variable {X:Cx}
theorem zal:jo X (.builtin "isinstance") (fun xs H Q=>∃ x T t k,xs= [x,.ty T]/\ZV X.K H x t/\PySem.W.kitOne X.K t (.type T)=some k/\Q (.bl k) H):=by
 intro pins s σ H xs us Q I r h
 obtain⟨x,T,t,k,rfl,ty,e,q⟩:=h
 obtain⟨u,w',rfl,rx,rc⟩:=zcs r
 cases (show w'=Value.type T from rc)
 exact kM I rx ty e fun tk=>⟨.bl k,H,I.tok tk,rfl,q⟩
variable {p:Pos}{b:Expr}
theorem Ke(bs:List Bool):(List.range bs.length).all (fun i=>(bs[i]?).getD false)=bs.all id:=by
 have e:(List.range bs.length).map (fun i=>(bs[i]?).getD false)=bs:=by
  apply List.ext_getElem
  ·simp
  ·intro i h1 h2
   simp[h2]
 have h:=congrArg (fun l=>List.all l id) e
 rw[List.all_map]at h
 exact h
theorem zeu{bs:List Bool}(rv:Vals (bs.map V.bl) its){i:Nat}(e:its[i]?=some v):∃ b,bs[i]?=some b/\v=.bool b:=by
 have hi:i<its.length:=(xb.mp e).1
 have hl:=rv.length
 rw[xo]at hl
 have hb:i<bs.length:=by omega
 obtain⟨u,hu,ru⟩:=rv.get (i:=i) (x:=V.bl bs[i]) (by simp[hb])
 rw[e]at hu;cases hu
 exact⟨bs[i],by simp[hb],ru⟩
theorem kA (hc:X.calm=true):jo X (.builtin "all") (fun xs H Q=>∃ (p:Addr) (bs:List Bool),xs= [.ref p]/\SqL X.K H p (bs.map V.bl)/\Q (.bl (bs.all id)) H):=by
 intro pins s σ H xs us Q I r h
 obtain⟨p,bs,rfl,hq,q⟩:=h
 obtain⟨u,rfl,rx⟩:=ZE r
 cases rx
 obtain⟨its,rv,pl,hz⟩:=I.list hq
 have hne:p≠s.heap.objs.size:=by
  obtain⟨o,n,e,_⟩:=pl
  exact xr (Heap.lt_size e)
 have hl:=rv.length
 rw[xo]at hl
 refine call_all_walk (wpAny_pyIter_list pl.isList ⟨s.heap.objs.size,_,_,_,_,_,fun i=>(bs[i]?).getD false,rfl,Walks.list (A:=X.A.in1) (show X.A.in1.handled=none from I.ok.hd hc) s.heap.objs.size p hne its.toArray,
  ⟨⟨_,Heap.get?_push_size _ rfl,rfl,rfl⟩,pl.isList.at fun o e=>Heap.get?_push_of_some _ e⟩,fun i v s' Q' E' hP hQ=>?_,fun h' tk hk=>?_⟩)
 ·obtain⟨b,hb,rfl⟩:=zeu rv (by simpa using hP)
  dsimp only at hQ;rw[hb]at hQ
  exact wpAny_truthy_bool hQ
 ·rw[xu,<- hl,Ke]
  refine⟨.bl _,H,I.kept (t':=tk) fun b o e=>hk b o ?_ (Heap.get?_push_of_some _ e),rfl,q⟩
  intro z
  rw[uN]at z
  exact absurd (Heap.lt_size e) (by rw[z];exact uf _)
theorem RepL.bls :∀ {vs:List V}{bs:List Bool},RepL M H vs (bs.map PyData.bool)->vs=bs.map V.bl
 |_,[],.nil=>rfl
 |_,b::bs,.cons q t=>by cases q;rw[xB,<- RepL.bls t]
theorem ki:bootBuiltins "all" =some (.builtin "all"):=by decide +kernel
theorem jz:bootBuiltins "list" =some (.type "list"):=by decide +kernel
theorem Q9:bootBuiltins "tuple" =some (.type "tuple"):=by decide +kernel
theorem Wy:bootBuiltins "int" =some (.type "int"):=by decide +kernel
theorem yj:bootBuiltins "bool" =some (.type "bool"):=by decide +kernel
theorem boot_setW:bootBuiltins "set" =some (.type "set"):=by decide +kernel
end
section
noncomputable def zM(n:Nat):List PyData:=(List.range n).map fun (i:Nat)=>PyData.int (i:Int)
theorem zy(n:Nat):(zM n).length=n:=by simp[zM]
theorem ZS{n i:Nat}(h:(zM n)[i]?=some d):i<n/\d=.int (i:Int):=by
 unfold zM at h
 rw[xk]at h
 have hi:i<n:=by
  cases e:(List.range n)[i]? with
  |none=>rw[e]at h;cases h
  |some j=>simpa using (xb.mp e).1
 rw[ux hi]at h
 exact⟨hi,(Option.some.inj h).symm⟩
end
noncomputable def zg4(X:Cx)(ts:List Expr):TGs:=fun vs σ H Q=>∀ (pins:List (Addr×Obj)) (s:Shared) (us:List Value),Inv X pins σ H s->Vals vs us ->
  wpAny (model X.prog X.w) X.A (assignInOrder ((assignEach ts X.env).map (·.2)) us) (fun _ s'=>∃ σ' H',Inv X pins σ' H' s'/\Q σ' H') X.xe s
theorem wN :PGs X ts (zg4 X ts):=fun pins s σ H vs us Q I r h=>h pins s us I r
theorem PGs.wp {Q:St->Hp->Prop}(h:PGs X ts t)(q:t vs σ H Q):zg4 X ts vs σ H Q:=fun pins s us I r=>h pins s σ H vs us Q I r q
section
end
theorem zfj{k:Nat}{j i0:Nat}(q:ix[j]?=some i0)(h:σ[i0]?=some (some v)):(cS k ix σ)[k+j]?=some (some v):=by
 unfold cS
 rw[xf (by simp),uD,Nat.add_sub_cancel_left,xk,q]
 simp[h]
section
variable {X:Cx}{elt tg iter:Expr}{ifs:List Expr}{scope:Scope}{pos:Pos}{N':List Str}{k:Nat}{ix:List Nat}{σ:St}{H:Hp}{Q:VK}
noncomputable def gU(X:Cx)(N':List Str)(scope:Scope)(tg:Expr)(σ0:St):TG:=fun v σ H Q=>∀ cl C s2 H2 fp,Cat X σ0 C s2 H2 fp->wpG (X.comp N' scope cl C s2 H2 fp) tg v σ H Q
noncomputable def fU(X:Cx)(N':List Str)(scope:Scope)(ifs:List Expr)(σ0:St):TT:=fun σ H Q=>∀ cl C s2 H2 fp,Cat X σ0 C s2 H2 fp->wpF (X.comp N' scope cl C s2 H2 fp) ifs σ H Q
noncomputable def eU(X:Cx)(N':List Str)(scope:Scope)(elt:Expr)(σ0:St):TE:=fun σ H Q=>∀ cl C s2 H2 fp,Cat X σ0 C s2 H2 fp->wpE (X.comp N' scope cl C s2 H2 fp) elt σ H Q
theorem zbl(hcalm:X.calm=true)(S:CSc X.env.scope X.N scope N' k ix)(hf:∀ x,foldedSetIterable iter X.env x=pure x:=by intro _;rfl) :
    PE X (.ListComp elt [⟨tg,iter,ifs,0⟩] scope pos) (WX k ix (wpI X tg iter) (gU X N' scope tg) (fU X N' scope ifs) (eU X N' scope elt)) :=
  zdx hcalm S vF (fun _ cl C s2 H2 fp c pins s σ H v u Q I r h=>h cl C s2 H2 fp c pins s u I r) (fun _ cl C s2 H2 fp c pins s σ H Q I h=>h cl C s2 H2 fp c pins s I)
    (fun _ cl C s2 H2 fp c pins s σ H Q I h=>h cl C s2 H2 fp c pins s I) hf
theorem zdC{i:Nat}{pos' spos:Pos}(hN:X.N.Nodup)(hi':X.N[i]?=some x)(hx:Loc X.env.scope x)(hcalm:X.calm=true)(S:CSc X.env.scope X.N scope N' k ix)
  (hsw:swapsWith (.ListComp elt [⟨tg,iter,ifs,0⟩] scope pos) (some (.Name x pos')) spos.line X.env=pure true) (hs:∀ x,foldedSetIterable iter X.env x=pure x:=by intro _;rfl)
  (hf:X.fn x=true∨X.env.scope.names.lookup x=some .local:=by first | exact .inl rfl | exact .inr rfl | assumption) :
  PS X (.Assign [.Name x pos'] (.ListComp elt [⟨tg,iter,ifs,0⟩] scope pos) spos) (yZ (WX k ix (wpI X tg iter) (gU X N' scope tg) (fU X N' scope ifs) (eU X N' scope elt)) (Vv i)) :=
 zdB hN hi' hx hcalm S vF (fun _ cl C s2 H2 fp c pins s σ H v u Q I r h=>h cl C s2 H2 fp c pins s u I r) (fun _ cl C s2 H2 fp c pins s σ H Q I h=>h cl C s2 H2 fp c pins s I)
  (fun _ cl C s2 H2 fp c pins s σ H Q I h=>h cl C s2 H2 fp c pins s I) hsw hs hf
end
section
end
structure Kn(P:Program)(w:World)(K:PySem.W.Frag)(mg:Str->Option Value)(base:Heap)(CX:CXT)(x:Str)(k:Nat)(sp:Sp):Prop where
 ex:∃ (f:Addr) (fd:FuncData) (ps:List Str),FnOk P w K mg base CX k f fd ps sp/\mg x=some (.ref f)/\PySem.W.keepIn K (.ref f)=true/\Binds K fd ps []
section
variable {X:Cx}{x:Str}{k:Nat}{CX:CXT}{E:XK}{e:Expr}{es:List Expr}{p pos:Pos}
theorem zez {Q:VK}(kn:Kn X.prog X.w X.K X.mg X.base CX x k sp) (hr:Room k X.A) (hg:Gl X x) (hx:W4 CX X E) (h:wpA X (e::es) σ H fun vs H1=>sp vs H1 Q E) (hdb:(x==("__debug__" :Str))=false:=by decide)
    (he:starEach (e::es) X.env=(false,eval e X.env)::starEach es X.env:=by rfl) (hpl:(backTo pos (starEach es X.env)).any (·.1)=false:=by rfl):wpE X (.Call (.Name x p) (e::es) [] pos) σ H Q:=by
  obtain⟨f,fd,ps,F,hm,hk,hb⟩:=kn.ex
  refine (zdv F hr hg hm hk hb .nil hx ji hdb he hpl).wp (h.mono fun vs H1 q=>?_)
  show sp (vs++ []) H1 Q E
  rw[xX];exact q
end
theorem vO{N:List Str}{vs:List V}(h:vs.length<=N.length):(start N vs).length=N.length:=by
 unfold start;simp;omega
structure Df(K:PySem.W.Frag)(mg:Str->Option Value)(x:Str)(st:Stmt)(ps:List Str):Prop where
 ex:∃ f fd,Fun K x x st f fd/\mg x=some (.ref f)/\Binds K fd ps []
section
variable {P:Program}{w:World}{K:PySem.W.Frag}{mg:Str->Option Value}{base:Heap}{x:Str}{st:Stmt}{N ps:List Str}{k:Nat}
theorem Df.kn (D:Df K mg x st ps)(S:qN N ps (defScope st))(len:∀ vs H Q E,sp vs H Q E->vs.length=ps.length)
  (hbody:∀ (f:Addr) (cdv:Value) (A:Around) (outer:List Env) (s:Shared) (H:Hp) (vs:List V) (Q:VK) (E:XK),Room k (A.deeper (envOfC x (defScope st) s.heap.objs.size f cdv))->sp vs H Q E ->
   wpB (Zv CX0 P w K mg base N x (defScope st) f cdv A outer s H E).nox (defBody st) { nx:=fun _ H'=>Q .non H',rt:=Q } (start N vs) H):Kn P w K mg base CX0 x (k+1) sp:=by
 obtain⟨f,fd,F,hm,hb⟩:=D.ex
 exact⟨f,fd,ps,F.ok S len (fun cdv A outer s H vs Q E hr h=>⟨_,qj,hbody f cdv A outer s H vs Q E hr h⟩),hm,F.kp,hb⟩
end
section
variable {X:Cx}{σ:St}{H:Hp}{D:qJ}{sts:List Stmt}{e:Expr}{pos pos':Pos}{x:Str}
theorem zii(i:Nat){Q:VK}(hN:X.N.Nodup)(h:wpE X e σ H Q)(k:∀ v H',Q v H'->wpB X sts D (σ.set i (some v)) H')(hi:X.N[i]?=some x:=by rfl)(hx:Loc X.env.scope x:=by first | exact Or.inl rfl | exact Or.inr rfl)(hs:swapsWith e (some (.Name x pos')) pos.line X.env=pure false:=by rfl)
    (hf:X.fn x=true∨X.env.scope.names.lookup x=some .local:=by first | exact .inl rfl | exact .inr rfl | assumption):wpB X (.Assign [.Name x pos'] e pos::sts) D σ H :=
  (jv (QY hN hi hx ze hs hf) qj).wp (h.mono k)
end
section
end
mutual
/-- no list within -/
noncomputable def noL:PyData->Bool
 |.list _=>false
 |.tuple ds=>zdn ds
 |.dict _=>false
 |_=>true
noncomputable def zdn:List PyData->Bool
 |[]=>true
 |d::ds=>noL d&&zdn ds
end
mutual
theorem Rep.free :∀ {v:V}{d:PyData},noL d=true->Rep M H v d->Rep M' H v d
 |_,_,_,.none=>.none
 |_,_,_,.bool b=>.bool b
 |_,_,_,.int i=>.int i
 |_,_,_,.str x=>.str x
 |_,_,h,.list e n r=>by simp[noL]at h
 |_,_,h,.tuple e r=>.tuple e (RepL.free (by simpa [noL] using h) r)
 |_,_,h,.dict e n k r=>by cases h
 |_,_,h,.inst e n k r=>by cases h
theorem RepL.free :∀ {vs:List V}{ds:List PyData},zdn ds=true->RepL M H vs ds->RepL M' H vs ds
 |_,_,_,.nil=>.nil
 |_,_,h,.cons r t=>by
  rw[zdn,xa]at h
  exact .cons (Rep.free h.1 r) (RepL.free h.2 t)
end
section
end
theorem Df.of{K:PySem.W.Frag}{h:Heap}{st:Stmt}{ps:List Str}{kV dc pm cd ct:Value}(X:K.In h)(G:h.Ns mainGlobals mg)
  (a:PySem.W.nsIn K mainGlobals x=some (some (.ref f))) (l:K.lookup f=some ⟨oc,od,.func (PySem.W.fnOf x x (z6 st) (defBody st) (defScope st) .none kV dc pm an cd ct),sl⟩) (c:PySem.W.codeIn K cd x=true) (k:PySem.W.keepIn K (.ref f)=true)
  (hb:∀ (kV doc pm:Value) (an:Option Addr) (cdv ct:Value) (us:List Value),us.length=ps.length->bindArgs (PySem.W.fnOf x x (z6 st) (defBody st) (defScope st) .none kV doc pm an cdv ct) ⟨us,[]⟩=pure (ps.zip us)):Df K mg x st ps :=
 ⟨f,_,jD (st:=st) l c k,PySem.W.mg_of X G a,(jD (st:=st) l c k).binds hb⟩
structure Dl(K:PySem.W.Frag)(x:Str)(st:Stmt)(fa:Addr)(p:Str):Prop where
 ex:∃ fd:FuncData,Fun K x x st fa fd/\∀ (s:Shared) (u:Value),BindsTo s fd ⟨[u],[]⟩ [(p,u)]
theorem Dl.of{K:PySem.W.Frag}{h:Heap}{st:Stmt}{kV dc pm cd ct:Value}(X:K.In h)(G:h.Ns mainGlobals mg)(hfa:mg x=some (.ref fa))
  (a:PySem.W.nsIn K mainGlobals x=some (some (.ref f))) (l:K.lookup f=some ⟨oc,od,.func (PySem.W.fnOf x x (z6 st) (defBody st) (defScope st) .none kV dc pm an cd ct),sl⟩) (c:PySem.W.codeIn K cd x=true) (k:PySem.W.keepIn K (.ref f)=true)
  (hb:∀ (s:Shared) (u:Value),BindsTo s (PySem.W.fnOf x x (z6 st) (defBody st) (defScope st) .none kV dc pm an cd ct) ⟨[u],[]⟩ [(p,u)]):Dl K x st fa p:=by
 have e:=hfa.symm.trans (PySem.W.mg_of X G a)
 cases e
 exact⟨_,jD (st:=st) l c k,hb⟩
noncomputable def YX(K:PySem.W.Frag):Sp:=fun vs H Q _=>∃ (a:Addr) (ns:List Int),vs= [.ref a]/\SqL K H a (ns.map V.int)/\ns.length<=63/\∀ H',Q (.bl true) H'
theorem Fun.law {K:PySem.W.Frag}{st:Stmt}{k:Nat}(F:Fun K x x st f fd)(S:qN N [p] (defScope st))
  (hbody:∀ (cdv:Value) (A:Around) (outer:List Env) (s:Shared) (H:Hp) (Q:VK) (E:XK) (a:Addr) (ns:List Int),Room k (A.deeper (envOfC x (defScope st) s.heap.objs.size f cdv))->SqL K H a (ns.map V.int)->ns.length<=63->(∀ H',Q (.bl true) H') ->
   wpB (Zv CX0 P w K mg base N x (defScope st) f cdv A outer s H E).nox (defBody st) { nx:=fun _ H'=>Q .non H',rt:=Q } (start N [.ref a]) H):FnOk P w K mg base CX0 (k+1) f fd [p] (YX K) :=
 F.ok S (fun vs H Q E ⟨a,ns,e,_⟩=>by rw[e];rfl) fun cdv A outer s H vs Q E hr ⟨a,ns,e,hS,hlen,kk⟩=>⟨_,qj,by subst e;exact hbody cdv A outer s H Q E a ns hr hS hlen kk⟩
theorem walkL{l:PySem.W.OpenLaw}{q:Program}{loose:List Str}{XP:(Str->Option Value)->Heap->Prop}{YP:World->Heap->Prop}{d:DefRec}{K:Params->PySem.W.Frag}{k:Nat}{st:Stmt}(hn:l.most=some 63)(hdf:d.params.defaults= [])(hk:Room k callerA)
  (hY:∀ (w:World) (h:Heap),YP w h->(K w.params).In h)
  (F:∀ (w:World) (mg:Str->Option Value) (fa:Addr) (h:Heap),(K w.params).In h->h.Ns mainGlobals mg->mg d.name=some (.ref fa) ->
   Dl (K w.params) "law" st fa "_law_script" /\∀ (fd:FuncData),Fun (K w.params) "law" "law" st fa fd->∀ base:Heap,FnOk l.prog w (K w.params) mg base CX0 k fa fd ["_law_script"] (YX (K w.params))) :
  PySem.W.WalkO q loose XP YP l.row.toRowW d [] (fun f vs=>PySem.call f vs) :=
 L2.walk_of (n:=63) (k:=k) (x:= "_law_script") (CX:=fun _=>CX0) (sp:=fun w=>YX (K w.params)) hn (by decide) hdf hk hY (fun w mg fa h KX G hm=>by
  obtain⟨⟨fd,Ff,hb⟩,hF⟩:=F w mg fa h KX G hm
  exact⟨fd,hb,fun base _ _=>hF fd Ff base⟩) (fun _ _ a ns hl _ hS=>⟨a,ns,rfl,hS,hl,fun _=>rfl⟩) fun _ _ _ _ _ z=>z
noncomputable def Zx(B:Heap)(l:List Env)(ea:Addr)(c:Value)(dx:Option Addr)(fl:Value)(h:Heap):Prop:=B.StaysIn h/\B.get? ea=none/\h.FunFrames B l /\
 ∃ oe vs T oT ts,h.get? ea=some oe/\(oe.cls=c/\oe.dict=dx)/\oe.data=.fields vs/\vs[1]?=some (.ref T)/\B.get? T=none/\T≠ea/\h.get? T=some oT/\oT.data=.fields ts/\ts[3]?=some fl
section
variable {M:Model}{A:Around}{E:Value->Shared->Prop}{s:Shared}{B:Heap}{l outer:List Env}{env:Env}{ea L:Addr}{c fl:Value}{dx:Option Addr}{Q:Unit->Shared->Prop}
theorem WF{oe:Obj}{vs:Array Value}(hfr:A.frames=some (env::outer))(hl:s.heap.FunFrames B (env::outer))(hf:env.frame=some L)(he:s.heap.get? ea=some oe)(hb:B.StaysIn s.heap)(hen:B.get? ea=none)(hd:oe.data=.fields vs)(h1:1<vs.size)
  (k:∀ h',Zx B (env::outer) ea oe.cls oe.dict (rawInt L) h'->s.heap.UpToSlots h'->Q () { s with heap:=h' }) :
  wpAny M A (do let a<-PySem.frameOf env;let pl<-entryPlaceOf L hn;let b<-EntryCells.newEntry head a .none (rawInt L) .none pl;setField (.ref ea) 1 b) Q E s:=by
 refine wpAny_bind (wpAny_frameOf_fun hfr hl hf fun h1' so=>?_)
 refine wpAny_bind (wpAny_entryPlaceOf fun pl hpl=>?_)
 have hnL:∀ b,B.get? b≠none->b∉frs (env::outer):=fun b h z=>h (hl.mem z).1
 have he1:h1'.get? ea=some { oe with slots:=(h1'.get? ea).elim #[] (·.slots) }:=by
  obtain⟨sl,e⟩:=so.2.2 ea oe he
  rw[e];rfl
 generalize hoe:(({ oe with slots:=(h1'.get? ea).elim #[] (·.slots) }:Obj))=oe1 at he1
 have hd1:oe1.data=.fields vs:=by rw[<- hoe];exact hd
 have hcl:oe1.cls=oe.cls/\oe1.dict=oe.dict:=by rw[<- hoe];exact⟨rfl,rfl⟩
 have hl1:h1'.FunFrames B (env::outer):=hl.of_slotsOnly so
 have hb1:B.StaysIn h1':=fun b o e=>by rw[so.2.1 b (hnL b (by rw[e];exact fun z=>nomatch z))];exact hb b o e
 obtain⟨oT,ts,hT,hT3⟩:∃ (oT:Obj) (ts:Array Value),oT={ cls:=.type "traceback",data:=.fields ts }/\ts=([head,Value.ref L,.none,rawInt L,.none]++(if pl.isEmpty then List.replicate 6 .none else pl)).toArray:=⟨_,_,rfl,rfl⟩
 have hts:ts[3]?=some (rawInt L):=by rw[hT3];simp
 have hsz:ts.size<=sizeLine+2:=by
  have:=sizeLine_eq
  rw[hT3]
  rcases hpl with rfl | ⟨a,b,c,d,c9,b10,_,rfl⟩<;>simp<;>omega
 have key:wpAny M A (setField (.ref ea) 1 (.ref h1'.objs.size)) Q E { s with heap:=h1'.push oT }:=by
  have hne:ea≠h1'.objs.size:=xr (Heap.lt_size he1)
  have hp:∀ b o,h1'.get? b=some o->(h1'.push oT).get? b=some o:=fun b o e=>Heap.get?_push_of_some _ e
  refine wpAny_setField (s:={ s with heap:=h1'.push oT }) (hp _ _ he1) hd1 h1 (k _ ⟨fun b o e=>?_,hen,?_,?_⟩ fun b o e hnf=>?_)
  ·exact (Heap.get?_update_other _ _ fun z=>by rw[<- z,hen]at e;cases e).trans (hp _ _ (hb1 b o e))
  ·exact hl1.of_keeps fun b o e hnf=>⟨o,(Heap.get?_update_other _ _ fun z=>by rw[<- z,he1]at e;cases e;exact hnf vs hd1).trans (hp _ _ e),rfl⟩
  ·refine⟨_,_,h1'.objs.size,oT,ts,Heap.get?_update_self _ (hp _ _ he1) (Obj.isFreed_of_fields (Obj.data_mapFields hd1 _)),?_,Obj.data_mapFields hd1 _,by simp[h1],?_,Ne.symm hne,?_,by rw[hT],hts⟩
   ·rw[<- hcl.1,<- hcl.2]
    obtain⟨a1,a2,a3,a4⟩:=oe1
    dsimp only at hd1
    subst hd1
    exact⟨rfl,rfl⟩
   ·cases q:B.get? h1'.objs.size with
    |none=>rfl
    |some o=>exact absurd (Heap.lt_size (hb1 _ _ q)) (uf _)
   ·exact (Heap.get?_update_other _ _ hne).trans (Heap.get?_push_size _ (by rw[hT];rfl))
  ·obtain⟨sl,e1⟩:=so.2.2 b o e
   exact⟨sl,(Heap.get?_update_other _ _ fun z=>by rw[<- z,he1]at e1;cases e1;exact hnf vs hd1).trans (hp _ _ e1)⟩
 unfold EntryCells.newEntry newFields newObj
 rw[<- hT3]
 dsimp only
 rw[if_neg (uS.mpr hsz)]
 unfold newObjAsIs
 refine wpAny_bind (wpAny_bind (wpAny_alloc ?_))
 rw[<- hT]
 exact wpAny_pure key
theorem Qu{fr:Option Addr}(h:Zx B l ea c dx fl s.heap)(k:∀ h',Zx B l ea c dx (fr.elim .none fun f=>rawInt f) h'->s.heap.UpToSlots h'->Q () { s with heap:=h' }):wpAny M A (setFlight (.ref ea) fr) Q E s:=by
 obtain⟨hkb,hen,hl,oe,vs,T,oT,ts,he,hcls,hd,h1,hnT,hTe,hT,hdT,h3⟩:=h
 have hsz3:3<ts.size:=(uF.mp h3).1
 have other:∀ b,b≠T->(s.heap.update T (Obj.mapFields (·.setIfInBounds 3 (fr.elim Value.none fun f=>rawInt f)))).get? b=s.heap.get? b:=fun b hb=>Heap.get?_update_other _ _ (Ne.symm hb)
 have noR:∀ b o,s.heap.get? b=some o->(∀ vs,o.data≠ .fields vs)->b≠T:=fun b o hb hnf q=>by
  rw[q,hT]at hb;injection hb with hb;subst hb;exact hnf ts hdT
 unfold setFlight
 refine wpAny_bind (wpAny_field he hd h1 ?_)
 rw[if_pos (show (Value.ref T !=Value.none)=true from by simp)]
 refine wpAny_setField hT hdT hsz3 (k _ ⟨fun b o hbo=>(other b fun q=>by rw[q,hnT]at hbo;cases hbo).trans (hkb b o hbo),hen,
  hl.of_keeps fun b o hb hnf=>⟨o,(other b (noR b o hb hnf)).trans hb,rfl⟩,?_⟩ fun b o hb hnf=>⟨o.slots,(other b (noR b o hb hnf)).trans hb⟩)
 exact⟨oe,vs,T,_,_,(other ea (Ne.symm hTe)).trans he,hcls,hd,h1,hnT,hTe,Heap.get?_update_self _ hT (Obj.isFreed_of_fields (Obj.data_mapFields hdT _)),Obj.data_mapFields hdT _,by simp[hsz3]⟩
end
noncomputable def CX1(P:Program)(w:World):CXT:=fun outer H s E e s'=>∃ (ea:Addr) (c:Value) (dx:Option Addr) (B h0:Heap) (H':Hp),e=.ref ea/\s'.os=s.os/\AllBare s'.gens/\Zx B outer ea c dx .none s'.heap/\h0.UpToSlots s'.heap /\
 (∀ h6,B.StaysIn h6->h0.UpToSlots h6->Un (frs outer) [] H H' s.heap h6/\HOk P w H' h6)/\E c dx H'
structure MadeX(h h':Heap)(ea:Addr)(c:Value)(dx:Option Addr):Prop where
 keeps:∀ b o,h.get? b=some o->h'.get? b=some o
 new:h.get? ea=none
 there:∃ t,h'.get? ea=some { cls:=c,dict:=dx,data:=.fields #[.ref t,.none,.none,.none,.bool false,.none] }
theorem MadeX.of (m:Heap.MadeExcOf h h' ea c args):MadeX h h' ea c none:=⟨m.keeps,m.new,let ⟨t,e,_⟩:=m.there;⟨t,e⟩⟩
section
variable {M:Model}{A:Around}{E:Value->Shared->Prop}{s:Shared}{B:Heap}{outer:List Env}{env:Env}{ea L:Addr}{c fl:Value}{dx:Option Addr}{Q:Unit->Shared->Prop}
theorem wI(hfr:A.frames=some (env::outer))(hf:env.frame=some L)(h:Zx B (env::outer) ea c dx fl s.heap)(k:∀ h',Zx B (env::outer) ea c dx (rawInt L) h'->s.heap.UpToSlots h'->Q () { s with heap:=h' }):wpAny M A (noteFrame (.ref ea) env) Q E s:=by
 have hh:=h
 obtain⟨hkb,hen,hl,oe,vs,T,oT,ts,he,⟨hcls,h0⟩,hd,h1,hnT,hTe,hT,hdT,h3⟩:=h
 subst hcls h0
 unfold noteFrame
 simp only[hf]
 refine wpAny_bind (wpAny_field he hd h1 ?_)
 rw[if_pos (show (Value.ref T !=Value.none)=true from by simp)]
 refine wpAny_bind (wpAny_field hT hdT h3 ?_)
 by_cases hq:fl=rawInt L
 ·subst hq
  rw[if_pos (by simp)]
  exact wpAny_pure (k s.heap hh (.refl _))
 ·have other:∀ b,b≠T->(s.heap.update T (Obj.mapFields (·.setIfInBounds 3 Value.none))).get? b=s.heap.get? b:=fun b hb=>Heap.get?_update_other _ _ (Ne.symm hb)
  have noR:∀ b o,s.heap.get? b=some o->(∀ vs,o.data≠ .fields vs)->b≠T:=fun b o hb hnf q=>by
   rw[q,hT]at hb;injection hb with hb;subst hb;exact hnf ts hdT
  rw[if_neg (show ¬ ((fl==rawInt L)=true) from by simpa using hq)]
  refine wpAny_bind (wpAny_setField hT hdT (uF.mp h3).1 ?_)
  refine WF (s:={ s with heap:=_ }) hfr (hl.of_keeps fun b o hb hnf=>⟨o,(other b (noR b o hb hnf)).trans hb,rfl⟩) hf ((other ea (Ne.symm hTe)).trans he)
   (fun b o hbo=>(other b fun q=>by rw[q,hnT]at hbo;cases hbo).trans (hkb b o hbo)) hen hd (uF.mp h1).1
   fun h' x1 x4=>k h' x1 fun b o hb hnf=>x4 b o ((other b (noR b o hb hnf)).trans hb) hnf
theorem zbf{h:Heap}(hfr:A.frames=some (env::outer))(hf:env.frame=some L)(hb:B.StaysIn h)(hl:h.FunFrames B (env::outer))(m:MadeX h s.heap ea c dx)(k:∀ h',Zx B (env::outer) ea c dx (rawInt L) h'->s.heap.UpToSlots h'->Q () { s with heap:=h' }):wpAny M A (noteFrame (.ref ea) env) Q E s:=by
 obtain⟨t,he⟩:=m.there
 unfold noteFrame
 simp only[hf]
 refine wpAny_bind (wpAny_field he rfl rfl ?_)
 rw[if_neg (by simp)]
 refine WF hfr (hl.of_keeps fun b o hb hnf=>⟨o,m.keeps b o hb,rfl⟩) hf he (fun b o e=>m.keeps b o (hb b o e)) ?_ rfl (by simp) k
 cases q:B.get? ea with
 |none=>rfl
 |some o=>have:=hb _ _ q;rw[m.new]at this;cases this
end
section
variable {X:Cx}{pins:List (Addr×Obj)}{σ:St}{H:Hp}{s:Shared}
theorem Inv.flies(I:Inv X pins σ H s)(hx:X.ex= [])(hst:X.stack=X.env::X.outer)(hf:X.env.frame=some X.env.locals)
  (k1:(PySem.W.hideAll s.heap (frs X.stack)).StaysIn h6) (k2:s.heap.UpToSlots h6):Un (frs X.outer) [] X.H₀ H X.s₀.heap h6/\HOk X.prog X.w H h6:=by
 have nex:∀ b,b∉X.ex:=fun b z=>by rw[hx]at z;cases z
 have kk:∀ b o,s.heap.get? b=some o->b∉frs X.stack->h6.get? b=some o:=fun b o e n=>k1 b o (PySem.W.hideAll_get _ e n)
 have fr:∀ b,b∈frs X.stack->∀ o,s.heap.get? b=some o->∃ sl,h6.get? b=some { o with slots:=sl }:=fun b hb o e=>by
  obtain⟨_,o',e',hn⟩:=I.stack.mem hb
  rw[e]at e'
  cases e'
  exact k2 b o e hn
 have hsub:∀ b,b∈frs X.outer->b∈frs X.stack:=fun b hb=>by
  rw[hst]
  unfold frs at hb |-
  rw[xD,hf]
  exact xi _ hb
 have hsup:∀ b,b∈frs X.stack->b=X.env.locals∨b∈frs X.outer:=fun b hb=>by
  rw[hst]at hb
  unfold frs at hb |-
  rw[xD,hf]at hb
  exact xt.mp hb
 have hL:∀ b o,X.s₀.heap.get? b=some o->b≠X.env.locals:=fun b o e z=>by
  have h1:=Heap.lt_size e
  have h2:=I.ok.above
  rw[z]at h1
  exact absurd (xv h1 h2) (uf _)
 refine⟨⟨fun b o e n hb _=>?_,fun b o e n hb _=>?_,fun b o e n _=>I.base.free b o e n (nex b),fun b o e _=>?_,I.base.tups,I.base.frzs,I.base.tbls⟩,fun a o e=>?_⟩
 ·refine kk b o (I.base.keep b o e n hb (nex b)) fun z=>?_
  rcases hsup b z with z | z
  ·exact hL b o e z
  ·exact hb z
 ·obtain⟨sl,e1⟩:=I.base.slot b o e n hb (nex b)
  obtain⟨sl2,e2⟩:=fr b (hsub b hb) _ e1
  exact⟨sl2,e2⟩
 ·obtain⟨o1,e1⟩:=I.base.there b o e (nex b)
  by_cases hb:b∈frs X.stack
  ·obtain⟨sl,e2⟩:=fr b hb _ e1
   exact⟨_,e2⟩
  ·exact⟨o1,kk b o1 e1 hb⟩
 ·refine (I.hok a o e).stay (fun b u hb q=>kk b u q fun z=>?_) (fun _ q=>q) fun _ _ q=>q
  have hn:=I.stkFree b z
  rcases hb with hb | hb
  ·subst hb;rw[e]at hn;cases hn
  ·rw[hb]at hn;cases hn
theorem Je(I:Inv X pins σ H s)(hx:X.ex= [])(hst:X.stack=X.env::X.outer)(hf:X.env.frame=some X.env.locals)
  (hm:MadeX s.heap h' ea c dx)  (q:E c dx H)  :
  wpAny (model X.prog X.w) X.A (leaving X.env (.ref ea)) (fun _ s''=>CX1 X.prog X.w X.outer X.H₀ X.s₀ E (.ref ea) s'') E' { s with heap:=h' }:=by
 have hfr:X.A.frames=some (X.env::X.outer):=by rw[<- hst];exact I.ok.frames
 have hst':=I.stack
 rw[hst]at hst'
 unfold leaving
 refine wpAny_bind (zbf (B:=PySem.W.hideAll s.heap (frs X.stack)) (h:=s.heap) hfr hf (fun b o e=>PySem.W.of_hideAll _ e) (PySem.W.funFrames_hide hst' fun env he a ha=>?_) hm fun h4 al4 up4=>Qu al4 fun h5 ⟨x1,x2,⟨_,_,x3⟩,x4⟩ up5=>?_)
 ·rw[hst];exact uM.mpr ⟨env,he,ha⟩
 ·exact⟨ea,c,dx,_,s.heap,H,rfl,I.os,I.bare,⟨x1,x2,x3,x4⟩,(Heap.UpToSlots.of_keeps hm.keeps).trans (up4.trans up5),fun h6 k1 k2=>I.flies hx hst hf k1 k2,q⟩
end
theorem zbz(h g:Heap)(a:Addr)(o:Obj)(hg:g.get? a=some o):∃ h':Heap,h'.get? a=some o/\∀ b,b≠a->h'.get? b=h.get? b:=by
 have ho:∀ (x y:_) (z:_),o≠⟨x,y,.freed,z⟩:=fun x y z e=>by
  subst e
  unfold Heap.get? at hg
  split at hg
  ·cases hg
  ·rename_i h1
   exact h1 _ _ _ hg
 refine⟨⟨Array.ofFn (n:=max h.objs.size (a+1)) fun i=>if i.val=a then o else (h.objs[i.val]?).getD ⟨.none,none,.freed,#[]⟩,{}⟩,?_,fun b hb=>?_⟩
 ·unfold Heap.get?
  rw[Array.getElem?_ofFn,dif_pos (by omega),if_pos rfl]
  obtain⟨x,y,d,z⟩:=o
  cases d<;>first | rfl | exact absurd rfl (ho _ _ _)
 ·unfold Heap.get?
  rw[Array.getElem?_ofFn]
  by_cases hl:b<max h.objs.size (a+1)
  ·rw[dif_pos hl,if_neg hb]
   cases h.objs[b]?<;>rfl
  ·rw[dif_neg hl,Array.getElem?_eq_none (xH (Nat.le_max_left _ _) (uS.mp hl))]
section
variable {B:Heap}{env:Env}
theorem zbe {env':Env}(h:env.frame=env'.frame):noteFrame x env=noteFrame x env':=by
 unfold noteFrame PySem.frameOf
 rw[h]
theorem WH{h h' B':Heap}(hB:∀ b,B.get? b=none->B'.get? b=none):∀ {l:List Env},h.FunFrames B l->(∀ b∈frs l,h'.get? b=h.get? b)->h'.FunFrames B' l
  |[],_,_=>trivial
  |env::r,⟨hk,⟨L,o,hf,hn,ho,hd⟩,hr⟩,k=>⟨hk,⟨L,o,hf,hB L hn,(k L (by unfold frs;rw[xD,hf];exact .head _)).trans ho,hd⟩,WH hB hr fun b hb=>k b (by
      unfold frs at hb |-;rw[xD,hf];exact .tail _ hb)⟩
end
noncomputable def Up(X:Cx)(pins:List (Addr×Obj))(σ:St)(H:Hp)(C:Addr)(dx:Option Addr)(e:Value)(s:Shared):Prop :=
 ∃ (ea:Addr) (fl:Value) (B:Heap),e=.ref ea/\Zx B X.stack ea (.ref C) dx fl s.heap/\∀ h6,B.StaysIn h6->s.heap.UpToSlots h6->Inv X pins σ H { s with heap:=h6 }
noncomputable def Sk(X:Cx):Prop:=∃ env0 outer0 L,X.stack=env0::outer0/\env0.frame=some L/\X.env.frame=some L
section
variable {X:Cx}{pins:List (Addr×Obj)}{σ:St}{H:Hp}{s s':Shared}{C:Addr}{dx:Option Addr}{e:Value}
theorem Inv.up(I:Inv X pins σ H s)(hc:CX1 X.prog X.w X.stack H s E e s'){G:Prop}(k:∀ c dx H',E c dx H'->(∀ C,c=.ref C->Up X pins σ H' C dx e s')->G):G:=by
 obtain⟨ea,c,dx,B,h0,H',rfl,os,bare,hfl,up,hk,q⟩:=hc
 refine k c dx H' q fun C e=>?_
 subst e
 exact⟨ea,.none,B,rfl,hfl,fun h6 k1 k2=>by
  obtain⟨un,hok⟩:=hk h6 k1 (up.trans k2)
  exact I.call' (s':={ s' with heap:=h6 }) os un hok bare fun b z=>nomatch z⟩
theorem Up.comp (sk:Sk X)(cat:Cat X σ Cn s2 H2 fp)(u:Up (X.comp N' scope cl Cn s2 H2 fp) pins' σ' H C dx e s)
  (k:∀ pins s',Up X pins σ H C dx e s'->X.xe e s'):(X.comp N' scope cl Cn s2 H2 fp).xe e s:=by
 obtain⟨ea,fl,B,rfl,al,inv⟩:=u
 obtain⟨pins,I2,f2,hC⟩:=cat
 obtain⟨env0,outer0,L,hst,hf0,hfx⟩:=sk
 have hfr:X.A.frames=some (env0::outer0):=by rw[<- hst];exact I2.ok.frames
 have al':Zx B (env0::outer0) ea (.ref C) dx fl s.heap:=by rw[<- hst];exact al
 show wpAny (model X.prog X.w) X.A (noteFrame (.ref ea) (compEnvC scope cl Cn X.env)) (fun _ s''=>K2 X Cn (.ref ea) s'') (K2 X Cn) s
 rw[zbe (env':=env0) (show (compEnvC scope cl Cn X.env).frame=env0.frame from hfx.trans hf0.symm)]
 refine wI hfr hf0 al' fun h4 al4 up4=>?_
 obtain⟨g1,g2,g3,g4⟩:=al4
 have I4:=inv h4 g1 up4
 obtain⟨m,hn,_⟩:=I4.loc
 refine⟨m,hn,fun h' sb cenv _=>?_⟩
 obtain⟨oC,es,ep,hoC,hdC,_⟩:=id hn
 have hCf:∀ b o vs,h4.get? b=some o->o.data=.fields vs->b≠Cn:=fun b o vs e1 e2 z=>by
  subst z
  have e3:h4.get? b=some oC:=hoC
  rw[e1]at e3;cases e3
  rw[hdC]at e2;cases e2
 have hfrC:∀ b∈frs (env0::outer0),b≠Cn:=fun b hb z=>by
  rw[<- hst]at hb
  obtain⟨_,o,ho,_⟩:=I2.stack.mem hb
  rw[z]at ho
  exact absurd (Heap.lt_size ho) (uS.mpr hC)
 have hB':∀ b,B.get? b=none->(PySem.W.hideAll B [Cn]).get? b=none:=fun b e1=>by
  cases q:(PySem.W.hideAll B [Cn]).get? b with
  |none=>rfl
  |some o=>rw[PySem.W.of_hideAll _ q]at e1;cases e1
 have hBC:(PySem.W.hideAll B [Cn]).get? Cn=none:=PySem.W.hideAll_none _ (.head _)
 obtain⟨oe,vs,T,oT,ts,he,hcls,hd,h1,hnT,hTe,hT,hdT,h3⟩:=g4
 have he':h'.get? ea=some oe:=(sb.2 ea (hCf _ _ _ he hd)).trans he
 have hT':h'.get? T=some oT:=(sb.2 T (hCf _ _ _ hT hdT)).trans hT
 have al5:Zx (PySem.W.hideAll B [Cn]) X.stack ea (.ref C) dx (rawInt L) h':=by
  rw[hst]
  exact⟨fun b o e1=>(sb.2 b fun z=>by rw[z,hBC]at e1;cases e1).trans (g1 b o (PySem.W.of_hideAll _ e1)),hB' _ g2,WH hB' g3 fun b hb=>sb.2 b (hfrC b hb),oe,vs,T,oT,ts,he',hcls,hd,h1,hB' _ hnT,hTe,hT',hdT,h3⟩
 unfold PySem.passOn
 refine wpAny_bind (wpAny_field he' hd h1 ?_)
 rw[if_neg (show ¬ ((Value.ref T==Value.none)=true) from by simp)]
 refine wpAny_bind (Qu (s:={ s with heap:=h' }) al5 fun h5 al6 up5=>wpAny_throw (k pins _ ⟨ea,_,_,rfl,al6,fun h6 k1 k2=>?_⟩))
 obtain⟨h7,e7,k7⟩:=zbz h6 h4 Cn oC hoC
 have I7:=inv h7 (fun b o e1=>by
  by_cases z:b=Cn
  ·subst z
   have e2:=g1 b o e1
   have e3:h4.get? b=some oC:=hoC
   rw[e3]at e2;cases e2;exact e7
  ·exact (k7 b z).trans (k1 b o (PySem.W.hideAll_get _ e1 (by simpa using z)))) fun b o e1 hnf=>by
  obtain⟨sl,e2⟩:=up4 b o e1 hnf
  by_cases z:b=Cn
  ·subst z
   have e3:h4.get? b=some oC:=hoC
   rw[e3]at e2;cases e2;exact⟨_,e7⟩
  ·obtain⟨sl2,e4⟩:=(up5.trans k2) b _ ((sb.2 b z).trans e2) hnf
   exact⟨sl2,(k7 b z).trans e4⟩
 exact I2.letgo (s5:={ s with heap:=h7 }) (I2.back f2 I7) hC I7.free fun b hb=>(k7 b hb).symm
end
noncomputable abbrev bmV:List Value:= [.type "ValueError",.type "Exception",.type "BaseException",.type "object"]
noncomputable def mroIn(K:PySem.W.Frag)(C:Addr):List Value:=match K.lookup C with
 |some ⟨_,_,.cls cd,_⟩=>cd.mro
 |_=> []
theorem zc4 {K:PySem.W.Frag}{h:Heap}{C:Addr}(X:K.In h) (q:PySem.W.excIn K C bmV "ValueError.__new__" =true) :
  ∃ bm N nm qn bs hdct sn sub ab col dd k0 k1 k2 k3 k5 mN,h.get? C=some (excClassObj nm qn C N bs bm hdct sn sub ab col dd k0 k1 k2 k3 k5 "ValueError.__new__")/\h.Ns N mN/\mN "__init__" =none/\OwnTail h bmV bm/\mroIn K C=Value.ref C::bm:=by
 unfold PySem.W.excIn at q
 unfold mroIn
 split at q
 ·rename_i d0 c0 s0 e0
  rw[e0]
  dsimp only
  split at q
  ·rename_i C1 bm z0 z1 z2 z3 n1 z5 e1 e2
   rw[xa,xa,xa,xa,xa]at q
   obtain⟨⟨⟨⟨⟨q1,q2⟩,q3⟩,q4⟩,q5⟩,q6⟩:=q
   have r1:C1=C:=eq_of_beq q1
   have r2:n1= "ValueError.__new__" :=eq_of_beq q2
   have r3:c0.hasDel=false:=by simpa using q3
   have r6:PySem.W.nsIn K c0.ns "__init__" =some none:=eq_of_beq q6
   subst r1 r2
   have r5:s0=#[z0,z1,z2,z3,some (.builtin "ValueError.__new__"),z5]:=by
    cases s0 with
    |mk l=>exact congrArg Array.mk e2
   cases c0 with
   |mk a1 a2 a3 a4 a5 a6 a7 a8 a9 a10 a11=>
    dsimp only at e1 r3 q5 r6
    subst e1 r3 r5
    exact⟨_,_,_,_,_,_,_,_,_,_,_,_,_,_,_,_,_,X _ _ e0,.of_isNs (PySem.W.isNs_of_in X q5),PySem.W.nsMap_none_of_in X q5 r6,PySem.W.tail_of_in X q4,rfl⟩
  ·cases q
 ·cases q
structure Y9(X:Cx)(x:Str)(C:Addr):Prop where
 gl:Gl X x
 mg:X.mg x=some (.ref C)
 ex:PySem.W.excIn X.K C bmV "ValueError.__new__" =true
 d:(x==("__debug__" :Str))=false
section
variable {X:Cx}{x:Str}{C:Addr}{np cpos pos cp:Pos}{z:Str}{cj:Nat}{σ:St}{H:Hp}{D:qJ}
theorem wx {bm:List Value}(T:OwnTail h bmV bm):bm.contains (.type "BaseException")=true:=(T.hasType (by decide +kernel))
theorem zcy(k:Y9 X x C)(hcalm:X.calm=true)
  (h:∀ pins s,Inv X pins σ H s->∀ h' ea,MadeX s.heap h' ea (.ref C) none->X.xe (.ref ea) { s with heap:=h' }) :
  wpS X (.Raise (some (.Call (.Name x np) [.Constant (.str z) cj cp] [] cpos)) none pos) D σ H:=fun pins s I=>by
 obtain⟨bm,N,nm,qn,bs,hdct,sn,sub,ab,col,dd,k0,k1,k2,k3,k5,mN,hC,hN,hi,T,_⟩:=zc4 I.mod.kin k.ex
 refine wpAny_Raise_call_subT (C:=C) (nm:=nm) (q:=qn) (N:=N) (bs:=bs) (bm:=bm) (hdct:=hdct) (sn:=sn) (sub:=sub) (ab:=ab) (col:=col) (dd:=dd) (k0:=k0) (k1:=k1) (k2:=k2) (k3:=k3) (k5:=k5) (mN:=mN) PySem.F.excBase_ValueError (wx T) (I.ok.hd hcalm) rfl hi (jG I k.gl k.mg ⟨rfl,?_⟩ k.d)
 refine Calls.evalArgs_plain ?_
 have hz:wpE X (.Constant (.str z) cj cp) σ H fun v H'=>v=.str z/\H'=H:=pe_str.wp ⟨rfl,rfl⟩
 have hA:wpA X [.Constant (.str z) cj cp] σ H fun vs H'=>vs= [.str z]/\H'=H:=(zo ze pa_nil rfl).wp (hz.mono fun v H' ⟨e1,e2⟩=>⟨by rw[e1],e2⟩)
 refine wpAny_mono (hA cpos pins s I) (fun vs s1 hq=>?_) fun _ _ y=>y
 obtain⟨ws,H1,I1,r,e,eH⟩:=hq
 subst eH
 have hlen:vs.length=1:=by rw[<- r.length,e];rfl
 exact⟨rfl,by have:=sizeLine_eq;show vs.length<=sizeLine;omega,I1.bk _ _ hC,hN.keeps I1.bk,T.keeps I1.bk,fun h' ea hm=>h pins s1 I1 h' ea (.of hm)⟩
end
noncomputable abbrev Cx.marked(X:Cx)(e:Value):Cx:={ X with A:=X.A.mark (some e),calm:=false,xe:=fun _ _=>False }
noncomputable abbrev Cx.tried(X:Cx)(pins:List (Addr×Obj))(E:Value->Shared->Prop):Cx:={ X with pn:=X.pn++pins,xe:=E }
section
variable {X:Cx}{pins:List (Addr×Obj)}{σ:St}{H:Hp}{s:Shared}{e:Value}{E:Value->Shared->Prop}{D:qJ}{f:Flow}
theorem Cx.Ok.marked(ok:X.Ok)(e:Value):(X.marked e).Ok :=
 ⟨ok.mod,ok.kind,ok.glob,ok.blt,ok.above,ok.inj,ok.has,ok.cab,(fun z=>by cases z),ok.frames,ok.stk,ok.exf,ok.bs,ok.bsz,ok.noex,ok.exfs,ok.funs,ok.frf⟩
theorem Cx.Ok.tried(ok:X.Ok):(X.tried pins E).Ok :=
 ⟨ok.mod,ok.kind,ok.glob,ok.blt,ok.above,ok.inj,ok.has,ok.cab,ok.hd,ok.frames,ok.stk,ok.exf,ok.bs,ok.bsz,ok.noex,ok.exfs,ok.funs,ok.frf⟩
theorem Inv.marked(I:Inv X pins σ H s)(e:Value):Inv (X.marked e) pins σ H s:=⟨I.ok.marked e,I.os,I.bare,I.base,I.loc,I.cell,I.free,I.freeC,I.pin,I.hok,I.len⟩
theorem Inv.tried(I:Inv X pins σ H s)(E:Value->Shared->Prop):Inv (X.tried pins E) [] σ H s:=⟨I.ok.tried,I.os,I.bare,I.base,I.loc,I.cell,I.free,I.freeC,fun p hp=>I.pin p (by simpa using hp),I.hok,I.len⟩
theorem Inv.untried (ok:X.Ok)(I:Inv (X.tried pins E) pins' σ H s):Inv X pins σ H s:=⟨ok,I.os,I.bare,I.base,I.loc,I.cell,I.free,I.freeC,fun p hp=>I.pin p (xq _ hp),I.hok,I.len⟩
theorem SP.untried(ok:X.Ok)(h:SP (X.tried pins E) [] D f s):SP X pins D f s:=by
 cases f with
 |next=>obtain⟨σ',H',I,q⟩:=h;exact⟨σ',H',I.untried ok,q⟩
 |brk=>obtain⟨σ',H',I,q⟩:=h;exact⟨σ',H',I.untried ok,q⟩
 |cont=>obtain⟨σ',H',I,q⟩:=h;exact⟨σ',H',I.untried ok,q⟩
 |ret u=>obtain⟨v,σ',H',I,r,q⟩:=h;exact⟨v,σ',H',I.untried ok,r,q⟩
end
theorem VE{M:Model}{A:Around}{E:Value->Shared->Prop}{h:Heap}{g:Array GenState}{d:Drawn}{t:Nat}{os:OsState}{e:Addr}{oe:Obj}{Q:Bool->Shared->Prop}{b:Bool}{newId newId2:String}
  {nm q:Str} {C N:Addr} {bs bm:List Value} {hdct:Bool} {sn:List Str} {sub:List Value} {ab:Bool} {col:Option Bool} {dd:Option Addr} {k0 k1 k2 k3 k5:Option Value}
  {nm2 q2:Str} {C2 N2:Addr} {bs2 bm2:List Value} {hdct2:Bool} {sn2:List Str} {sub2:List Value} {ab2:Bool} {col2:Option Bool} {dd2:Option Addr} {j0 j1 j2 j3 j5:Option Value}
  (hC:h.get? C=some (excClassObj nm q C N bs bm hdct sn sub ab col dd k0 k1 k2 k3 k5 newId)) (hC2:h.get? C2=some (excClassObj nm2 q2 C2 N2 bs2 bm2 hdct2 sn2 sub2 ab2 col2 dd2 j0 j1 j2 j3 j5 newId2))
  (he:h.get? e=some oe) (hcls:oe.cls=.ref C) (hbase:bm2.contains (.type "BaseException")=true) (hb:(Value.ref C::bm).contains (.ref C2)=b) (hq:Q b ⟨h,g,d,t,os⟩) :
  wpAny M A (excMatches (.ref e) (.ref C2)) Q E ⟨h,g,d,t,os⟩:=by
 have g1:(Value.ref C2::bm2).contains (.type "BaseException")=true:=by rw[ut,hbase,Bool.or_true]
 have g2:=tc_notTuple
 unfold excMatches
 cases b with
 |true=>
  repeat (first | (with_reducible refine wpAny_loadPart_at he ?_;rw[hcls]) | with_reducible refine wpAny_loadPart_at hC2 ?_ | (with_reducible refine wpAny_isSubtype_exc hC2 ?_;rw[g1]) | (with_reducible refine wpAny_isSubtype_exc hC ?_;rw[hb]) | wp_step)
  exact hq
 |false=>
  repeat (first | (with_reducible refine wpAny_loadPart_at he ?_;rw[hcls]) | with_reducible refine wpAny_loadPart_at hC2 ?_ | (with_reducible refine wpAny_isSubtype_exc hC2 ?_;rw[g1]) | (with_reducible refine wpAny_isSubtype_exc hC ?_;rw[hb]) | wp_step)
  exact hq
inductive HC where
 |s (z:Str)
 |b (c:Bool)
noncomputable def HC.V:HC->L2.V
 |.s z=>.str z
 |.b c=>.bl c
noncomputable def HC.D:HC->PyData
 |.s z=>.str z
 |.b c=>.bool c
noncomputable def HC.C:HC->Const
 |.s z=>.str z
 |.b c=>.bool c
theorem zhR {v:HC}:PE X (.Constant v.C j pos) (tC v.V):=by
 cases v with
 |s z=>exact pe_str
 |b c=>exact pe_bl
structure HdK(X:Cx)(hd:ExceptHandler)(C:Addr)(t:Nat)(v:HC):Prop where
 ex:∃ x np y py cj pc pa hp,hd=.ExceptHandler (some (.Name x np)) none [.Assign [.Name y py] (.Constant v.C cj pc) pa] hp/\Y9 X x C/\X.N[t]?=some y/\Loc X.env.scope y/\(X.fn y=true∨X.env.scope.names.lookup y=some .local)
inductive zcA(X:Cx):List ExceptHandler->List (Addr×Nat×HC)->Prop
 |nil:zcA X [] []
 |cons {hd:ExceptHandler} {hs:List ExceptHandler} {C:Addr} {t:Nat} {v:HC} {zs:List (Addr×Nat×HC)}:HdK X hd C t v->zcA X hs zs->zcA X (hd::hs) ((C,t,v)::zs)
section
end
section
variable {X:Cx}{pins:List (Addr×Obj)}{σ:St}{H:Hp}{s s':Shared}{D:qJ}{e:Value}
noncomputable def zig(X:Cx)(pins:List (Addr×Obj))(D:qJ)(hs:List ExceptHandler):Value->Shared->Prop:=fun e s₁=>
 wpAny (model X.prog X.w) X.A (noteFrame e X.env) (fun _ s₂=>wpAny (model X.prog X.w) X.A (setFlight e none) (fun _ s₃=>wpAny (model X.prog X.w) X.A (handleBy e X.env hs) (SP X pins D) X.xe s₃) X.xe s₂) X.xe s₁
theorem zg6 (h:∀ pins,wpB (X.tried pins (zig X pins D (h₀::hs))) body D σ H):wpS X (.Try body (h₀::hs) [] [] pos) D σ H:=fun pins s I=>by
 refine wpAny_Try_except (wpAny_mono (h pins [] s (I.tried _)) (fun f s1 q=>?_) fun e s1 q=>q)
 have q':=SP.untried I.ok q
 cases f with
 |next=>
  obtain⟨σ',H',I',d⟩:=q'
  have w:wpB X [] D σ' H':=pss_nil.wp d
  exact w pins s1 I'
 |brk=>exact q'
 |cont=>exact q'
 |ret u=>exact q'
theorem Wa{CX:CXT}{E:XK}{sp:Sp}{Q:VK}{x:Str}{k:Nat}{e:Expr}{es:List Expr}{p pos:Pos}(kn:Kn X.prog X.w X.K X.mg X.base CX x k sp)(hr:Room k X.A)(hg:Gl X x)
  (hx:∀ pins H s e s',Inv X pins σ H s->CX X.stack H s E e s'->X.xe e s') (h:wpA X (e::es) σ H fun vs H1=>sp vs H1 Q E) (hdb:(x==("__debug__" :Str))=false)
  (he:starEach (e::es) X.env=(false,eval e X.env)::starEach es X.env) (hpl:(backTo pos (starEach es X.env)).any (·.1)=false):wpE X (.Call (.Name x p) (e::es) [] pos) σ H Q:=fun pins s I=>by
 obtain⟨f,fd,ps,F,hm,hk,hb⟩:=kn.ex
 refine wpAny_Call_Name_kw (jG I hg hm ?_ hdb)
 refine PySem.W.callWith_K (h₀:=X.base) I.ok.mod.kin hk (thn (h pos pins s I) fun us s1 ⟨vs,H1,I1,r,q⟩=>⟨I1.kIn,?_⟩) he hpl
 have hl:us.length=ps.length:=by rw[<- r.length];exact F.len _ _ _ _ q
 have hb':=hb s1 us I1.kIn (by simpa using hl)
 rw[xX]at hb'
 refine wpAny_call (codeAny_mono (F.run X.A X.stack s1 H1 ⟨us,[]⟩ us vs Q E hr I1.env0 hb' r q) fun r s' hq=>?_)
 cases r with
 |error e=>exact hx pins H1 s1 e s' I1 hq
 |ok fl=>
  cases fl with
  |ret u=>exact I1.after hq
  |next=>exact False.elim hq
  |brk=>exact False.elim hq
  |cont=>exact False.elim hq
theorem KQ {Q:VK}(kn:Kn X.prog X.w X.K X.mg X.base CX x k sp)(hr:Room k X.A)(hg:Gl X x)
  (hx:∀ pins H s e s',Inv X pins σ H s->CX X.stack H s E e s'->X.xe e s') (h:sp [] H Q E) (hdb:(x==("__debug__" :Str))=false):wpE X (.Call (.Name x p) [] [] pos) σ H Q:=fun pins s I=>by
 obtain⟨f,fd,ps,F,hm,hk,hb⟩:=kn.ex
 refine wpAny_Call_Name_kw (jG I hg hm ?_ hdb)
 refine PySem.W.callWith_K0 I.kIn hk ?_
 have hl:([]:List Value).length=ps.length:=F.len _ _ _ _ h
 have hb':=hb s [] I.kIn (by simpa using hl)
 rw[xX]at hb'
 refine wpAny_call (codeAny_mono (F.run X.A X.stack s H ⟨[],[]⟩ [] [] Q E hr I.env0 hb' .nil h) fun r s' hq=>?_)
 cases r with
 |error e=>exact hx pins H s e s' I hq
 |ok fl=>
  cases fl with
  |ret u=>exact I.after hq
  |next=>exact False.elim hq
  |brk=>exact False.elim hq
  |cont=>exact False.elim hq
end
section
end
section
variable {prog:Program}{w:World}{A:Around}{E:Value->Shared->Prop}{s:Shared}
theorem zb3 {xs:List Value}{Q:List Value->Shared->Prop}(hl:s.heap.IsList l (x::xs).toArray)(hh:A.handled=none)(hz:(x::xs).length<=sizeLine)
  (k:∀ (h2:Heap) (tk:Nat),(∀ b o,s.heap.get? b=some o->h2.get? b=some o)->Q [x,.ref h2.objs.size] { s with heap:=h2.push { cls:=.type "list",data:=.seq xs.toArray },toks:=tk }) :
  wpAny (model prog w) A (unpackItems (.ref l) 2 (some 1)) Q E s:=by
 obtain⟨ol,hol,hcl,hdl⟩:=id hl
 have hlt:=Heap.lt_size hol
 have hne:l≠s.heap.objs.size:=xr hlt
 unfold unpackItems notIterableAtAll
 refine wpAny_bind (wpAny_bind (wpAny_specialOf hl.typeIs PySem.F.slot_list_iter.lookup (wpAny_pure ?_)))
 simp only[xT,if_false]
 refine wpAny_bind (wpAny_holding (wpAny_pyIter_list hl ?_))
 refine wpAny_bind (wpAny_holding (PySem.W.kun_draw hne 1 0 _ _ ⟨_,Heap.get?_push_size _ rfl,rfl,rfl⟩ (hl.push _) (by simp) fun h1 it1 sb1=>?_))
 have hl1:h1.IsList l (x::xs).toArray:=(hl.push _).extBut sb1.extBut hne
 obtain⟨oi,hoi,_⟩:=id it1
 obtain⟨o1,ho1,_⟩:=id hl1
 have hfst:(((x::xs).toArray.toList.drop 0).take 1)= [x]:=rfl
 rw[hfst]
 rw[if_neg (show ¬ ([x].length<1) by simp)]
 refine wpAny_bind (wpAny_holding (PySem.W.kun_collect (s:={ s with heap:=h1 }) (T:= "list_iterator") (.inr (.inr (.inl rfl))) (Walks.list (A:=A.in1) hh s.heap.objs.size l hne (x::xs).toArray) (fun j u st=>st.1.typeIs) (k:=1) (by simp) ⟨it1,hl1⟩ (Heap.lt_size hoi) (Heap.lt_size ho1) (fun h2 tk hk=>?_) (by simpa using hz)))
 have hdr:(x::xs).toArray.toList.drop 1=xs:=rfl
 rw[hdr]
 show wpAny _ _ (if xs.length<2-1-1 then _ else _) _ _ _
 rw[if_neg (by omega)]
 have keep:∀ b o,s.heap.get? b=some o->h2.get? b=some o:=fun b o e=>by
  have hb:b≠s.heap.objs.size:=xr (Heap.lt_size e)
  exact hk b o hb (sb1.extBut b o hb (Heap.get?_push_of_some _ e))
 show wpAny _ _ (newList (xs.take (xs.length-(2-1-1))) >>= fun d=>pure ([x]++ [d]++xs.drop (xs.length-(2-1-1)))) _ _ _
 have h0:xs.length-(2-1-1)=xs.length:=by omega
 rw[h0,uT,uU]
 refine wpAny_bind (wpAny_newList (s:={ s with heap:=h2,toks:=tk }) (wpAny_pure ?_) (by simp at hz;omega))
 exact k h2 tk keep
theorem Kr {xs:List Value}{Q:List Value->Shared->Prop}(hl:IsTup s.heap l (x::xs).toArray)(hh:A.handled=none)(hz:(x::xs).length<=sizeLine)
  (k:∀ (h2:Heap) (tk:Nat),(∀ b o,s.heap.get? b=some o->h2.get? b=some o)->Q [x,.ref h2.objs.size] { s with heap:=h2.push { cls:=.type "list",data:=.seq xs.toArray },toks:=tk }) :
  wpAny (model prog w) A (unpackItems (.ref l) 2 (some 1)) Q E s:=by
 obtain⟨ol,hol,_⟩:=id hl
 have hlt:=Heap.lt_size hol
 have hne:l≠s.heap.objs.size:=xr hlt
 unfold unpackItems notIterableAtAll
 refine wpAny_bind (wpAny_bind (wpAny_specialOf hl.typeIs PySem.F.slot_tuple_iter.lookup (wpAny_pure ?_)))
 simp only[xT,if_false]
 refine wpAny_bind (wpAny_holding (iter_tuple hl ?_))
 refine wpAny_bind (wpAny_holding (draw_tuple hne 1 0 _ _ ⟨_,Heap.get?_push_size _ rfl,rfl,rfl⟩ (hl.push _) (by simp) fun h1 it1 sb1=>?_))
 have hl1:IsTup h1 l (x::xs).toArray:=(hl.push _).extBut sb1.extBut hne
 obtain⟨oi,hoi,_⟩:=id it1
 obtain⟨o1,ho1,_⟩:=id hl1
 have hfst:(((x::xs).toArray.toList.drop 0).take 1)= [x]:=rfl
 rw[hfst]
 rw[if_neg (show ¬ ([x].length<1) by simp)]
 refine wpAny_bind (wpAny_holding (PySem.W.kun_collect (s:={ s with heap:=h1 }) (T:= "tuple_iterator") (.inr (.inr (.inr rfl))) (Walks.tuple (A:=A.in1) hh s.heap.objs.size l hne (x::xs).toArray) (fun j u st=>st.1.typeIs) (k:=1) (by simp) ⟨it1,hl1⟩ (Heap.lt_size hoi) (Heap.lt_size ho1) (fun h2 tk hk=>?_) (by simpa using hz)))
 have hdr:(x::xs).toArray.toList.drop 1=xs:=rfl
 rw[hdr]
 show wpAny _ _ (if xs.length<2-1-1 then _ else _) _ _ _
 rw[if_neg (by omega)]
 have keep:∀ b o,s.heap.get? b=some o->h2.get? b=some o:=fun b o e=>by
  have hb:b≠s.heap.objs.size:=xr (Heap.lt_size e)
  exact hk b o hb (sb1.extBut b o hb (Heap.get?_push_of_some _ e))
 show wpAny _ _ (newList (xs.take (xs.length-(2-1-1))) >>= fun d=>pure ([x]++ [d]++xs.drop (xs.length-(2-1-1)))) _ _ _
 have h0:xs.length-(2-1-1)=xs.length:=by omega
 rw[h0,uT,uU]
 refine wpAny_bind (wpAny_newList (s:={ s with heap:=h2,toks:=tk }) (wpAny_pure ?_) (by simp at hz;omega))
 exact k h2 tk keep
end
section
variable {M:Model}{A:Around}{E:Value->Shared->Prop}{s:Shared}
theorem kH:fillsInplaceSlot (.type "list") "add" true=pure false:=by
 unfold fillsInplaceSlot
 show (typeLookup (.type "list") (dunderI "add") >>= fun z=>pure (z.isSome&& !isSeqSlot z))=pure false
 rw[PySem.F.slot_list_iadd.lookup]
 have z:isSeqSlot (some (.builtin "list.__iadd__"))=true:=by decide +kernel
 show (pure (true&& !isSeqSlot (some (.builtin "list.__iadd__"))):Sem Bool)=pure false
 rw[z];rfl
theorem zbN:seqSlot? (.type "list") (dunderI "add")=pure (some (.builtin "list.__iadd__")):=PySem.seqSlot_of PySem.F.slot_list_iadd.lookup (by decide +kernel)
theorem vn {Q:Value->Shared->Prop}(ha:s.TypeIs a "list") (hb:s.TypeIs b "list") (h:wpAny M A (call (.builtin "list.__iadd__") [a,b]) Q E s):wpAny M A (inplaceOp .Add a b) Q E s:=by
 unfold inplaceOp
 refine wpAny_holding (wpAny_bind (wpAny_typeOf ha (wpAny_bind (wpAny_of_eq kH ?_))))
 show wpAny M A (if false=true then _ else _) Q E s
 rw[if_neg uA]
 refine wpAny_bind (wpAny_binaryOp1_none (nm:= "add") ha hb noFill_list_add (wpAny_bind (wpAny_of_eq zbN ?_)))
 exact wpAny_bind (wpAny_rule h)
end
section
variable {X:Cx}
theorem zdg:PIp X .Add (fun x y H Q=>∃ l b xs zs,x=.ref l/\y=.ref b/\H l=some (.lst xs)/\H b=some (.lst zs)/\xs.length+zs.length<=sizeLine/\Q (.ref l) (upd H l (.lst (xs++zs)))):=by
 intro pins s σ H x y v u Q I rx ry h
 obtain⟨l,b,xs,zs,rfl,rfl,hH,hB,hz,q⟩:=h
 cases rx
 cases ry
 obtain⟨z,its,n,r,hl,e⟩:=I.lstM hH
 obtain⟨z2,its2,n2,r2,hl2,e2⟩:=I.lstM hB
 refine vn ⟨_,e,rfl⟩ ⟨_,e2,rfl⟩ ?_
 have hsz:its.toArray.size+its2.toArray.size<=sizeLine:=by rw[xu,xu];omega
 have hlong:¬ (!its.toArray.isEmpty&&Builtin.List.listTooLong (its.toArray.size+its2.toArray.size))=true:=by
  rw[zbd hsz,Bool.and_false];exact uA
 refine call_meets PySem.F.slot_list_iadd ⟨_,e,rfl⟩ PySem.F.entry_list_iadd (PySem.F.args_list_iadd_2 _ _) (AutoSeq1.list___iadd___list_list_0 l its.toArray n b its2.toArray n2 hlong (by rw[xu];omega) (by omega)) ⟨e,e2,?_⟩
 exact⟨.ref l,_,I.lset (its':=its++its2) hH e (by simp) (r.append r2) (by rw[xC];omega),rfl,q⟩
noncomputable def zeN(K:PySem.W.Frag)(i j:Nat):TG:=fun v σ H Q=>∃ l y ys,v=.ref l/\(SqL K H l (y::ys)∨SqT K H l (y::ys))/\∀ p,H p=none->Q ((σ.set i (some y)).set j (some (.ref p))) (upd H p (.lst ys))
theorem zdy{i j:Nat}(hc:X.calm=true)(hN:X.N.Nodup)(hi:X.N[i]?=some x)(hx:Loc X.env.scope x)(hfx:X.fn x=true∨X.env.scope.names.lookup x=some .local)(hj:X.N[j]?=some y)(hy:Loc X.env.scope y)(hfy:X.fn y=true∨X.env.scope.names.lookup y=some .local) :
  PG X (.Tuple [.Name x px,.Starred (.Name y py) ps] k pos) (zeN X.K i j):=by
 intro pins s σ H v u Q I r h
 obtain⟨l,z,zs,rfl,hq,q⟩:=h
 cases r
 have fin:∀ {w:Value} {ws:List Value} {h2:Heap} {tk:Nat},RelV z w->Vals zs ws->zs.length+1<=sizeLine->(∀ b o,s.heap.get? b=some o->h2.get? b=some o)->wpAny (model X.prog X.w) X.A (assignInOrder ((assignEach [.Name x px,.Starred (.Name y py) ps] X.env).map (·.2)) [w,.ref h2.objs.size]) (fun _ s'=>∃ σ' H',Inv X pins σ' H' s'/\Q σ' H') X.xe { s with heap:=h2.push { cls:=.type "list",data:=.seq ws.toArray },toks:=tk }:=fun {w ws h2 tk} r1 r2 hz keep=>by
  have I2:Inv X pins σ H { s with heap:=h2,toks:=tk }:=I.kept (t':=tk) keep
  have I3:=I2.lnew (t':=tk) r2 (by omega)
  refine assignInOrder_cons (wpAny_assign_Name (jc I3 hN hi hx r1 (fun s4 I4=>?_) hfx))
  refine assignInOrder_cons (wpAny_assign_Name (jc (v:=.ref h2.objs.size) I4 hN hj hy rfl (fun s5 I5=>?_) hfy))
  exact assignInOrder_nil ⟨_,_,I5,q _ I2.fresh⟩
 rw[assign_Tuple]
 refine wpAny_bind (wpAny_standAt ?_)
 unfold unpack
 rcases hq with hq | hq
 ·obtain⟨its,rv,pl,hz⟩:=I.list hq
  cases rv with
  |cons r1 r2=>
   rename_i w ws
   exact wpAny_bind (wpAny_holding (zb3 (x:=w) (xs:=ws) pl.isList (I.ok.hd hc) (by have:=r2.length;simp at hz |-;omega) fun h2 tk keep=>fin r1 r2 (by simpa using hz) keep))
 ·obtain⟨its,rv,pl,hz⟩:=I.tuple hq
  cases rv with
  |cons r1 r2=>
   rename_i w ws
   exact wpAny_bind (wpAny_holding (Kr (x:=w) (xs:=ws) pl (I.ok.hd hc) (by have:=r2.length;simp at hz |-;omega) fun h2 tk keep=>fin r1 r2 (by simpa using hz) keep))
noncomputable def zhz(K:PySem.W.Frag)(n:Nat)(t:TGs):TG:=fun v σ H Q=>∃ a xs,v=.ref a/\SqL K H a xs/\xs.length=n/\t xs σ H Q
theorem zdz {n:Nat}(hc:X.calm=true)(h:PGs X es t)(hn:(assignEach es X.env).length=n)(hst:(assignEach es X.env).findIdx? (·.1)=none):PG X (.Tuple es k pos) (zhz X.K n t):=by
 intro pins s σ H v u Q I r hw
 obtain⟨a,xs,e1,hq,hl,hw⟩:=hw
 subst e1
 cases r
 obtain⟨its,rv,pl,hz⟩:=I.list hq
 rw[assign_Tuple]
 refine wpAny_bind (wpAny_standAt ?_)
 unfold unpack
 have hsz:(assignEach es X.env).length=its.toArray.size:=by rw[hn,<- hl,rv.length,xu]
 rw[hst,hsz]
 refine wpAny_bind (wpAny_holding (PySem.W.kun_itemsOf (I.ok.hd hc) pl.isList fun h' hx=>?_))
 have I1:Inv X pins σ H { s with heap:=h' }:=I.kept (t':=s.toks) fun b o e=>hx b o (xr (Heap.lt_size e)) e
 exact h pins _ σ H xs _ Q I1 (by simpa using rv) hw
end
end L2
namespace L3
open PySem PySem.Spec PyProof.Rows L2
inductive OV where
 |d (x:PyData)
 |l (xs:List OV)
 |t (xs:List OV)
 |m (kvs:List (Str×PyData))
 |o (c:Str) (ns:List Str) (xs:List OV)
noncomputable abbrev Gv:=List (Option OV)
mutual
noncomputable def OV.view:OV->PyData
 |.d x=>x
 |.l xs=>.list (OV.views xs)
 |.t xs=>.tuple (OV.views xs)
 |.m kvs=>.dict (kvs.map dK)
 |.o c ns xs=>.dict ((.none,.str c)::(ns.zip (OV.views xs)).map dK)
noncomputable def OV.views:List OV->List PyData
 |[]=> []
 |x::xs=>x.view::OV.views xs
end
theorem OV.views_d(xs:List PyData):OV.views (xs.map .d)=xs:=by
 induction xs with
 |nil=>rfl
 |cons x xs ih=>simp[OV.views,OV.view,ih]
theorem OV.views_map(xs:List OV):OV.views xs=xs.map OV.view:=by
 induction xs with
 |nil=>rfl
 |cons x xs ih=>simp[OV.views,ih]
variable [Cs]
mutual
/-- v stands for the value;its own lists lie at A -/
inductive OR(M:Addr->Prop)(H:Hp):V->OV->List Addr->Prop
 |d {v:V} {x:PyData}:Rep M H v x->OR M H v (.d x) []
 |l {a:Addr} {vs:List V} {xs:List OV} {A:List Addr}:H a=some (.lst vs)->ORL M H vs xs A->OR M H (.ref a) (.l xs) (a::A)
 |t {a:Addr} {vs:List V} {xs:List OV} {A:List Addr}:H a=some (.tup vs)->ORL M H vs xs A->OR M H (.ref a) (.t xs) A
 |m {a:Addr} {kvs:List (Str×V)} {ds:List (Str×PyData)}:H a=some (.dK (kvs.map kK))->kvs.map (·.1)=ds.map (·.1)->RepL M H (kvs.map (·.2)) (ds.map (·.2))->OR M H (.ref a) (.m ds) [a]
 |o {a dx:Addr} {c:Str} {fs:List (Str×V)} {ns:List Str} {xs:List OV} {A:List Addr}:H a=some (.ins (Cs.adr c) dx fs)->fs.map (·.1)=ns->ORL M H (fs.map (·.2)) xs A->OR M H (.ref a) (.o c ns xs) (a::A)
inductive ORL(M:Addr->Prop)(H:Hp):List V->List OV->List Addr->Prop
 |nil:ORL M H [] [] []
 |cons {v:V} {vs:List V} {x:OV} {xs:List OV} {A B:List Addr}:OR M H v x A->ORL M H vs xs B->ORL M H (v::vs) (x::xs) (A++B)
end
noncomputable abbrev zE:Addr->Prop:=fun _=>False
theorem Qs (hr:∀ v d,Rep M H v d->Rep M' H' v d):∀ {vs:List V}{ds:List PyData},RepL M H vs ds->RepL M' H' vs ds
 |_,_,.nil=>.nil
 |_,_,.cons r t=>.cons (hr _ _ r) (Qs hr t)
theorem OV.views_len(xs:List OV):(OV.views xs).length=xs.length:=by rw[OV.views_map,xo]
theorem ORL.length :∀ {vs:List V}{os:List OV}{A:List Addr},ORL M H vs os A->vs.length=os.length
 |_,_,_,.nil=>rfl
 |_,_,_,.cons _ t=>by rw[xn,xn,ORL.length t]
theorem zeC{α β:Type}:∀ {ns:List α}{xs:List β},ns.length=xs.length->(ns.zip xs).map (·.1)=ns:=fun {ns xs} h=>by rw[List.map_fst_zip (Nat.le_of_eq h)]
theorem zeD{α β:Type}:∀ {ns:List α}{xs:List β},ns.length=xs.length->(ns.zip xs).map (·.2)=xs:=fun {ns xs} h=>by rw[List.map_snd_zip (Nat.le_of_eq h.symm)]
mutual
theorem OR.go (hr:∀ v d,Rep M H v d->Rep M' H' v d)(ht:∀ b xs,H b=some (.tup xs)->H' b=some (.tup xs)):∀ {v:V}{o:OV}{A:List Addr},(∀ a∈A,H' a=H a)->OR M H v o A->OR M' H' v o A
 |_,_,_,_,.d r=>.d (hr _ _ r)
 |_,_,_,h,.l e r=>.l (by rw[h _ xw];exact e) (ORL.go hr ht (fun a ha=>h a (xi _ ha)) r)
 |_,_,_,h,.t e r=>.t (ht _ _ e) (ORL.go hr ht h r)
 |_,_,_,h,.m e k r=>.m (by rw[h _ xw];exact e) k (Qs hr r)
 |_,_,_,h,.o e k r=>.o (by rw[h _ xw];exact e) k (ORL.go hr ht (fun a ha=>h a (xi _ ha)) r)
theorem ORL.go (hr:∀ v d,Rep M H v d->Rep M' H' v d)(ht:∀ b xs,H b=some (.tup xs)->H' b=some (.tup xs)):∀ {v:List V}{o:List OV}{A:List Addr},(∀ a∈A,H' a=H a)->ORL M H v o A->ORL M' H' v o A
 |_,_,_,_,.nil=>.nil
 |_,_,_,h,.cons r t=>   .cons (OR.go hr ht (fun a ha=>h a (xq _ ha)) r) (ORL.go hr ht (fun a ha=>h a (xF _ ha)) t)
end
mutual
/-- given up: it is data from now on -/
theorem OR.rep (hm:∀ b,M' b->M b):∀ {v:V}{o:OV}{A:List Addr},(∀ a∈A,¬ M' a)->OR M H v o A->Rep M' H v o.view
 |_,_,_,_,.d r=>r.less fun b hb _=>hm b hb
 |_,_,_,h,.l e r=>.list e (h _ xw) (ORL.rep hm (fun a ha=>h a (xi _ ha)) r)
 |_,_,_,h,.t e r=>.tuple e (ORL.rep hm h r)
 |_,_,_,h,.m e k r=>.dict (.inl e) (h _ xw) k (Qs (fun _ _ x=>x.less fun b hb _=>hm b hb) r)
 |_,_,_,h,.o (fs:=fs) (ns:=ns) (xs:=xs) e k r=>by
  have hl:ns.length=(OV.views xs).length:=by rw[OV.views_len,<- r.length,<- k,xo,xo]
  refine .inst e (h _ xw) (by rw[zeC hl];exact k) ?_
  rw[zeD hl]
  exact ORL.rep hm (fun a ha=>h a (xi _ ha)) r
theorem ORL.rep (hm:∀ b,M' b->M b):∀ {v:List V}{o:List OV}{A:List Addr},(∀ a∈A,¬ M' a)->ORL M H v o A->RepL M' H v (OV.views o)
 |_,_,_,_,.nil=>.nil
 |_,_,_,h,.cons r t=>.cons (OR.rep hm (fun a ha=>h a (xq _ ha)) r) (ORL.rep hm (fun a ha=>h a (xF _ ha)) t)
end
theorem OR.weak {o:OV}(r:OR M H v o A):Rep zE H v o.view:=r.rep (fun _ h=>h.elim) fun _ _ h=>h
mutual
theorem OR.laid :∀ {v:V}{o:OV}{A:List Addr},OR M H v o A->∀ a∈A,∃ vs,H a=some vs
 |_,_,_,.d _,a,h=>by cases h
 |_,_,_,.l e r,a,h=>by
  rcases xt.mp h with rfl | h
  ·exact⟨_,e⟩
  ·exact ORL.laid r a h
 |_,_,_,.t e r,a,h=>ORL.laid r a h
 |_,_,_,.m e k r,a,h=>by
  rcases xt.mp h with rfl | h
  ·exact⟨_,e⟩
  ·cases h
 |_,_,_,.o e k r,a,h=>by
  rcases xt.mp h with rfl | h
  ·exact⟨_,e⟩
  ·exact ORL.laid r a h
theorem ORL.laid :∀ {v:List V}{o:List OV}{A:List Addr},ORL M H v o A->∀ a∈A,∃ vs,H a=some vs
 |_,_,_,.nil,a,h=>by cases h
 |_,_,_,.cons r t,a,h=>by
  rcases xM.mp h with h | h
  ·exact OR.laid r a h
  ·exact ORL.laid t a h
end
theorem ORL.data :∀ {vs:List V}{ds:List PyData},RepL M H vs ds->ORL M H vs (ds.map .d) []
 |_,_,.nil=>.nil
 |_,_,.cons r t=>.cons (A:= []) (.d r) (ORL.data t)
noncomputable abbrev Fp:=Nat->List Addr
noncomputable def zW(F:Fp)(i:Nat)(A:List Addr):Fp:=fun j=>if j=i then A else F j
theorem zh {i:Nat}:zW F i A i=A:=by unfold zW;rw[if_pos rfl]
theorem zl {i j:Nat}(h:j≠i):zW F i A j=F j:=by unfold zW;rw[if_neg h]
noncomputable def MM(M0:Addr->Prop)(F:Fp):Addr->Prop:=fun a=>M0 a∨∃ i,a∈F i
noncomputable abbrev Nu:=List (Option V)
structure RS(M0:Addr->Prop)(F:Fp)(Γ:Gv)(ν:Nu)(H:Hp):Prop where
 al0:∀ a,M0 a->H a≠none
 dis0:∀ i a,a∈F i->¬ M0 a
 nd:∀ i,(F i).Nodup
 dis:∀ i j a,a∈F i->a∈F j->i=j
 at':∀ i o,Γ[i]?=some (some o)->∃ v,ν[i]?=some (some v)/\OR (MM M0 F) H v o (F i)
 emp:∀ i,(∀ o,Γ[i]?≠some (some o))->F i= []
 len:ν.length=Γ.length
structure Stp(F:Fp)(H:Hp)(F':Fp)(H':Hp):Prop where
 keep:∀ b o,H b=some o->(∀ i,b∉F i)->H' b=some o/\∀ i,b∉F' i
 tups:∀ b xs,H b=some (.tup xs)->H' b=some (.tup xs)
 stay:∀ b,H b≠none->H' b≠none
theorem Stp.refl(F:Fp)(H:Hp):Stp F H F H:=⟨fun _ _ e n=>⟨e,n⟩,fun _ _ e=>e,fun _ h=>h⟩
theorem Stp.trans (a:Stp F H F1 H1)(b:Stp F1 H1 F2 H2):Stp F H F2 H2 :=
 ⟨fun c o e n=>let ⟨e1,n1⟩:=a.keep c o e n;b.keep c o e1 n1,fun c xs e=>b.tups c xs (a.tups c xs e),fun c h=>b.stay c (a.stay c h)⟩
theorem Stp.same (s:Same H H'):Stp F H F H':=⟨fun b o e n=>⟨s b o e,n⟩,fun b xs e=>s b _ e,fun b h=>by
 cases q:H b with
 |none=>exact absurd q h
 |some o=>rw[s b o q];exact fun z=>nomatch z⟩
section
variable {M0:Addr->Prop}{F F':Fp}{Γ:Gv}{ν:Nu}{H H':Hp}
theorem RS.laidF(r:RS M0 F Γ ν H)(h:a∈F i):∃ vs,H a=some vs:=by
 by_cases q:∃ o,Γ[i]?=some (some o)
 ·obtain⟨o,q⟩:=q
  obtain⟨v,_,z⟩:=r.at' i o q
  exact z.laid a h
 ·rw[r.emp i fun o e=>q ⟨o,e⟩]at h;cases h
theorem RS.al(r:RS M0 F Γ ν H):Al (MM M0 F) H:=fun a h=>by
 rcases h with h | ⟨i,h⟩
 ·exact r.al0 a h
 ·obtain⟨vs,e⟩:=r.laidF h
  rw[e];exact fun z=>nomatch z
mutual
/-- data goes through a step -/
theorem zw(s:Stp F H F' H')(h0:∀ a,M0 a->H a≠none):∀ {v:V}{d:PyData},Rep (MM M0 F) H v d->Rep (MM M0 F') H' v d
 |_,_,.none=>.none
 |_,_,.bool b=>.bool b
 |_,_,.int i=>.int i
 |_,_,.str x=>.str x
 |_,_,.list (a:=a) e n q=>by
  have hn:∀ i,a∉F i:=fun i h=>n (.inr ⟨i,h⟩)
  obtain⟨e',n'⟩:=s.keep a _ e hn
  refine .list e' ?_ (qH s h0 q)
  rintro (h | ⟨i,h⟩)
  ·exact n (.inl h)
  ·exact n' i h
 |_,_,.tuple e q=>.tuple (s.tups _ _ e) (qH s h0 q)
 |_,_,.dict (a:=a) e n k q=>by
  have hn:∀ i,a∉F i:=fun i h=>n (.inr ⟨i,h⟩)
  have:∃ o,H a=some o:=by rcases e with e | ⟨o,e⟩<;>exact⟨_,e⟩
  obtain⟨o,eo⟩:=this
  obtain⟨_,n'⟩:=s.keep a _ eo hn
  refine .dict (e.imp (fun z=>(s.keep a _ z hn).1) fun ⟨o,z⟩=>⟨o,(s.keep a _ z hn).1⟩) ?_ k (qH s h0 q)
  rintro (h | ⟨i,h⟩)
  ·exact n (.inl h)
  ·exact n' i h
 |_,_,.inst (a:=a) e n k q=>by
  obtain⟨e',n'⟩:=s.keep a _ e fun i h=>n (.inr ⟨i,h⟩)
  refine .inst e' ?_ k (qH s h0 q)
  rintro (h | ⟨i,h⟩)
  ·exact n (.inl h)
  ·exact n' i h
theorem qH(s:Stp F H F' H')(h0:∀ a,M0 a->H a≠none):∀ {vs:List V}{ds:List PyData},RepL (MM M0 F) H vs ds->RepL (MM M0 F') H' vs ds
 |_,_,.nil=>.nil
 |_,_,.cons r t=>.cons (zw s h0 r) (qH s h0 t)
end
theorem RS.same(r:RS M0 F Γ ν H)(s:Same H H'):RS M0 F Γ ν H' where
 al0 a h:=by
  have:=r.al0 a h
  cases q:H a with
  |none=>exact absurd q this
  |some o=>rw[s a o q];exact fun z=>nomatch z
 dis0:=r.dis0
 nd:=r.nd
 dis:=r.dis
 at' i o e:=by
  obtain⟨v,e1,q⟩:=r.at' i o e
  exact⟨v,e1,q.go (fun v d x=>x.grow s.grow) (fun b xs e=>s b _ e) fun a ha=>by
   obtain⟨vs,z⟩:=q.laid a ha
   rw[z,s a _ z]⟩
 emp:=r.emp
 len:=r.len
theorem RS.put{i:Nat}{A:List Addr}(r:RS M0 F Γ ν H)(s:Stp F H (zW F i A) H')(hF:∀ j,j≠i->∀ a∈F j,H' a=H a)
  (hm:∀ a,M0 a->H' a≠none) (hA0:∀ a∈A,¬ M0 a) (hAn:A.Nodup) (hAd:∀ j,j≠i->∀ a∈A,a∉F j) (hi:i<Γ.length)
  (q:OR (MM M0 (zW F i A)) H' v o A):RS M0 (zW F i A) (Γ.set i (some o)) (ν.set i (some v)) H' where
 al0:=hm
 dis0 j a h:=by
  by_cases hj:j=i
  ·subst hj;rw[zh]at h;exact hA0 a h
  ·rw[zl hj]at h;exact r.dis0 j a h
 nd j:=by
  by_cases hj:j=i
  ·subst hj;rw[zh];exact hAn
  ·rw[zl hj];exact r.nd j
 dis j k a h1 h2:=by
  by_cases hj:j=i
  ·by_cases hk:k=i
   ·rw[hj,hk]
   ·subst hj;rw[zh]at h1;rw[zl hk]at h2;exact absurd h2 (hAd k hk a h1)
  ·by_cases hk:k=i
   ·subst hk;rw[zh]at h2;rw[zl hj]at h1;exact absurd h1 (hAd j hj a h2)
   ·rw[zl hj]at h1;rw[zl hk]at h2;exact r.dis j k a h1 h2
 at' j p e:=by
  by_cases hj:j=i
  ·subst hj
   rw[xl hi]at e
   cases e
   refine⟨v,by rw[xl (by rw[r.len];exact hi)],?_⟩
   rw[zh];exact q
  ·rw[xj (Ne.symm hj)]at e |-
   obtain⟨u,e1,z⟩:=r.at' j p e
   refine⟨u,e1,?_⟩
   rw[zl hj]
   exact z.go (fun v d x=>zw s r.al0 x) s.tups (hF j hj)
 emp j h:=by
  by_cases hj:j=i
  ·subst hj
   rw[xl hi]at h
   exact absurd rfl (h o)
  ·rw[zl hj]
   refine r.emp j fun p e=>h p ?_
   rw[xj (Ne.symm hj)];exact e
 len:=by rw[uh,uh];exact r.len
theorem RS.setD{i:Nat}(r:RS M0 F Γ ν H)(q:Rep (MM M0 F) H v d)(hi:i<Γ.length):∃ F',RS M0 F' (Γ.set i (some (.d d))) (ν.set i (some v)) H/\Stp F H F' H:=by
 have s:Stp F H (zW F i []) H:=⟨fun b o e n=>⟨e,fun j=>by
  by_cases hj:j=i
  ·subst hj;rw[zh];exact fun z=>nomatch z
  ·rw[zl hj];exact n j⟩,fun _ _ e=>e,fun _ h=>h⟩
 exact⟨_,r.put s (fun _ _ _ _=>rfl) r.al0 (fun _ h=>nomatch h) .nil (fun _ _ _ h=>nomatch h) hi (.d (zw s r.al0 q)),s⟩
noncomputable def wu(F:Fp)(n:Nat):Fp:=fun j=>if j<n then F j else []
theorem vj{n j:Nat}(h:j<n):wu F n j=F j:=by unfold wu;rw[if_pos h]
theorem YA{n j:Nat}(h:¬ j<n):wu F n j= []:=by unfold wu;rw[if_neg h]
theorem qV{n j:Nat}(h:a∈wu F n j):j<n/\a∈F j:=by
 unfold wu at h
 split at h
 ·exact⟨by assumption,h⟩
 ·cases h
theorem Zr(h:∀ j a,a∈F' j->∃ k,a∈F k):Stp F H F' H:=⟨fun b o e n=>⟨e,fun j hj=>let ⟨k,hk⟩:=h j b hj;n k hk⟩,fun _ _ e=>e,fun _ h=>h⟩
theorem RS.cut(r:RS M0 F Γ ν H)(n:Nat):RS M0 (wu F n) (Γ.take n) (ν.take n) H/\Stp F H (wu F n) H:=by
 have s:Stp F H (wu F n) H:=Zr fun j a h=>⟨j,(qV h).2⟩
 refine⟨⟨r.al0,fun j a h=>r.dis0 j a (qV h).2,fun j=>?_,fun j k a h1 h2=>r.dis j k a (qV h1).2 (qV h2).2,fun j o e=>?_,fun j h=>?_,?_⟩,s⟩
 ·by_cases hj:j<n
  ·rw[vj hj];exact r.nd j
  ·rw[YA hj];exact .nil
 ·have hj:j<n:=by
   by_cases hj:j<n
   ·exact hj
   ·rw[xy (by rw[ud];omega)]at e;cases e
  rw[xV hj]at e |-
  obtain⟨v,e1,q⟩:=r.at' j o e
  exact⟨v,e1,by rw[vj hj];exact q.go (fun _ _ x=>zw s r.al0 x) s.tups fun _ _=>rfl⟩
 ·by_cases hj:j<n
  ·rw[vj hj]
   refine r.emp j fun o e=>h o ?_
   rw[xV hj];exact e
  ·exact YA hj
 ·rw[ud,ud,r.len]
theorem RS.ext(r:RS M0 F Γ ν H)(k:Nat):RS M0 F (Γ++List.replicate k none) (ν++List.replicate k none) H:=by
 have get:∀ {α:Type} (l:List (Option α)) (j:Nat) (o:α),(l++List.replicate k none)[j]?=some (some o)->l[j]?=some (some o):=fun {α} l j o e=>by
  by_cases hj:j<l.length
  ·rw[xc hj]at e;exact e
  ·rw[xf (by omega),xU]at e
   split at e<;>cases e
 have put:∀ {α:Type} (l:List (Option α)) (j:Nat) (o:α),l[j]?=some (some o)->(l++List.replicate k none)[j]?=some (some o):=fun {α} l j o e=>by
  rw[xc (xb.mp e).1];exact e
 exact⟨r.al0,r.dis0,r.nd,r.dis,fun j o e=>let ⟨v,e1,q⟩:=r.at' j o (get _ _ _ e);⟨v,put _ _ _ e1,q⟩,fun j h=>r.emp j fun o e=>h o (put _ _ _ e),by simp[r.len]⟩
theorem Qv{α:Type}(l:List (Option α))(x:α):(l++List.replicate 1 none).set l.length (some x)=l++ [some x]:=by
 rw[uE _ _ (xh _)];simp
theorem RS.newO {ds:List PyData}(r:RS M0 F Γ ν H)(n:H p=none)(q:RepL (MM M0 F) H vs ds) :
  RS M0 (zW F Γ.length [p]) (Γ++ [some (.l (ds.map .d))]) (ν++ [some (.ref p)]) (upd H p (.lst vs))/\Stp F H (zW F Γ.length [p]) (upd H p (.lst vs)):=by
 have hp:∀ i,p∉F i:=fun i h=>by
  obtain⟨vs,e⟩:=r.laidF h
  rw[n]at e;cases e
 have he:F Γ.length= []:=r.emp _ fun o e=>by
  rw[xy (xh _)]at e;cases e
 have s:Stp F H (zW F Γ.length [p]) (upd H p (.lst vs)):=⟨fun b o e nb=>⟨zB n b o e,fun j h=>by
  by_cases hj:j=Γ.length
  ·subst hj;rw[zh]at h
   have e':b=p:=by simpa using h
   subst e';rw[n]at e;cases e
  ·rw[zl hj]at h;exact nb j h⟩,fun b xs e=>zB n b _ e,fun b h=>by
   by_cases e:b=p
   ·subst e;exact absurd n h
   ·rw[zg e];exact h⟩
 have r1:=(r.ext 1).put (i:=Γ.length) (o:=.l (ds.map .d)) (v:=.ref p) (A:= [p]) (H':=upd H p (.lst vs)) s (fun j _ a ha=>zg (fun e=>hp j (by rw[<- e];exact ha)))
  (fun a h=>s.stay a (r.al0 a h)) (fun a ha h=>by
   have e:a=p:=by simpa using ha
   subst e;exact r.al0 a h n) (xG.mpr ⟨(fun z=>nomatch z),.nil⟩) (fun j _ a ha=>by
   have e:a=p:=by simpa using ha
   subst e;exact hp j) (by simp) (.l zk (ORL.data (qH s r.al0 q)))
 rw[Qv]at r1
 have e2:(ν++List.replicate 1 none).set Γ.length (some (V.ref p))=ν++ [some (V.ref p)]:=by rw[<- r.len,Qv]
 rw[e2]at r1
 exact⟨r1,s⟩
theorem RS.move{i:Nat}(r:RS M0 F (Γ++ [some o]) (ν++ [some v]) H)(hi:i<Γ.length):∃ F',RS M0 F' (Γ.set i (some o)) (ν.set i (some v)) H/\Stp F H F' H:=by
 have hl:ν.length=Γ.length:=by have:=r.len;simp at this;exact this
 have hni:Γ.length≠i:=uX hi
 let F':Fp:=fun j=>if j=i then F Γ.length else if j<Γ.length then F j else []
 have hFi:F' i=F Γ.length:=by show (if i=i then _ else _)=_;rw[if_pos rfl]
 have hFj:∀ j,j≠i->j<Γ.length->F' j=F j:=fun j h1 h2=>by show (if j=i then _ else _)=_;rw[if_neg h1,if_pos h2]
 have hFo:∀ j,j≠i->¬ j<Γ.length->F' j= []:=fun j h1 h2=>by show (if j=i then _ else _)=_;rw[if_neg h1,if_neg h2]
 have sub:∀ j a,a∈F' j->(j=i/\a∈F Γ.length)∨(j≠i/\j<Γ.length/\a∈F j):=fun j a h=>by
  by_cases h1:j=i
  ·subst h1;rw[hFi]at h;exact .inl ⟨rfl,h⟩
  ·by_cases h2:j<Γ.length
   ·rw[hFj j h1 h2]at h;exact .inr ⟨h1,h2,h⟩
   ·rw[hFo j h1 h2]at h;cases h
 have s:Stp F H F' H:=Zr fun j a h=>by
  rcases sub j a h with ⟨_,h⟩ | ⟨_,_,h⟩
  ·exact⟨_,h⟩
  ·exact⟨_,h⟩
 refine⟨F',⟨r.al0,fun j a h=>?_,fun j=>?_,fun j k a h1 h2=>?_,fun j p e=>?_,fun j h=>?_,by simp[hl]⟩,s⟩
 ·rcases sub j a h with ⟨_,h⟩ | ⟨_,_,h⟩
  ·exact r.dis0 _ a h
  ·exact r.dis0 _ a h
 ·by_cases h1:j=i
  ·subst h1;rw[hFi];exact r.nd _
  ·by_cases h2:j<Γ.length
   ·rw[hFj j h1 h2];exact r.nd _
   ·rw[hFo j h1 h2];exact .nil
 ·rcases sub j a h1 with ⟨e1,z1⟩ | ⟨n1,l1,z1⟩
  ·rcases sub k a h2 with ⟨e2,z2⟩ | ⟨n2,l2,z2⟩
   ·rw[e1,e2]
   ·have:=r.dis _ _ a z1 z2;omega
  ·rcases sub k a h2 with ⟨e2,z2⟩ | ⟨n2,l2,z2⟩
   ·have:=r.dis _ _ a z1 z2;omega
   ·exact r.dis _ _ a z1 z2
 ·by_cases hj:j=i
  ·subst hj
   rw[xl hi]at e
   cases e
   obtain⟨u,e1,q⟩:=r.at' Γ.length o (by rw[xf (xh _)];simp)
   rw[xf (by omega),hl]at e1
   simp at e1
   subst e1
   refine⟨v,by rw[xl (by omega)],?_⟩
   rw[hFi];exact q.go (fun _ _ x=>zw s r.al0 x) s.tups fun _ _=>rfl
  ·rw[xj (Ne.symm hj)]at e |-
   have hjl:j<Γ.length:=(xb.mp e).1
   obtain⟨u,e1,q⟩:=r.at' j p (by rw[xc hjl];exact e)
   rw[xc (by omega)]at e1
   exact⟨u,e1,by rw[hFj j hj hjl];exact q.go (fun _ _ x=>zw s r.al0 x) s.tups fun _ _=>rfl⟩
 ·by_cases hj:j=i
  ·subst hj;rw[xl hi]at h;exact absurd rfl (h o)
  ·by_cases h2:j<Γ.length
   ·rw[hFj j hj h2]
    refine r.emp j fun p e=>h p ?_
    rw[xc h2]at e
    rw[xj (Ne.symm hj)];exact e
   ·exact hFo j hj h2
theorem RS.dropD{o:OV}(r:RS M0 F (Γ++ [some o]) (ν++ [some v]) H):∃ F',RS M0 F' Γ ν H/\Stp F H F' H/\Rep (MM M0 F') H v o.view:=by
 have hl:ν.length=Γ.length:=by have:=r.len;simp at this;exact this
 obtain⟨r1,s⟩:=r.cut Γ.length
 have e1:(Γ++ [some o]).take Γ.length=Γ:=by simp
 have e2:(ν++ [some v]).take Γ.length=ν:=by rw[<- hl];simp
 rw[e1,e2]at r1
 refine⟨_,r1,s,?_⟩
 obtain⟨u,e,q⟩:=r.at' Γ.length o (by rw[xf (xh _)];simp)
 rw[xf (by omega),hl]at e
 simp at e
 subst e
 refine q.rep (fun b hb=>?_) (fun a ha hb=>?_)
 ·rcases hb with hb | ⟨j,hb⟩
  ·exact .inl hb
  ·exact .inr ⟨j,(qV hb).2⟩
 ·rcases hb with hb | ⟨j,hb⟩
  ·exact r.dis0 _ a ha hb
  ·have:=r.dis _ _ a ha (qV hb).2
   have:=(qV hb).1
   omega
theorem RS.frz{i:Nat}{o:OV}(r:RS M0 F Γ ν H)(e:Γ[i]?=some (some o)):∃ F' v,ν[i]?=some (some v)/\RS M0 F' (Γ.set i (some (.d o.view))) ν H/\Stp F H F' H/\Rep (MM M0 F') H v o.view:=by
 obtain⟨v,ev,q⟩:=r.at' i o e
 have hi:=(xb.mp e).1
 have s:Stp F H (zW F i []) H:=Zr fun j a h=>by
  by_cases hj:j=i
  ·subst hj;rw[zh]at h;cases h
  ·rw[zl hj]at h;exact⟨j,h⟩
 have hq:Rep (MM M0 (zW F i [])) H v o.view:=q.rep (fun b hb=>by
  rcases hb with hb | ⟨j,hb⟩
  ·exact .inl hb
  ·by_cases hj:j=i
   ·subst hj;rw[zh]at hb;cases hb
   ·rw[zl hj]at hb;exact .inr ⟨j,hb⟩) (fun a ha hb=>by
  rcases hb with hb | ⟨j,hb⟩
  ·exact r.dis0 _ a ha hb
  ·by_cases hj:j=i
   ·subst hj;rw[zh]at hb;cases hb
   ·rw[zl hj]at hb;exact hj (r.dis _ _ a hb ha))
 have r1:=r.put (i:=i) (A:= []) s (fun _ _ _ _=>rfl) r.al0 (fun _ h=>nomatch h) .nil (fun _ _ _ h=>nomatch h) hi (.d hq)
 have e2:ν.set i (some v)=ν:=by
  apply ue
  intro j
  by_cases hj:i=j
  ·subst hj;rw[xl (xb.mp ev).1,ev]
  ·rw[xj hj]
 rw[e2]at r1
 exact⟨_,v,ev,r1,s,hq⟩
theorem RS.mut{i:Nat}{xs xs':List OV}{a:Addr}{vs:List V}(r:RS M0 F Γ ν H)(e:Γ[i]?=some (some (.l xs)))(ev:ν[i]?=some (some (.ref a)))
  (h:∀ us A,H a=some (.lst us)->ORL (MM M0 F) H us xs A->F i=a::A->∃ A',(∀ b∈A',b∈A)/\A'.Nodup/\ORL (MM M0 F) H vs xs' A') :
  ∃ F',RS M0 F' (Γ.set i (some (.l xs'))) ν (upd H a (.lst vs))/\Stp F H F' (upd H a (.lst vs)):=by
 obtain⟨v,ev',q⟩:=r.at' i _ e
 rw[ev]at ev';cases ev'
 have hi:=(xb.mp e).1
 generalize hA:F i=Ai at q
 cases q with
 |l ea qa=>
  rename_i us A
  obtain⟨A',sub,nd',q'⟩:=h us A ea qa hA
  have nd:=r.nd i
  rw[hA]at nd
  have hnA:a∉A:=(xG.mp nd).1
  have inF:∀ b,b∈(a::A')->b∈F i:=fun b hb=>by
   rw[hA]
   rcases xt.mp hb with z | z
   ·rw[z];exact xw
   ·exact xi _ (sub b z)
  have s:Stp F H (zW F i (a::A')) (upd H a (.lst vs)):=⟨fun b o eb nb=>⟨by rw[zg (fun z=>nb i (by rw[hA,z];exact xw))];exact eb,fun j hj=>by
   by_cases z:j=i
   ·subst z;rw[zh]at hj;exact nb j (inF b hj)
   ·rw[zl z]at hj;exact nb j hj⟩,fun b xs eb=>by rw[zg (zhG eb ea (by intro z;cases z))];exact eb,fun b hb=>by
   by_cases z:b=a
   ·subst z;rw[zk];exact fun w=>nomatch w
   ·rw[zg z];exact hb⟩
  have r1:=r.put (i:=i) (o:=.l xs') (v:=.ref a) (A:=a::A') s (fun j hj b hb=>by
    rw[zg]
    intro z
    subst z
    exact hj (r.dis j i b hb (by rw[hA];exact xw))) (fun b hb=>s.stay b (r.al0 b hb)) (fun b hb=>r.dis0 i b (inF b hb)) (xG.mpr ⟨fun z=>hnA (sub a z),nd'⟩)
   (fun j hj b hb hbj=>hj (r.dis j i b hbj (inF b hb))) hi (.l zk (q'.go (fun _ _ x=>zw s r.al0 x) s.tups fun b hb=>by
    rw[zg];intro z;subst z;exact hnA (sub b hb)))
  have e2:ν.set i (some (V.ref a))=ν:=by
   apply ue
   intro j
   by_cases hj:i=j
   ·subst hj;rw[xl (xb.mp ev).1,ev]
   ·rw[xj hj]
  rw[e2]at r1
  exact⟨_,r1,s⟩
end
theorem ORL.snoc (q:Rep M H v d):∀ {vs:List V}{os:List OV}{A:List Addr},ORL M H vs os A->ORL M H (vs++ [v]) (os++ [.d d]) A
 |_,_,_,.nil=>.cons (A:= []) (.d q) .nil
 |_,_,_,.cons r t=>.cons r (ORL.snoc q t)
theorem ORL.setD (q:Rep M H v d):∀ {vs:List V}{os:List OV}{A:List Addr}{j:Nat}{x:PyData},ORL M H vs os A->os[j]?=some (.d x)->ORL M H (vs.set j v) (os.set j (.d d)) A
 |_,_,_,_,_,.nil,e=>by simp at e
 |_,_,_,0,x,.cons r t,e=>by
  simp at e
  subst e
  cases r
  exact .cons (A:= []) (.d q) t
 |_,_,_,j+1,x,.cons r t,e=>.cons r (ORL.setD (j:=j) q t (by simpa using e))
theorem ORL.get :∀ {vs:List V}{os:List OV}{A:List Addr}{j:Nat}{x:PyData},ORL M H vs os A->os[j]?=some (.d x)->∃ v,vs[j]?=some v/\Rep M H v x
 |_,_,_,_,_,.nil,e=>by simp at e
 |_,_,_,0,x,.cons r t,e=>by
  simp at e
  subst e
  cases r with
  |d r=>exact⟨_,rfl,r⟩
 |_,_,_,j+1,x,.cons r t,e=>by
  obtain⟨v,e1,q⟩:=ORL.get (j:=j) t (by simpa using e)
  exact⟨v,by simpa using e1,q⟩
noncomputable abbrev St:=L2.St
structure Exc where
 cls:Str
 pay:PyData
inductive R(α:Type) where
 |ok (a:α)
 |exc (x:Exc) (Γ:Gv)
 |bad
noncomputable def R.bind{α β:Type}(r:R α)(f:α->R β):R β:=match r with
 |.ok a=>f a
 |.exc x Γ=>.exc x Γ
 |.bad=>.bad
noncomputable abbrev EM(α:Type):=Gv->R (α×Gv)
inductive FV where
 |dat (x:PyData)
 |own (i:Nat)
noncomputable def derf(Γ:Gv):FV->Option PyData
 |.dat x=>some x
 |.own i=>match Γ[i]? with
  |some (some o)=>some o.view
  |_=>none
noncomputable def derS(Γ:Gv):FV->Option PyData
 |.dat x=>some x
 |.own i=>match Γ[i]? with
  |some (some (.d x))=>some x
  |_=>none
noncomputable def leaves:List OV->Option (List PyData)
 |[]=>some []
 |.d x::r=>(leaves r).map (x::·)
 |.l _::_=>none
 |.t _::_=>none
 |.m _::_=>none
 |.o _ _ _::_=>none
theorem za1(xs:List PyData):leaves (xs.map .d)=some xs:=by
 induction xs with
 |nil=>rfl
 |cons x r ih=>simp[leaves,ih]
noncomputable def derL(Γ:Gv):FV->Option (List PyData)
 |.dat (.list xs)=>some xs
 |.own i=>match Γ[i]? with
  |some (some (.l xs))=>leaves xs
  |some (some (.d (.list xs)))=>some xs
  |_=>none
 |_=>none
noncomputable abbrev XPT:=Exc->Gv->Fp->Nu->St->Hp->Prop
noncomputable def Sees(mp:List Nat)(ν:Nu)(σ:St):Prop:=∀ (s i:Nat) (v:V),mp[s]?=some i->ν[i]?=some (some v)->σ[s]?=some (some v)
noncomputable def EPost{α:Type}(M0:Addr->Prop)(F:Fp)(ν:Nu)(σ:St)(H:Hp)(XP:XPT)(P:Fp->Gv->Hp->α->Prop)(r:R (α×Gv)):Prop:=match r with
 |.ok (a,Γ')=>∀ F' H',RS M0 F' Γ' ν H'->Stp F H F' H'->P F' Γ' H' a
 |.exc x Γ'=>∀ F' H',RS M0 F' Γ' ν H'->Stp F H F' H'->XP x Γ' F' ν σ H'
 |.bad=>False
section
variable {α β:Type}{M0:Addr->Prop}{F:Fp}{ν:Nu}{σ:St}{H:Hp}{XP:XPT}
theorem EPost.mono{P P':Fp->Gv->Hp->α->Prop}{r:R (α×Gv)}(h:EPost M0 F ν σ H XP P r)(k:∀ F' Γ' H' a,RS M0 F' Γ' ν H'->Stp F H F' H'->P F' Γ' H' a->P' F' Γ' H' a):EPost M0 F ν σ H XP P' r:=by
 cases r with
 |ok a=>exact fun F' H' rs s=>k F' _ H' _ rs s (h F' H' rs s)
 |exc x Γ'=>exact h
 |bad=>exact h
theorem EPost.seq{P:Fp->Gv->Hp->β->Prop}{r:R (α×Gv)}{k:α×Gv->R (β×Gv)}(h:EPost M0 F ν σ H XP P (r.bind k)) :
  EPost M0 F ν σ H XP (fun F1 Γ1 H1 a=>EPost M0 F1 ν σ H1 XP P (k (a,Γ1))) r:=by
 cases r with
 |ok a=>
  obtain⟨a,Γ1⟩:=a
  intro F1 H1 rs1 s1
  have h':EPost M0 F ν σ H XP P (k (a,Γ1)):=h
  revert h'
  generalize k (a,Γ1)=r2
  intro h'
  cases r2 with
  |ok b=>exact fun F' H' rs s=>h' F' H' rs (s1.trans s)
  |exc x Γ'=>exact fun F' H' rs s=>h' F' H' rs (s1.trans s)
  |bad=>exact h'
 |exc x Γ'=>exact h
 |bad=>exact h
theorem EPost.step{P:Fp->Gv->Hp->α->Prop}{r:R (α×Gv)}(h:EPost M0 F ν σ H XP P r)(s1:Stp F H F1 H1):EPost M0 F1 ν σ H1 XP P r:=by
 cases r with
 |ok b=>exact fun F' H' rs s=>h F' H' rs (s1.trans s)
 |exc x Γ'=>exact fun F' H' rs s=>h F' H' rs (s1.trans s)
 |bad=>exact h
end
noncomputable def FOk(M0:Addr->Prop)(F:Fp)(ν:Nu)(H:Hp)(v:V):FV->Prop
 |.dat x=>Rep (MM M0 F) H v x
 |.own i=>ν[i]?=some (some v)
section
variable {M0:Addr->Prop}{F F':Fp}{Γ:Gv}{ν:Nu}{H H':Hp}{v:V}{u:FV}{x:PyData}
theorem FOk.stp(h:FOk M0 F ν H v u)(s:Stp F H F' H')(h0:∀ a,M0 a->H a≠none):FOk M0 F' ν H' v u:=by
 cases u with
 |dat x=>exact zw s h0 h
 |own i=>exact h
theorem FOk.weak(h:FOk M0 F ν H v u)(rs:RS M0 F Γ ν H)(e:derf Γ u=some x):Rep zE H v x:=by
 cases u with
 |dat y=>cases e;exact Rep.less (fun _ z _=>z.elim) h
 |own i=>
  dsimp only [derf]at e
  split at e
  ·rename_i o q
   cases e
   obtain⟨w,e1,r⟩:=rs.at' i o q
   have h':ν[i]?=some (some v):=h
   rw[h']at e1;cases e1
   exact r.weak
  ·cases e
theorem FOk.strong(h:FOk M0 F ν H v u)(rs:RS M0 F Γ ν H)(e:derS Γ u=some x):Rep (MM M0 F) H v x:=by
 cases u with
 |dat y=>cases e;exact h
 |own i=>
  dsimp only [derS]at e
  split at e
  ·rename_i y q
   cases e
   obtain⟨w,e1,r⟩:=rs.at' i _ q
   have h':ν[i]?=some (some v):=h
   rw[h']at e1;cases e1
   generalize F i=A at r
   cases r with
   |d r=>exact r
  ·cases e
theorem ORL.leaf :∀ {vs:List V}{os:List OV}{A:List Addr}{ds:List PyData},ORL M H vs os A->leaves os=some ds->RepL M H vs ds/\A= []
 |_,_,_,_,.nil,e=>by cases e;exact⟨.nil,rfl⟩
 |_,_,_,_,.cons (x:=.d x) r t,e=>by
  unfold leaves at e
  rename_i vs xs A B
  cases q:leaves xs with
  |none=>rw[q]at e;cases e
  |some ys=>
   rw[q]at e;cases e
   obtain⟨h1,h2⟩:=ORL.leaf t q
   cases r with
   |d r=>exact⟨.cons r h1,by rw[h2];rfl⟩
 |_,_,_,_,.cons (x:=.l x) r t,e=>by cases e
 |_,_,_,_,.cons (x:=.t x) r t,e=>by cases e
 |_,_,_,_,.cons (x:=.m x) r t,e=>by cases e
 |_,_,_,_,.cons (x:=.o _ _ x) r t,e=>by cases e
theorem FOk.list (h:FOk M0 F ν H v u)(rs:RS M0 F Γ ν H)(e:derL Γ u=some ds):∃ a vs,v=.ref a/\H a=some (.lst vs)/\RepL (MM M0 F) H vs ds:=by
 unfold derL at e
 split at e
 ·cases e
  obtain⟨a,vs,rfl,e1,_,r⟩:=Rep.lst_inv h
  exact⟨a,vs,rfl,e1,r⟩
 ·rename_i i
  have h':ν[i]?=some (some v):=h
  split at e
  ·rename_i q
   obtain⟨w,e1,r⟩:=rs.at' i _ q
   rw[h']at e1;cases e1
   generalize F i=A at r
   cases r with
   |l ea qa=>exact⟨_,_,rfl,ea,(ORL.leaf qa e).1⟩
  ·rename_i q
   cases e
   obtain⟨w,e1,r⟩:=rs.at' i _ q
   rw[h']at e1;cases e1
   generalize F i=A at r
   cases r with
   |d r=>
    obtain⟨a,vs,rfl,e1,_,r⟩:=Rep.lst_inv r
    exact⟨a,vs,rfl,e1,r⟩
  ·cases e
 ·cases e
end
noncomputable def SE(X:Cx)(XP:XPT)(mp:List Nat)(e:Expr)(f:EM FV):Prop:=∀ (M0:Addr->Prop) (F:Fp) (Γ:Gv) (ν:Nu) (σ:St) (H:Hp) (Q:VK),RS M0 F Γ ν H->Sees mp ν σ ->
 EPost M0 F ν σ H XP (fun F' Γ' H' u=>∀ v,FOk M0 F' ν H' v u->Q v H') (f Γ)->wpE X e σ H Q
noncomputable def SN(X:Cx)(XP:XPT)(mp:List Nat)(e:Expr)(f:EM (List PyData)):Prop:=∀ (M0:Addr->Prop) (F:Fp) (Γ:Gv) (ν:Nu) (σ:St) (H:Hp) (Q:VK),RS M0 F Γ ν H->Sees mp ν σ ->
 EPost M0 F ν σ H XP (fun F' Γ' H' ds=>∀ vs p,RepL (MM M0 F') H' vs ds->H' p=none->Q (.ref p) (upd H' p (.lst vs))) (f Γ)->wpE X e σ H Q
noncomputable def ST(X:Cx)(XP:XPT)(mp:List Nat)(e:Expr)(f:EM Bool):Prop:=∀ (M0:Addr->Prop) (F:Fp) (Γ:Gv) (ν:Nu) (σ:St) (H:Hp) (Q:Bool->Hp->Prop),RS M0 F Γ ν H->Sees mp ν σ ->
 EPost M0 F ν σ H XP (fun F' Γ' H' b=>Q b H') (f Γ)->wpT X e σ H Q
noncomputable def SW(X:Cx)(XP:XPT)(mp:List Nat)(e:Expr)(f:EM Bool):Prop:=∀ (M0:Addr->Prop) (F:Fp) (Γ:Gv) (ν:Nu) (σ:St) (H:Hp) (Q:Bool->Hp->Prop),RS M0 F Γ ν H->Sees mp ν σ ->
 EPost M0 F ν σ H XP (fun F' Γ' H' b=>Q b H') (f Γ)->wpW X e σ H Q
section
variable {X:Cx}{XP:XPT}{mp:List Nat}{a b e:Expr}{pos p:Pos}{fa fb:EM FV}{ta:EM Bool}{na:EM (List PyData)}
section
variable {β:Type}{M0:Addr->Prop}{F:Fp}{Γ:Gv}{ν:Nu}{σ:St}{H:Hp}{P:Fp->Gv->Hp->β->Prop}
theorem SE.run{Q:VK}{k:FV×Gv->R (β×Gv)}(ha:SE X XP mp a fa)(rs:RS M0 F Γ ν H)(hs:Sees mp ν σ)(h:EPost M0 F ν σ H XP P ((fa Γ).bind k))
  (kk:∀ F1 Γ1 H1 u v,RS M0 F1 Γ1 ν H1->Stp F H F1 H1->FOk M0 F1 ν H1 v u->EPost M0 F1 ν σ H1 XP P (k (u,Γ1))->Q v H1):wpE X a σ H Q :=
 ha M0 F Γ ν σ H Q rs hs (h.seq.mono fun F1 Γ1 H1 u rs1 s1 h1 v hv=>kk F1 Γ1 H1 u v rs1 s1 hv h1)
theorem SN.run{Q:VK}{k:List PyData×Gv->R (β×Gv)}(ha:SN X XP mp a na)(rs:RS M0 F Γ ν H)(hs:Sees mp ν σ)(h:EPost M0 F ν σ H XP P ((na Γ).bind k))
  (kk:∀ F1 Γ1 H1 ds vs p,RS M0 F1 Γ1 ν H1->Stp F H F1 H1->RepL (MM M0 F1) H1 vs ds->H1 p=none->EPost M0 F1 ν σ H1 XP P (k (ds,Γ1))->Q (.ref p) (upd H1 p (.lst vs))):wpE X a σ H Q :=
 ha M0 F Γ ν σ H Q rs hs (h.seq.mono fun F1 Γ1 H1 u rs1 s1 h1 vs p r n=>kk F1 Γ1 H1 u vs p rs1 s1 r n h1)
theorem ST.run{Q:Bool->Hp->Prop}{k:Bool×Gv->R (β×Gv)}(ha:ST X XP mp a ta)(rs:RS M0 F Γ ν H)(hs:Sees mp ν σ)(h:EPost M0 F ν σ H XP P ((ta Γ).bind k))
  (kk:∀ F1 Γ1 H1 u,RS M0 F1 Γ1 ν H1->Stp F H F1 H1->EPost M0 F1 ν σ H1 XP P (k (u,Γ1))->Q u H1):wpT X a σ H Q :=
 ha M0 F Γ ν σ H Q rs hs (h.seq.mono fun F1 Γ1 H1 u rs1 s1 h1=>kk F1 Γ1 H1 u rs1 s1 h1)
end
noncomputable def fNew(n:EM (List PyData)):EM FV:=fun Γ=>(n Γ).bind fun (ds,Γ1)=>.ok (.dat (.list ds),Γ1)
theorem SN.se(h:SN X XP mp a na):SE X XP mp a (fNew na):=fun M0 F Γ ν σ H Q rs hs hp=>
 h.run rs hs hp fun F1 Γ1 H1 ds vs p rs1 s1 r n h1=>by
  have s2:Same H1 (upd H1 p (.lst vs)):=zB n
  exact h1 F1 _ (rs1.same s2) (.same s2) _ (Rep.list zk (fun z=>rs1.al p z n) (r.grow s2.grow))
noncomputable def fVar(i:Nat):EM FV:=fun Γ=>match Γ[i]? with
 |some (some (.d x))=>.ok (.dat x,Γ)
 |some (some (.l _))=>.ok (.own i,Γ)
 |some (some (.t _))=>.ok (.own i,Γ)
 |some (some (.m _))=>.ok (.own i,Γ)
 |some (some (.o _ _ _))=>.ok (.own i,Γ)
 |_=>.bad
theorem zgy {s i:Nat}(hN:X.N[s]?=some x) (hv:Vis X.env.scope x) (hm:mp[s]?=some i) (hd:(x==("__debug__" :Str))=false) (hcd:(x==("__classdict__" :Str))=false) :
  SE X XP mp (.Name x pos) (fVar i):=fun M0 F Γ ν σ H Q rs hs hp=>by
 unfold fVar at hp
 split at hp
 ·rename_i y q
  obtain⟨v,e1,r⟩:=rs.at' i _ q
  generalize hA:F i=A at r
  cases r with
  |d r=>exact (qg hN hv hd hcd).wp ⟨v,hs s i v hm e1,hp F H rs (.refl F H) v r⟩
 ·rename_i y q
  obtain⟨v,e1,r⟩:=rs.at' i _ q
  exact (qg hN hv hd hcd).wp ⟨v,hs s i v hm e1,hp F H rs (.refl F H) v e1⟩
 ·rename_i y q
  obtain⟨v,e1,r⟩:=rs.at' i _ q
  exact (qg hN hv hd hcd).wp ⟨v,hs s i v hm e1,hp F H rs (.refl F H) v e1⟩
 ·rename_i y q
  obtain⟨v,e1,r⟩:=rs.at' i _ q
  exact (qg hN hv hd hcd).wp ⟨v,hs s i v hm e1,hp F H rs (.refl F H) v e1⟩
 ·rename_i y _ _ q
  obtain⟨v,e1,r⟩:=rs.at' i _ q
  exact (qg hN hv hd hcd).wp ⟨v,hs s i v hm e1,hp F H rs (.refl F H) v e1⟩
 ·exact hp.elim
noncomputable def fFrz(i:Nat):EM FV:=fun Γ=>match Γ[i]? with
 |some (some o)=>.ok (.dat o.view,Γ.set i (some (.d o.view)))
 |_=>.bad
theorem zgs {s i:Nat}(hN:X.N[s]?=some x) (hv:Vis X.env.scope x) (hm:mp[s]?=some i) (hd:(x==("__debug__" :Str))=false) (hcd:(x==("__classdict__" :Str))=false) :
  SE X XP mp (.Name x pos) (fFrz i):=fun M0 F Γ ν σ H Q rs hs hp=>by
 unfold fFrz at hp
 split at hp
 ·rename_i o q
  obtain⟨F',v,e1,rs1,s1,r⟩:=rs.frz q
  exact (qg hN hv hd hcd).wp ⟨v,hs s i v hm e1,hp F' H rs1 s1 v r⟩
 ·exact hp.elim
noncomputable def fC(x:PyData):EM FV:=fun Γ=>.ok (.dat x,Γ)
theorem zgt{i j}:SE X XP mp (.Constant (.int i) j pos) (fC (.int i)):=fun M0 F Γ ν σ H Q rs hs hp=>pe_int.wp (hp F H rs (.refl F H) _ (Rep.int i))
theorem zdN{x j}:SE X XP mp (.Constant (.bool x) j pos) (fC (.bool x)):=fun M0 F Γ ν σ H Q rs hs hp=>pe_bl.wp (hp F H rs (.refl F H) _ (Rep.bool x))
theorem zdS{j}:SE X XP mp (.Constant .none j pos) (fC .none):=fun M0 F Γ ν σ H Q rs hs hp=>pe_non.wp (hp F H rs (.refl F H) _ Rep.none)
theorem zgw{x j}:SE X XP mp (.Constant (.str x) j pos) (fC (.str x)):=fun M0 F Γ ν σ H Q rs hs hp=>pe_str.wp (hp F H rs (.refl F H) _ (Rep.str x))
noncomputable def OpS(X:Cx)(f:Value->Value->Sem Value)(g:PyData->PyData->Option PyData):Prop:=∀ x y z,g x y=some z->∃ r:R2,OpR X f r/\∀ (M:Addr->Prop) (H:Hp) (v u:V) (Q:VK),
 Al M H->Rep M H v x->Rep M H u y->(∀ w H',Same H H'->Rep M H' w z->Q w H')->r v u H Q
noncomputable def fBin(g:PyData->PyData->Option PyData)(fa fb:EM FV):EM FV:=fun Γ=>(fa Γ).bind fun (u,Γ1)=>(fb Γ1).bind fun (w,Γ2)=>match derS Γ2 u,derS Γ2 w with
 |some x,some y=>match g x y with
  |some z=>.ok (.dat z,Γ2)
  |none=>.bad
 |_,_=>.bad
theorem zgq (ho:OpS X (binaryOp op) g)(ha:SE X XP mp a fa)(hb:SE X XP mp b fb):SE X XP mp (.BinOp a op b pos) (fBin g fa fb):=fun M0 F Γ ν σ H Q rs hs hp=>by
 have key:∀ x y z,g x y=some z->∃ r:R2,OpR X (binaryOp op) r/\∀ (M:Addr->Prop) (H:Hp) (v u:V) (Q:VK),Al M H->Rep M H v x->Rep M H u y->(∀ w H',Same H H'->Rep M H' w z->Q w H')->r v u H Q:=ho
 refine (WP (r:=fun v u H Q=>∃ M x y z,g x y=some z/\Al M H/\Rep M H v x/\Rep M H u y/\∀ w H',Same H H'->Rep M H' w z->Q w H') ?_ ze ze).wp
  (ha.run rs hs hp fun F1 Γ1 H1 u v rs1 s1 o1 h1=>hb.run rs1 hs h1 fun F2 Γ2 H2 w v2 rs2 s2 o2 h2=>?_)
 ·rintro pins s σ H x y v u Q I rx ry ⟨M,dx,dy,dz,e,al,r1,r2,k⟩
  obtain⟨r,hr,hh⟩:=ho dx dy dz e
  exact hr pins s σ H x y v u Q I rx ry (hh M H x y Q al r1 r2 k)
 ·dsimp only at h2
  split at h2
  ·rename_i x y e1 e2
   split at h2
   ·rename_i z e3
    exact⟨MM M0 F2,x,y,z,e3,rs2.al,(o1.stp s2 rs1.al0).strong rs2 e1,o2.strong rs2 e2,fun w' H3 s3 r3=>h2 F2 H3 (rs2.same s3) (.same s3) w' r3⟩
   ·exact h2.elim
  ·exact h2.elim
noncomputable def vX(X:Cx)(op:CmpOp)(g:PyData->PyData->Option Bool):Prop:=∀ x y z,g x y=some z->∃ r:R2,OpR X (compareOp op) r/\∀ (H:Hp) (v u:V) (Q:VK),
 Rep zE H v x->Rep zE H u y->Q (.bl z) H->r v u H Q
noncomputable def fCmp(g:PyData->PyData->Option Bool)(fa fb:EM FV):EM Bool:=fun Γ=>(fa Γ).bind fun (u,Γ1)=>(fb Γ1).bind fun (w,Γ2)=>match derf Γ2 u,derf Γ2 w with
 |some x,some y=>match g x y with
  |some z=>.ok (z,Γ2)
  |none=>.bad
 |_,_=>.bad
noncomputable def fB(t:EM Bool):EM FV:=fun Γ=>(t Γ).bind fun (b,Γ1)=>.ok (.dat (.bool b),Γ1)
theorem Zl (ho:vX X op g):OpR X (compareOp op) (fun v u H Q=>∃ x y z,g x y=some z/\Rep zE H v x/\Rep zE H u y/\Q (.bl z) H):=by
 rintro pins s σ H x y v u Q I rx ry ⟨dx,dy,dz,e,r1,r2,k⟩
 obtain⟨r,hr,hh⟩:=ho dx dy dz e
 exact hr pins s σ H x y v u Q I rx ry (hh H x y Q r1 r2 k)
section
variable {M0:Addr->Prop}{F:Fp}{Γ:Gv}{ν:Nu}{σ:St}{H:Hp}{β:Type}{P:Fp->Gv->Hp->β->Prop}
theorem Yv {k:Bool×Gv->R (β×Gv)}{Q:VK}(ha:SE X XP mp a fa)(hb:SE X XP mp b fb)(rs:RS M0 F Γ ν H)(hs:Sees mp ν σ)(hp:EPost M0 F ν σ H XP P ((fCmp g fa fb Γ).bind k))
  (kk:∀ F2 Γ2 H2 z,RS M0 F2 Γ2 ν H2->Stp F H F2 H2->EPost M0 F2 ν σ H2 XP P (k (z,Γ2))->Q (.bl z) H2) :
  wpE X a σ H fun v H1=>wpE X b σ H1 fun u H2=>∃ x y z,g x y=some z/\Rep zE H2 v x/\Rep zE H2 u y/\Q (.bl z) H2:=by
 have hp':EPost M0 F ν σ H XP P ((fa Γ).bind fun (u,Γ1)=>(fb Γ1).bind fun (w,Γ2)=>(match derf Γ2 u,derf Γ2 w with
  |some x,some y=>match g x y with
   |some z=>R.ok (z,Γ2)
   |none=>.bad
  |_,_=>.bad).bind k):=by
  have e:((fCmp g fa fb Γ).bind k)=((fa Γ).bind fun (u,Γ1)=>(fb Γ1).bind fun (w,Γ2)=>(match derf Γ2 u,derf Γ2 w with
   |some x,some y=>match g x y with
    |some z=>R.ok (z,Γ2)
    |none=>.bad
   |_,_=>.bad).bind k):=by
   unfold fCmp
   cases fa Γ with
   |ok a=>
    obtain⟨a,Γ1⟩:=a
    simp only[R.bind]
    cases fb Γ1<;>rfl
   |exc x y=>rfl
   |bad=>rfl
  rw[<- e];exact hp
 refine ha.run rs hs hp' fun F1 Γ1 H1 u v rs1 s1 o1 h1=>hb.run rs1 hs h1 fun F2 Γ2 H2 w v2 rs2 s2 o2 h2=>?_
 dsimp only at h2
 split at h2
 ·rename_i x y e1 e2
  split at h2
  ·rename_i z e3
   exact⟨x,y,z,e3,(o1.stp s2 rs1.al0).weak rs2 e1,o2.weak rs2 e2,kk F2 Γ2 H2 z rs2 (s1.trans s2) h2⟩
  ·exact h2.elim
 ·exact h2.elim
end
theorem R.bind_ok{α:Type}(r:R α):r.bind .ok=r:=by cases r<;>rfl
theorem zgr (ho:vX X op g)(ha:SE X XP mp a fa)(hb:SE X XP mp b fb)(hm:behindInMarks op b=false):SE X XP mp (.Compare a [op] [b] pos) (fB (fCmp g fa fb)):=fun M0 F Γ ν σ H Q rs hs hp=>
 (zdw (Zl ho) ze ze hm).wp (Yv ha hb rs hs hp fun F2 Γ2 H2 z rs2 s2 h2=>h2 F2 H2 rs2 (.refl _ _) _ (Rep.bool z))
theorem zgP (ho:vX X op g)(ha:SE X XP mp a fa)(hb:SE X XP mp b fb)(hm:behindInMarks op b=false):ST X XP mp (.Compare a [op] [b] pos) (fCmp g fa fb):=fun M0 F Γ ν σ H Q rs hs hp=>
 (zdD (Zl ho) ze ze hm).wp (Yv (k:=.ok) (Q:=fun v H'=>∃ k,v=.bl k/\Q k H') ha hb rs hs (by rw[R.bind_ok];exact hp) fun F2 Γ2 H2 z rs2 s2 h2=>⟨z,rfl,h2 F2 H2 rs2 (.refl _ _)⟩)
end
noncomputable def truD:PyData->Option Bool
 |.none=>some false
 |.bool b=>some b
 |.int i=>some (i !=0)
 |.list xs=>some (!xs.isEmpty)
 |.tuple xs=>some (!xs.isEmpty)
 |_=>none
theorem Vy {vs:List V}{ds:List PyData}(r:RepL M H vs ds):(!vs.isEmpty)= !ds.isEmpty:=by cases r<;>rfl
theorem Y0{K:PySem.W.Frag}(r:Rep M H v x)(e:truD x=some k):zcD K v H k:=by
 cases r with
 |none=>cases e;rfl
 |bool b=>cases e;rfl
 |int i=>cases e;rfl
 |str x=>cases e
 |list ea n q=>cases e;exact .inl ⟨_,SqL.of ea,(Vy q).symm⟩
 |tuple ea q=>cases e;exact .inr (.inl ⟨_,SqT.of ea,(Vy q).symm⟩)
 |dict _ _ _ _=>cases e
 |inst _ _ _ _=>cases e
section
variable {X:Cx}{XP:XPT}{mp:List Nat}{a b c e:Expr}{es:List Expr}{pos p p2:Pos}{fa fb fc:EM FV}{ta tb:EM Bool}
noncomputable def fTru(fa:EM FV):EM Bool:=fun Γ=>(fa Γ).bind fun (u,Γ1)=>match (derf Γ1 u).bind truD with
 |some k=>.ok (k,Γ1)
 |none=>.bad
theorem zb2(ha:SE X XP mp a fa)(he:∀ whole,isTrue a X.env whole=(do let v<-whole;standAt a.pos;holding [v] (truthy v))):ST X XP mp a (fTru fa):=fun M0 F Γ ν σ H Q rs hs hp=>
 (zby ze he).wp (ha.run rs hs hp fun F1 Γ1 H1 u v rs1 s1 o1 h1=>by
  dsimp only at h1
  split at h1
  ·rename_i k ek
   cases ex:derf Γ1 u with
   |none=>rw[ex]at ek;cases ek
   |some x=>
    rw[ex]at ek
    exact⟨k,Y0 (o1.weak rs1 ex) ek,h1 F1 H1 rs1 (.refl _ _)⟩
  ·exact h1.elim)
noncomputable def fNotT(ta:EM Bool):EM Bool:=fun Γ=>(ta Γ).bind fun (b,Γ1)=>.ok (!b,Γ1)
theorem zgQ(h:ST X XP mp a ta):ST X XP mp (.UnaryOp .Not a pos) (fNotT ta):=fun M0 F Γ ν σ H Q rs hs hp=>
 (zgd qR).wp (h.run rs hs hp fun F1 Γ1 H1 b rs1 s1 h1=>h1 F1 H1 rs1 (.refl _ _))
theorem SW.st(h:SW X XP mp a ta):ST X XP mp a ta:=fun M0 F Γ ν σ H Q rs hs hp pins s I=>h M0 F Γ ν σ H Q rs hs hp _ pins s I
theorem zeg(h:ST X XP mp a ta):SW X XP mp (.BoolOp .And [a] pos) ta:=fun M0 F Γ ν σ H Q rs hs hp=>(zdF qR).wp (h M0 F Γ ν σ H Q rs hs hp)
theorem zeh(h:ST X XP mp a ta):SW X XP mp (.BoolOp .Or [a] pos) ta:=fun M0 F Γ ν σ H Q rs hs hp=>(zgg qR).wp (h M0 F Γ ν σ H Q rs hs hp)
noncomputable def fAndT(ta tb:EM Bool):EM Bool:=fun Γ=>(ta Γ).bind fun (b,Γ1)=>if b then tb Γ1 else .ok (false,Γ1)
noncomputable def fOrT(ta tb:EM Bool):EM Bool:=fun Γ=>(ta Γ).bind fun (b,Γ1)=>if b then .ok (true,Γ1) else tb Γ1
theorem zb6(ha:ST X XP mp a ta)(hb:SW X XP mp (.BoolOp .And (b::es) pos) tb):SW X XP mp (.BoolOp .And (a::b::es) pos) (fAndT ta tb):=fun M0 F Γ ν σ H Q rs hs hp=>
 (zgf qR YS).wp (ha.run rs hs hp fun F1 Γ1 H1 b rs1 s1 h1=>by
  cases b with
  |true=>exact vq (hb M0 F1 Γ1 ν σ H1 Q rs1 hs h1)
  |false=>exact vp (h1 F1 H1 rs1 (.refl _ _)))
theorem zeW(ha:ST X XP mp a ta)(hb:SW X XP mp (.BoolOp .Or (b::es) pos) tb):SW X XP mp (.BoolOp .Or (a::b::es) pos) (fOrT ta tb):=fun M0 F Γ ν σ H Q rs hs hp=>
 (zhV qR YS).wp (ha.run rs hs hp fun F1 Γ1 H1 b rs1 s1 h1=>by
  cases b with
  |true=>exact vq (h1 F1 H1 rs1 (.refl _ _))
  |false=>exact vp (hb M0 F1 Γ1 ν σ H1 Q rs1 hs h1))
noncomputable def fAndV(fa fb:EM FV):EM FV:=fun Γ=>(fa Γ).bind fun (u,Γ1)=>match derf Γ1 u with
 |some (.bool true)=>fb Γ1
 |some (.bool false)=>.ok (.dat (.bool false),Γ1)
 |_=>.bad
noncomputable def fOrV(fa fb:EM FV):EM FV:=fun Γ=>(fa Γ).bind fun (u,Γ1)=>match derf Γ1 u with
 |some (.bool true)=>.ok (.dat (.bool true),Γ1)
 |some (.bool false)=>fb Γ1
 |_=>.bad
theorem zbL{op}(h:SE X XP mp a fa):SE X XP mp (.BoolOp op [a] pos) fa:=fun M0 F Γ ν σ H Q rs hs hp=>(zf8 ze).wp (h M0 F Γ ν σ H Q rs hs hp)
theorem zbI(ha:SE X XP mp a fa)(hb:SE X XP mp (.BoolOp .And (b::es) pos) fb):SE X XP mp (.BoolOp .And (a::b::es) pos) (fAndV fa fb):=fun M0 F Γ ν σ H Q rs hs hp=>
 (zf7 ze ze).wp (ha.run rs hs hp fun F1 Γ1 H1 u v rs1 s1 o1 h1=>by
  dsimp only at h1
  split at h1
  ·rename_i ex
   cases o1.weak rs1 ex
   exact⟨true,rfl,vq (hb M0 F1 Γ1 ν σ H1 Q rs1 hs h1)⟩
  ·rename_i ex
   cases o1.weak rs1 ex
   exact⟨false,rfl,vp (h1 F1 H1 rs1 (.refl _ _) _ (Rep.bool false))⟩
  ·exact h1.elim)
theorem zeU(ha:SE X XP mp a fa)(hb:SE X XP mp (.BoolOp .Or (b::es) pos) fb):SE X XP mp (.BoolOp .Or (a::b::es) pos) (fOrV fa fb):=fun M0 F Γ ν σ H Q rs hs hp=>
 (zhT ze ze).wp (ha.run rs hs hp fun F1 Γ1 H1 u v rs1 s1 o1 h1=>by
  dsimp only at h1
  split at h1
  ·rename_i ex
   cases o1.weak rs1 ex
   exact⟨true,rfl,vq (h1 F1 H1 rs1 (.refl _ _) _ (Rep.bool true))⟩
  ·rename_i ex
   cases o1.weak rs1 ex
   exact⟨false,rfl,vp (hb M0 F1 Γ1 ν σ H1 Q rs1 hs h1)⟩
  ·exact h1.elim)
theorem zer:UnR X (unaryOp .Not) (fun x H Q=>∃ k,zcD X.K x H k/\Q (.bl (!k)) H):=by
 intro pins s σ H x v Q I rx h
 obtain⟨k,hk,q⟩:=h
 exact not_of (thn (zca pins s σ H x v _ I rx ⟨k,hk,q⟩) fun b s' ⟨H',I',q'⟩=>⟨.bl (!b),H',I',rfl,q'⟩)
theorem zgv(ha:SE X XP mp a fa):SE X XP mp (.UnaryOp .Not a pos) (fB (fNotT (fTru fa))):=fun M0 F Γ ν σ H Q rs hs hp=>by
 refine (zeS zer ze).wp (ha.run (k:=fun (u,Γ1)=>match (derf Γ1 u).bind truD with
  |some k=>R.ok (FV.dat (.bool (!k)),Γ1)
  |none=>.bad) (P:=fun F' Γ' H' u=>∀ (v:V),FOk M0 F' ν H' v u->Q v H') rs hs ?_ fun F1 Γ1 H1 u v rs1 s1 o1 h1=>?_)
 ·have e:fB (fNotT (fTru fa)) Γ=(fa Γ).bind fun (u,Γ1)=>match (derf Γ1 u).bind truD with
   |some k=>.ok (.dat (.bool (!k)),Γ1)
   |none=>.bad:=by
   unfold fB fNotT fTru
   cases fa Γ with
   |ok a=>
    obtain⟨u,Γ1⟩:=a
    simp only[R.bind]
    cases (derf Γ1 u).bind truD<;>rfl
   |exc x y=>rfl
   |bad=>rfl
  rw[<- e];exact hp
 ·dsimp only at h1
  split at h1
  ·rename_i k ek
   cases ex:derf Γ1 u with
   |none=>rw[ex]at ek;cases ek
   |some x=>
    rw[ex]at ek
    exact⟨k,Y0 (o1.weak rs1 ex) ek,h1 F1 H1 rs1 (.refl _ _) _ (Rep.bool (!k))⟩
  ·exact h1.elim
noncomputable def fIf(t:EM Bool)(fa fb:EM FV):EM FV:=fun Γ=>(t Γ).bind fun (b,Γ1)=>if b then fa Γ1 else fb Γ1
theorem zh2(hc:ST X XP mp c ta)(ha:SE X XP mp a fa)(hb:SE X XP mp b fb):SE X XP mp (.IfExp c a b pos) (fIf ta fa fb):=fun M0 F Γ ν σ H Q rs hs hp=>
 (zbm qR ze ze).wp (hc.run rs hs hp fun F1 Γ1 H1 b rs1 s1 h1=>by
  cases b with
  |true=>exact vq (ha M0 F1 Γ1 ν σ H1 Q rs1 hs h1)
  |false=>exact vp (hb M0 F1 Γ1 ν σ H1 Q rs1 hs h1))
noncomputable def fChain(g g':PyData->PyData->Option Bool)(fa fb fc:EM FV):EM Bool:=fun Γ=>(fa Γ).bind fun (u,Γ1)=>(fb Γ1).bind fun (w,Γ2)=>match derf Γ2 u,derf Γ2 w with
 |some x,some y=>match g x y with
  |some true=>(fc Γ2).bind fun (t,Γ3)=>match derf Γ3 w,derf Γ3 t with
   |some y,some z=>match g' y z with
    |some k=>.ok (k,Γ3)
    |none=>.bad
   |_,_=>.bad
  |some false=>.ok (false,Γ2)
  |none=>.bad
 |_,_=>.bad
theorem R.bind_assoc{α β γ:Type}(r:R α)(f:α->R β)(g:β->R γ):(r.bind f).bind g=r.bind fun a=>(f a).bind g:=by cases r<;>rfl
section
variable {M0:Addr->Prop}{F:Fp}{Γ:Gv}{ν:Nu}{σ:St}{H:Hp}{β:Type}{P:Fp->Gv->Hp->β->Prop}
theorem WC {k:Bool×Gv->R (β×Gv)}{Q:VK}(ha:SE X XP mp a fa)(hb:SE X XP mp b fb)(hc:SE X XP mp c fc)(rs:RS M0 F Γ ν H)(hs:Sees mp ν σ)(hp:EPost M0 F ν σ H XP P ((fChain g g' fa fb fc Γ).bind k))
  (kk:∀ F2 Γ2 H2 z,RS M0 F2 Γ2 ν H2->EPost M0 F2 ν σ H2 XP P (k (z,Γ2))->Q (.bl z) H2) :
  y0 (fun v u H Q=>∃ x y z,g x y=some z/\Rep zE H v x/\Rep zE H u y/\Q (.bl z) H) (fun v u H Q=>∃ x y z,g' x y=some z/\Rep zE H v x/\Rep zE H u y/\Q (.bl z) H) (wpE X a) (wpE X b) (wpE X c) σ H Q:=by
 unfold fChain at hp
 rw[R.bind_assoc]at hp
 refine ha.run rs hs hp fun F1 Γ1 H1 u v rs1 s1 o1 h1=>?_
 dsimp only at h1
 rw[R.bind_assoc]at h1
 refine hb.run rs1 hs h1 fun F2 Γ2 H2 w v2 rs2 s2 o2 h2=>?_
 dsimp only at h2
 split at h2
 ·rename_i x y e1 e2
  split at h2
  ·rename_i e3
   refine⟨x,y,true,e3,(o1.stp s2 rs1.al0).weak rs2 e1,o2.weak rs2 e2,true,rfl,vq ?_⟩
   rw[R.bind_assoc]at h2
   refine hc.run rs2 hs h2 fun F3 Γ3 H3 t v3 rs3 s3 o3 h3=>?_
   dsimp only at h3
   split at h3
   ·rename_i y' z e4 e5
    split at h3
    ·rename_i kz e6
     exact⟨y',z,kz,e6,(o2.stp s3 rs2.al0).weak rs3 e4,o3.weak rs3 e5,kk F3 Γ3 H3 kz rs3 h3⟩
    ·exact h3.elim
   ·exact h3.elim
  ·rename_i e3
   exact⟨x,y,false,e3,(o1.stp s2 rs1.al0).weak rs2 e1,o2.weak rs2 e2,false,rfl,vp (kk F2 Γ2 H2 false rs2 h2)⟩
  ·exact h2.elim
 ·exact h2.elim
end
theorem zbK (ho:vX X op g)(ho':vX X op' g')(ha:SE X XP mp a fa)(hb:SE X XP mp b fb)(hc:SE X XP mp c fc)(hm:lastMarks [op,op'] [b,c]=false) :
  SE X XP mp (.Compare a [op,op'] [b,c] pos) (fB (fChain g g' fa fb fc)):=fun M0 F Γ ν σ H Q rs hs hp=>
 (zbk (Zl ho) (Zl ho') ze ze ze hm).wp (WC ha hb hc rs hs hp fun F2 Γ2 H2 z rs2 h2=>h2 F2 H2 rs2 (.refl _ _) _ (Rep.bool z))
theorem zb1 (ho:vX X op g)(ho':vX X op' g')(ha:SE X XP mp a fa)(hb:SE X XP mp b fb)(hc:SE X XP mp c fc)(hm:lastMarks [op,op'] [b,c]=false) :
  ST X XP mp (.Compare a [op,op'] [b,c] pos) (fChain g g' fa fb fc):=fun M0 F Γ ν σ H Q rs hs hp=>
 (zbx (Zl ho) (Zl ho') ze ze ze hm).wp (WC (k:=.ok) (Q:=fun v H'=>∃ k,v=.bl k/\Q k H') ha hb hc rs hs (by rw[R.bind_ok];exact hp) fun F2 Γ2 H2 z rs2 h2=>⟨z,rfl,h2 F2 H2 rs2 (.refl _ _)⟩)
inductive FOks(M0:Addr->Prop)(F:Fp)(ν:Nu)(H:Hp):List V->List FV->Prop
 |nil:FOks M0 F ν H [] []
 |cons {v:V} {vs:List V} {u:FV} {us:List FV}:FOk M0 F ν H v u->FOks M0 F ν H vs us->FOks M0 F ν H (v::vs) (u::us)
noncomputable def derSs(Γ:Gv):List FV->Option (List PyData)
 |[]=>some []
 |u::us=>match derS Γ u,derSs Γ us with
  |some x,some xs=>some (x::xs)
  |_,_=>none
theorem FOks.strong (rs:RS M0 F Γ ν H):∀ {vs:List V}{us:List FV}{ds:List PyData},FOks M0 F ν H vs us->derSs Γ us=some ds->RepL (MM M0 F) H vs ds
 |_,_,_,.nil,e=>by cases e;exact .nil
 |_,_,_,.cons h t,e=>by
  unfold derSs at e
  split at e
  ·rename_i e1 e2
   cases e
   exact .cons (h.strong rs e1) (FOks.strong rs t e2)
  ·cases e
theorem FOks.length :∀ {vs:List V}{us:List FV},FOks M0 F ν H vs us->vs.length=us.length
 |_,_,.nil=>rfl
 |_,_,.cons _ t=>by rw[xn,xn,FOks.length t]
noncomputable def SL(X:Cx)(XP:XPT)(mp:List Nat)(es:List Expr)(f:EM (List FV)):Prop:=∀ (M0:Addr->Prop) (F:Fp) (Γ:Gv) (ν:Nu) (σ:St) (H:Hp) (Q:List V->Hp->Prop),RS M0 F Γ ν H->Sees mp ν σ ->
 EPost M0 F ν σ H XP (fun F' Γ' H' us=>∀ vs,FOks M0 F' ν H' vs us->Q vs H') (f Γ)->wpA X es σ H Q
theorem SL.run{β:Type}{P:Fp->Gv->Hp->β->Prop}{Q:List V->Hp->Prop}{k:List FV×Gv->R (β×Gv)}(ha:SL X XP mp es fl)(rs:RS M0 F Γ ν H)(hs:Sees mp ν σ)(h:EPost M0 F ν σ H XP P ((fl Γ).bind k))
  (kk:∀ F1 Γ1 H1 us vs,RS M0 F1 Γ1 ν H1->Stp F H F1 H1->FOks M0 F1 ν H1 vs us->EPost M0 F1 ν σ H1 XP P (k (us,Γ1))->Q vs H1):wpA X es σ H Q :=
 ha M0 F Γ ν σ H Q rs hs (h.seq.mono fun F1 Γ1 H1 u rs1 s1 h1 v hv=>kk F1 Γ1 H1 u v rs1 s1 hv h1)
noncomputable def fNil:EM (List FV):=fun Γ=>.ok ([],Γ)
noncomputable def fCons(fa:EM FV)(fl:EM (List FV)):EM (List FV):=fun Γ=>(fa Γ).bind fun (u,Γ1)=>(fl Γ1).bind fun (us,Γ2)=>.ok (u::us,Γ2)
theorem zgF:SL X XP mp [] fNil:=fun M0 F Γ ν σ H Q rs hs hp=>pa_nil.wp (hp F H rs (.refl _ _) [] .nil)
theorem zd1 (ha:SE X XP mp a fa)(hl:SL X XP mp es fl)(hst:starEach (a::es) X.env=(false,eval a X.env)::starEach es X.env):SL X XP mp (a::es) (fCons fa fl):=fun M0 F Γ ν σ H Q rs hs hp=>
 (zo ze ji hst).wp (ha.run rs hs hp fun F1 Γ1 H1 u v rs1 s1 o1 h1=>hl.run rs1 hs h1 fun F2 Γ2 H2 us vs rs2 s2 o2 h2=>h2 F2 H2 rs2 (.refl _ _) _ (.cons (o1.stp s2 rs1.al0) o2))
theorem sz6{n:Nat}(h:n<=1000000):n<=sizeLine:=by have:=sizeLine_eq;omega
noncomputable def fTup(fl:EM (List FV)):EM FV:=fun Γ=>(fl Γ).bind fun (us,Γ1)=>match derSs Γ1 us with
 |some ds=>if us.length<=1000000 then .ok (.dat (.tuple ds),Γ1) else .bad
 |none=>.bad
noncomputable def fLst(fl:EM (List FV)):EM (List PyData):=fun Γ=>(fl Γ).bind fun (us,Γ1)=>match derSs Γ1 us with
 |some ds=>if us.length<=1000000 then .ok (ds,Γ1) else .bad
 |none=>.bad
theorem zgx {x1}(h:SL X XP mp es fl):SE X XP mp (.Tuple es x1 pos) (fTup fl):=fun M0 F Γ ν σ H Q rs hs hp=>
 (zbo ji).wp (h.run rs hs hp fun F1 Γ1 H1 us vs rs1 s1 o1 h1=>by
  dsimp only at h1
  split at h1
  ·rename_i ds e
   split at h1
   ·rename_i hz
    exact⟨by rw[o1.length];exact sz6 hz,fun p n=>h1 F1 _ (rs1.same (zB n)) (.same (zB n)) _ (Rep.tuple zk ((o1.strong rs1 e).grow (zB n).grow))⟩
   ·exact h1.elim
  ·exact h1.elim)
theorem zgH (h:SL X XP mp es fl):SN X XP mp (.List es pos) (fLst fl):=fun M0 F Γ ν σ H Q rs hs hp=>
 (zbn ji).wp (h.run rs hs hp fun F1 Γ1 H1 us vs rs1 s1 o1 h1=>by
  dsimp only at h1
  split at h1
  ·rename_i ds e
   split at h1
   ·rename_i hz
    exact⟨by rw[o1.length];exact sz6 hz,fun p n=>h1 F1 H1 rs1 (.refl _ _) vs p (o1.strong rs1 e) n⟩
   ·exact h1.elim
  ·exact h1.elim)
noncomputable def itemF(Γ:Gv)(u:FV)(i:Int):Option PyData:=match u with
 |.dat (.list xs)=>atI xs i
 |.dat (.tuple xs)=>atI xs i
 |.own k=>match Γ[k]? with
  |some (some (.l xs))=>match atI xs i with
   |some (.d x)=>some x
   |_=>none
  |some (some (.d (.list xs)))=>atI xs i
  |_=>none
 |_=>none
theorem zcG{α:Type}{xs:List α}{i:Int}{x:α}(h:atI xs i=some x):∃ j,ixN xs.length i=some j/\xs[j]?=some x:=by
 unfold atI at h
 cases e:ixN xs.length i with
 |none=>rw[e]at h;cases h
 |some j=>rw[e]at h;exact⟨j,rfl,h⟩
theorem ze7{α:Type}{xs:List α}{i:Int}{x:α}{j:Nat}(h:ixN xs.length i=some j)(h2:xs[j]?=some x):atI xs i=some x:=by
 unfold atI;rw[h];exact h2
theorem FOk.item {i:Int}{K:PySem.W.Frag}(h:FOk M0 F ν H v u)(rs:RS M0 F Γ ν H)(e:itemF Γ u i=some x) :
  ∃ l vs w,v=.ref l/\(SqL K H l vs∨SqT K H l vs)/\atI vs i=some w/\Rep (MM M0 F) H w x:=by
 unfold itemF at e
 split at e
 ·obtain⟨a,vs,rfl,e1,_,r⟩:=Rep.lst_inv h
  obtain⟨w,ew,rw'⟩:=W7 r e
  exact⟨a,vs,w,rfl,.inl (SqL.of e1),ew,rw'⟩
 ·obtain⟨a,vs,rfl,e1,r⟩:=Rep.tup_inv h
  obtain⟨w,ew,rw'⟩:=W7 r e
  exact⟨a,vs,w,rfl,.inr (SqT.of e1),ew,rw'⟩
 ·rename_i k
  have h':ν[k]?=some (some v):=h
  split at e
  ·rename_i q
   split at e
   ·rename_i y eo
    cases e
    obtain⟨w,e1,r⟩:=rs.at' k _ q
    rw[h']at e1;cases e1
    generalize F k=A at r
    cases r with
    |l ea qa=>
     obtain⟨j,ej,exj⟩:=zcG eo
     obtain⟨w,ew,r⟩:=qa.get exj
     rw[<- qa.length]at ej
     exact⟨_,_,w,rfl,.inl (SqL.of ea),ze7 ej ew,r⟩
   ·cases e
  ·rename_i q
   obtain⟨w,e1,r⟩:=rs.at' k _ q
   rw[h']at e1;cases e1
   generalize F k=A at r
   cases r with
   |d r=>
    obtain⟨a,vs,rfl,e1,_,r⟩:=Rep.lst_inv r
    obtain⟨w,ew,rw'⟩:=W7 r e
    exact⟨a,vs,w,rfl,.inl (SqL.of e1),ew,rw'⟩
  ·cases e
 ·cases e
noncomputable def fIx(fa fb:EM FV):EM FV:=fun Γ=>(fa Γ).bind fun (u,Γ1)=>(fb Γ1).bind fun (w,Γ2)=>match derf Γ2 w with
 |some (.int i)=>match itemF Γ2 u i with
  |some x=>.ok (.dat x,Γ2)
  |none=>.bad
 |_=>.bad
theorem zh3(ha:SE X XP mp a fa)(hb:SE X XP mp b fb)(hx:W5 b):SE X XP mp (.Subscript a b pos) (fIx fa fb):=fun M0 F Γ ν σ H Q rs hs hp=>
 (zhS (ix_list.or zfN) ze ze hx).wp (ha.run rs hs hp fun F1 Γ1 H1 u v rs1 s1 o1 h1=>hb.run rs1 hs h1 fun F2 Γ2 H2 w v2 rs2 s2 o2 h2=>by
  dsimp only at h2
  split at h2
  ·rename_i i e1
   split at h2
   ·rename_i x e2
    obtain⟨l,vs,z,rfl,hq,ez,rz⟩:=(o1.stp s2 rs1.al0).item (K:=X.K) rs2 e2
    cases o2.weak rs2 e1
    rcases hq with hq | hq
    ·exact .inl ⟨l,vs,i,z,rfl,rfl,hq,ez,h2 F2 H2 rs2 (.refl _ _) z rz⟩
    ·exact .inr ⟨l,vs,i,z,rfl,rfl,hq,ez,h2 F2 H2 rs2 (.refl _ _) z rz⟩
   ·exact h2.elim
  ·exact h2.elim)
noncomputable def SOp(X:Cx)(XP:XPT)(mp:List Nat)(e:Option Expr)(f:EM (Option Int)):Prop:=∃ t:TO,PO X e t/\∀ (M0:Addr->Prop) (F:Fp) (Γ:Gv) (ν:Nu) (σ:St) (H:Hp) (Q:Option Int->Hp->Prop),RS M0 F Γ ν H->Sees mp ν σ ->
 EPost M0 F ν σ H XP (fun F' Γ' H' b=>Q b H') (f Γ)->t σ H Q
noncomputable def zhs:EM (Option Int):=fun Γ=>.ok (none,Γ)
noncomputable def zhr(fa:EM FV):EM (Option Int):=fun Γ=>(fa Γ).bind fun (u,Γ1)=>match derf Γ1 u with
 |some (.int i)=>.ok (some i,Γ1)
 |_=>.bad
theorem zd6:SOp X XP mp none zhs:=⟨_,vG,fun M0 F Γ ν σ H Q rs hs hp=>hp F H rs (.refl _ _)⟩
theorem zd8(ha:SE X XP mp a fa):SOp X XP mp (some a) (zhr fa):=⟨_,vH ze,fun M0 F Γ ν σ H Q rs hs hp=>ha.run rs hs hp fun F1 Γ1 H1 u v rs1 s1 o1 h1=>by
 dsimp only at h1
 split at h1
 ·rename_i i e1
  cases o1.weak rs1 e1
  exact⟨i,rfl,h1 F1 H1 rs1 (.refl _ _)⟩
 ·exact h1.elim⟩
noncomputable def zaw(fa fb:EM FV):EM (List PyData):=fun Γ=>(fa Γ).bind fun (u,Γ1)=>(fb Γ1).bind fun (w,Γ2)=>match derL Γ2 u,derL Γ2 w with
 |some xs,some ys=>if xs.length+ys.length<=1000000 then .ok (xs++ys,Γ2) else .bad
 |_,_=>.bad
theorem zgG(ha:SE X XP mp a fa)(hb:SE X XP mp b fb):SN X XP mp (.BinOp a .Add b pos) (zaw fa fb):=fun M0 F Γ ν σ H Q rs hs hp=>
 (WP zf1 ze ze).wp (ha.run rs hs hp fun F1 Γ1 H1 u v rs1 s1 o1 h1=>hb.run rs1 hs h1 fun F2 Γ2 H2 w v2 rs2 s2 o2 h2=>by
  dsimp only at h2
  split at h2
  ·rename_i xs ys e1 e2
   split at h2
   ·rename_i hz
    obtain⟨l,vs,rfl,el,rl⟩:=(o1.stp s2 rs1.al0).list rs2 e1
    obtain⟨l2,vs2,rfl,el2,rl2⟩:=o2.list rs2 e2
    exact⟨l,l2,vs,vs2,rfl,rfl,el,el2,by rw[rl.length,rl2.length];exact sz6 hz,fun p n=>h2 F2 H2 rs2 (.refl _ _) _ p (rl.append rl2) n⟩
   ·exact h2.elim
  ·exact h2.elim)
structure BiK(X:Cx)(x:Str)(val:Value):Prop where
 gl:Gl X x
 mg:X.mg x=none
 bt:bootBuiltins x=some val
 n:x≠ "__name__"
 d:(x==("__debug__" :Str))=false
noncomputable def lenD:PyData->Option Nat
 |.list xs=>some xs.length
 |.tuple xs=>some xs.length
 |_=>none
noncomputable def f1(g:PyData->Option PyData)(fa:EM FV):EM FV:=fun Γ=>(fa Γ).bind fun (u,Γ1)=>match (derf Γ1 u).bind g with
 |some y=>.ok (.dat y,Γ1)
 |none=>.bad
noncomputable def Wo(X:Cx)(f:Value)(g:PyData->Option PyData):Prop:=∀ x z,g x=some z->noL z=true/\∃ r,jo X f r/\∀ (H:Hp) (v:V) (Q:VK),
 Rep zE H v x->(∀ w,Rep zE H w z->Q w H)->r [v] H Q
theorem Ve (ho:Wo X f g):jo X f (fun vs H Q=>∃ v x z,vs= [v]/\g x=some z/\Rep zE H v x/\∀ w,Rep zE H w z->Q w H):=by
 rintro pins s σ H xs us Q I r ⟨v,x,z,rfl,e,rv,k⟩
 obtain⟨_,r',hr,hh⟩:=ho x z e
 exact hr pins s σ H [v] us Q I r (hh H v Q rv k)
theorem zav {Q:VK}(hz:∀ x z,g x=some z->noL z=true)(ha:SE X XP mp a fa)(rs:RS M0 F Γ ν H)(hs:Sees mp ν σ)(hst:starEach [a] X.env= [(false,eval a X.env)])
  (hp:EPost M0 F ν σ H XP (fun F' Γ' H' u=>∀ v,FOk M0 F' ν H' v u->Q v H') (f1 g fa Γ)):wpA X [a] σ H fun vs H1=>∃ v x z,vs= [v]/\g x=some z/\Rep zE H1 v x/\∀ w,Rep zE H1 w z->Q w H1 :=
 (zo ze pa_nil hst).wp (ha.run rs hs hp fun F1 Γ1 H1 u v rs1 s1 o1 h1=>by
  dsimp only at h1
  split at h1
  ·rename_i y ey
   cases ex:derf Γ1 u with
   |none=>rw[ex]at ey;cases ey
   |some x=>
    rw[ex]at ey
    exact⟨v,x,y,rfl,ey,o1.weak rs1 ex,fun w rw'=>h1 F1 H1 rs1 (.refl _ _) w (Rep.free (hz x y ey) rw')⟩
  ·exact h1.elim)
theorem zeT{x:Str}{id:String}{g:PyData->Option PyData}(ho:Wo X (.builtin id) g)(B:BiK X x (.builtin id))(ha:SE X XP mp a fa)(hst:starEach [a] X.env= [(false,eval a X.env)]):SE X XP mp (.Call (.Name x p) [a] [] pos) (f1 g fa):=fun M0 F Γ ν σ H Q rs hs hp=>
 (Za (Ve ho) B.gl B.mg B.bt ji B.n B.d hst rfl).wp (zav (fun x z e=>(ho x z e).1) ha rs hs hst hp)
theorem zh4{x:Str}{id:String}{g:PyData->Option PyData}(ho:Wo X (.type id) g)(B:BiK X x (.type id))(ha:SE X XP mp a fa)(hst:starEach [a] X.env= [(false,eval a X.env)]):SE X XP mp (.Call (.Name x p) [a] [] pos) (f1 g fa):=fun M0 F Γ ν σ H Q rs hs hp=>
 (ju (Ve ho) B.gl B.mg B.bt ji B.n B.d hst rfl).wp (zav (fun x z e=>(ho x z e).1) ha rs hs hst hp)
noncomputable def gLen(x:PyData):Option PyData:=(lenD x).map fun n=>.int n
theorem zfs:Wo X (.builtin "len") gLen:=fun x z e=>by
 cases x with
 |list xs=>cases e;exact⟨rfl,_,Qe,fun H v Q r k=>by
   obtain⟨l,vs,rfl,el,_,rl⟩:=r.lst_inv
   exact⟨l,vs,rfl,.inl (SqL.of el),by rw[rl.length];exact k _ (.int _)⟩⟩
 |tuple xs=>cases e;exact⟨rfl,_,Qe,fun H v Q r k=>by
   obtain⟨l,vs,rfl,el,rl⟩:=r.tup_inv
   exact⟨l,vs,rfl,.inr (SqT.of el),by rw[rl.length];exact k _ (.int _)⟩⟩
 |_=>cases e
noncomputable def gInt:PyData->Option PyData
 |.int i=>some (.int i)
 |.bool b=>some (.int (if b then 1 else 0))
 |_=>none
theorem zfr:Wo X (.type "int") gInt:=fun x z e=>by
 cases x with
 |int i=>cases e;exact⟨rfl,_,WA,fun H v Q r k=>by cases r;exact .inl ⟨i,rfl,k _ (.int _)⟩⟩
 |bool b=>cases e;exact⟨rfl,_,WA,fun H v Q r k=>by cases r;exact .inr ⟨b,rfl,k _ (.int _)⟩⟩
 |_=>cases e
noncomputable def qP:List PyData->Option (List Bool)
 |[]=>some []
 |.bool b::r=>(qP r).map (b::·)
 |_=>none
theorem v9(bs:List Bool):qP (bs.map .bool)=some bs:=by
 induction bs with
 |nil=>rfl
 |cons b r ih=>simp[qP,ih]
theorem JG:∀ {ds:List PyData}{bs:List Bool},qP ds=some bs->ds=bs.map .bool
 |[],bs,e=>by cases e;rfl
 |.bool b::r,bs,e=>by
  unfold qP at e
  cases q:qP r with
  |none=>rw[q]at e;cases e
  |some l=>rw[q]at e;cases e;rw[JG q];rfl
 |.none::r,bs,e=>by cases e
 |.int _::r,bs,e=>by cases e
 |.str _::r,bs,e=>by cases e
 |.list _::r,bs,e=>by cases e
 |.tuple _::r,bs,e=>by cases e
 |.dict _::r,bs,e=>by cases e
noncomputable def gAll:PyData->Option PyData
 |.list xs=>(qP xs).map fun bs=>.bool (bs.all id)
 |_=>none
theorem zfq (hc:X.calm=true):Wo X (.builtin "all") gAll:=fun x z e=>by
 cases x with
 |list xs=>
  dsimp only [gAll]at e
  cases q:qP xs with
  |none=>rw[q]at e;cases e
  |some bs=>
   rw[q]at e;cases e
   exact⟨rfl,_,kA hc,fun H v Q r k=>by
    obtain⟨l,vs,rfl,el,_,rl⟩:=r.lst_inv
    rw[JG q]at rl
    rw[rl.bls]at el
    exact⟨l,bs,rfl,SqL.of el,k _ (.bool _)⟩⟩
 |_=>cases e
noncomputable def zC(Γ:Gv)(u:FV):Option (List PyData):=match u with
 |.dat (.tuple xs)=>some xs
 |u=>derL Γ u
theorem FOk.seq {K:PySem.W.Frag}(h:FOk M0 F ν H v u)(rs:RS M0 F Γ ν H)(e:zC Γ u=some ds) :
  ∃ l vs,v=.ref l/\(SqL K H l vs∨SqT K H l vs)/\RepL (MM M0 F) H vs ds:=by
 unfold zC at e
 split at e
 ·cases e
  obtain⟨a,vs,rfl,e1,r⟩:=Rep.tup_inv h
  exact⟨a,vs,rfl,.inr (SqT.of e1),r⟩
 ·obtain⟨a,vs,rfl,e1,r⟩:=h.list rs e
  exact⟨a,vs,rfl,.inl (SqL.of e1),r⟩
noncomputable def fListC(fa:EM FV):EM (List PyData):=fun Γ=>(fa Γ).bind fun (u,Γ1)=>match zC Γ1 u with
 |some ds=>.ok (ds,Γ1)
 |none=>.bad
theorem zd3 (B:BiK X x (.type "list")) (ha:SE X XP mp a fa) (hst:starEach [a] X.env= [(false,eval a X.env)]):SN X XP mp (.Call (.Name x p) [a] [] pos) (fListC fa):=fun M0 F Γ ν σ H Q rs hs hp=>
 (ju jA B.gl B.mg B.bt (zo ze pa_nil hst) B.n B.d hst rfl).wp (ha.run rs hs hp fun F1 Γ1 H1 u v rs1 s1 o1 h1=>by
  dsimp only at h1
  split at h1
  ·rename_i ds e
   obtain⟨l,vs,rfl,hq,r⟩:=o1.seq (K:=X.K) rs1 e
   exact⟨l,vs,rfl,hq,fun p n=>h1 F1 H1 rs1 (.refl _ _) vs p r n⟩
  ·exact h1.elim)
noncomputable def fTupC(fa:EM FV):EM FV:=fun Γ=>(fa Γ).bind fun (u,Γ1)=>match derL Γ1 u with
 |some ds=>.ok (.dat (.tuple ds),Γ1)
 |none=>.bad
theorem zbM (B:BiK X x (.type "tuple")) (ha:SE X XP mp a fa) (hst:starEach [a] X.env= [(false,eval a X.env)]):SE X XP mp (.Call (.Name x p) [a] [] pos) (fTupC fa):=fun M0 F Γ ν σ H Q rs hs hp=>
 (ju Wb B.gl B.mg B.bt (zo ze pa_nil hst) B.n B.d hst rfl).wp (ha.run rs hs hp fun F1 Γ1 H1 u v rs1 s1 o1 h1=>by
  dsimp only at h1
  split at h1
  ·rename_i ds e
   obtain⟨l,vs,rfl,el,r⟩:=o1.list rs1 e
   exact⟨l,vs,rfl,.inl ⟨SqL.of el,fun p n=>h1 F1 _ (rs1.same (zB n)) (.same (zB n)) _ (Rep.tuple zk (r.grow (zB n).grow))⟩⟩
  ·exact h1.elim)
noncomputable def isiB (a T:String):Option Bool:=if (T= "int" ∨T= "bool" ∨T= "list" ∨T= "tuple" ∨T= "str")/\¬ a= "dict" then some (a==T||(a== "bool" &&T== "int")) else none
theorem zfL{K:PySem.W.Frag}(h:isiB (tyD x) T=some k):PySem.W.kitOne K (.type (tyD x)) (.type T)=some k:=by
 unfold isiB at h
 split at h
 ·rename_i hT
  cases h
  rcases hT.1 with rfl | rfl | rfl | rfl | rfl<;>cases x<;>kernel_rfl
 ·cases h
theorem zfK (h:isiB (tyD x) T=some k):tyD x≠ "dict" :=by
 unfold isiB at h
 split at h
 ·rename_i hT;exact hT.2
 ·cases h
noncomputable def fIsi(T:String)(fa:EM FV):EM FV:=fun Γ=>(fa Γ).bind fun (u,Γ1)=>match (derf Γ1 u).bind fun x=>isiB (tyD x) T with
 |some k=>.ok (.dat (.bool k),Γ1)
 |none=>.bad
theorem wT (B:BiK X x (.builtin "isinstance")) (BT:BiK X y (.type T)) (ha:SE X XP mp a fa) (hst:starEach [a,.Name y p2] X.env=(false,eval a X.env)::starEach [.Name y p2] X.env) :
  SE X XP mp (.Call (.Name x p) [a,.Name y p2] [] pos) (fIsi T fa):=fun M0 F Γ ν σ H Q rs hs hp=>
 (Za zal B.gl B.mg B.bt (zo ze (zo (zdu (v:=.ty T) BT.gl BT.mg BT.bt rfl BT.n BT.d) pa_nil rfl) hst) B.n B.d hst rfl).wp (ha.run rs hs hp fun F1 Γ1 H1 u v rs1 s1 o1 h1=>by
  dsimp only at h1
  split at h1
  ·rename_i k ek
   cases ex:derf Γ1 u with
   |none=>rw[ex]at ek;cases ek
   |some z=>
    rw[ex]at ek
    exact⟨v,T,_,k,rfl,(o1.weak rs1 ex).ty (zfK ek),zfL ek,h1 F1 H1 rs1 (.refl _ _) _ (Rep.bool k)⟩
  ·exact h1.elim)
noncomputable def f2(g:PyData->PyData->Option PyData)(fa fb:EM FV):EM FV:=fun Γ=>(fa Γ).bind fun (u,Γ1)=>(fb Γ1).bind fun (w,Γ2)=>match derf Γ2 u,derf Γ2 w with
 |some x,some y=>match g x y with
  |some z=>.ok (.dat z,Γ2)
  |none=>.bad
 |_,_=>.bad
noncomputable def gMin:PyData->PyData->Option PyData
 |.int i,.int j=>some (.int (if j<i then j else i))
 |_,_=>none
noncomputable def gMax:PyData->PyData->Option PyData
 |.int i,.int j=>some (.int (if j>i then j else i))
 |_,_=>none
theorem zaE (h:gMin x y=some z):∃ i j,x=.int i/\y=.int j/\z=.int (if j<i then j else i):=by
 cases x<;>cases y<;>cases h
 exact⟨_,_,rfl,rfl,rfl⟩
theorem zaD (h:gMax x y=some z):∃ i j,x=.int i/\y=.int j/\z=.int (if j>i then j else i):=by
 cases x<;>cases y<;>cases h
 exact⟨_,_,rfl,rfl,rfl⟩
theorem zdR (hc:X.calm=true) (B:BiK X x (.builtin "min")) (ha:SE X XP mp a fa) (hb:SE X XP mp b fb) (hst:starEach [a,b] X.env=(false,eval a X.env)::starEach [b] X.env) (hst2:starEach [b] X.env= [(false,eval b X.env)]) :
  SE X XP mp (.Call (.Name x p) [a,b] [] pos) (f2 gMin fa fb):=fun M0 F Γ ν σ H Q rs hs hp=>
 (Za (kC hc) B.gl B.mg B.bt (zo ze (zo ze pa_nil hst2) hst) B.n B.d hst (by rw[hst2];rfl)).wp (ha.run rs hs hp fun F1 Γ1 H1 u v rs1 s1 o1 h1=>hb.run rs1 hs h1 fun F2 Γ2 H2 w v2 rs2 s2 o2 h2=>by
  dsimp only at h2
  split at h2
  ·rename_i x y e1 e2
   split at h2
   ·rename_i z e3
    obtain⟨i,j,rfl,rfl,rfl⟩:=zaE e3
    cases (o1.stp s2 rs1.al0).weak rs2 e1
    cases o2.weak rs2 e2
    exact⟨i,j,rfl,h2 F2 H2 rs2 (.refl _ _) _ (Rep.int _)⟩
   ·exact h2.elim
  ·exact h2.elim)
theorem zdQ (hc:X.calm=true) (B:BiK X x (.builtin "max")) (ha:SE X XP mp a fa) (hb:SE X XP mp b fb) (hst:starEach [a,b] X.env=(false,eval a X.env)::starEach [b] X.env) (hst2:starEach [b] X.env= [(false,eval b X.env)]) :
  SE X XP mp (.Call (.Name x p) [a,b] [] pos) (f2 gMax fa fb):=fun M0 F Γ ν σ H Q rs hs hp=>
 (Za (kB hc) B.gl B.mg B.bt (zo ze (zo ze pa_nil hst2) hst) B.n B.d hst (by rw[hst2];rfl)).wp (ha.run rs hs hp fun F1 Γ1 H1 u v rs1 s1 o1 h1=>hb.run rs1 hs h1 fun F2 Γ2 H2 w v2 rs2 s2 o2 h2=>by
  dsimp only at h2
  split at h2
  ·rename_i x y e1 e2
   split at h2
   ·rename_i z e3
    obtain⟨i,j,rfl,rfl,rfl⟩:=zaD e3
    cases (o1.stp s2 rs1.al0).weak rs2 e1
    cases o2.weak rs2 e2
    exact⟨i,j,rfl,h2 F2 H2 rs2 (.refl _ _) _ (Rep.int _)⟩
   ·exact h2.elim
  ·exact h2.elim)
noncomputable def gNeg:PyData->Option PyData
 |.int i=>some (.int (-i))
 |_=>none
theorem zgu(ha:SE X XP mp a fa):SE X XP mp (.UnaryOp .USub a pos) (f1 gNeg fa):=fun M0 F Γ ν σ H Q rs hs hp=>
 (zeS zg0 ze).wp (ha.run rs hs hp fun F1 Γ1 H1 u v rs1 s1 o1 h1=>by
  dsimp only at h1
  split at h1
  ·rename_i y ey
   cases ex:derf Γ1 u with
   |none=>rw[ex]at ey;cases ey
   |some x=>
    rw[ex]at ey
    cases x with
    |int i=>
     cases ey
     cases o1.weak rs1 ex
     exact⟨i,rfl,h1 F1 H1 rs1 (.refl _ _) _ (Rep.int _)⟩
    |_=>cases ey
  ·exact h1.elim)
open Classical in
noncomputable def binD(op:Operator)(x y:PyData):Option PyData:=match op,x,y with
 |.Add,.int i,.int j=>some (.int (i+j))
 |.Sub,.int i,.int j=>some (.int (i-j))
 |.Mult,.int i,.int j=>if (-(2 ^ 64)<i/\i<2 ^ 64)∨(-(2 ^ 64)<j/\j<2 ^ 64) then some (.int (i*j)) else none
 |.Mod,.int i,.int j=>if 0<j then some (.int (i % j)) else none
 |.FloorDiv,.int i,.int j=>if 0<j/\j<1073741824 then some (.int (i / j)) else none
 |.Pow,.int i,.int j=>if 0<=j/\j<=1000000/\i.natAbs<2 ^ 64 then some (.int (i ^ j.toNat)) else none
 |.LShift,.int i,.int j=>if 0<=j/\j<=1000000/\i.natAbs<2 ^ 64 then some (.int (i*2 ^ j.toNat)) else none
 |.RShift,.int i,.int j=>if 0<=j then some (.int (i / 2 ^ j.toNat)) else none
 |.BitAnd,.int i,.int j=>some (.int (Builtin.bitAnd i j))
 |.Add,.tuple a,.tuple b=>if a.length+b.length<=1000000 then some (.tuple (a++b)) else none
 |.Mult,.tuple a,.int n=>if 0<=n/\n<1000000/\a.length*n.toNat<=1000000 then some (.tuple (List.replicate n.toNat a).flatten) else none
 |_,_,_=>none
theorem Zn{op:Operator}{x y z:PyData}{i j k:Int}{C:Int->Int->Prop}{f:Int->Int->Int}(hc:C i j)(ho:OpR X (binaryOp op) (rI C fun i j=>.int (f i j))) :
  ∃ r:R2,OpR X (binaryOp op) r/\∀ (M:Addr->Prop) (H:Hp) (v u:V) (Q:VK),Al M H->Rep M H v (.int i)->Rep M H u (.int j)->(∀ w H',Same H H'->Rep M H' w (.int (f i j))->Q w H')->r v u H Q :=
 ⟨_,ho,fun M H v u Q _ r1 r2 k=>by cases r1;cases r2;exact⟨i,j,rfl,rfl,hc,k _ H (Same.refl H) (.int _)⟩⟩
theorem wz{op:Operator}{i j:Int}{f:Int->Int->Int}(ho:OpR X (binaryOp op) (rI0 fun i j=>.int (f i j))) :
  ∃ r:R2,OpR X (binaryOp op) r/\∀ (M:Addr->Prop) (H:Hp) (v u:V) (Q:VK),Al M H->Rep M H v (.int i)->Rep M H u (.int j)->(∀ w H',Same H H'->Rep M H' w (.int (f i j))->Q w H')->r v u H Q :=
 ⟨_,ho,fun M H v u Q _ r1 r2 k=>by cases r1;cases r2;exact⟨i,j,rfl,rfl,k _ H (Same.refl H) (.int _)⟩⟩
theorem zfa(op:Operator):OpS X (binaryOp op) (binD op):=fun x y z e=>by
 unfold binD at e
 split at e
 ·cases e;exact wz yL
 ·cases e;exact wz zf6
 ·split at e
  ·rename_i h;cases e;exact Zn (x:=.none) (y:=.none) (z:=.none) (k:=0) h zbj
  ·cases e
 ·split at e
  ·rename_i h;cases e;exact Zn (x:=.none) (y:=.none) (z:=.none) (k:=0) h zbi
  ·cases e
 ·split at e
  ·rename_i h;cases e;exact Zn (x:=.none) (y:=.none) (z:=.none) (k:=0) h zdr
  ·cases e
 ·split at e
  ·rename_i h;cases e;exact Zn (x:=.none) (y:=.none) (z:=.none) (k:=0) h zf3
  ·cases e
 ·split at e
  ·rename_i h;cases e;exact Zn (x:=.none) (y:=.none) (z:=.none) (k:=0) h zf4
  ·cases e
 ·split at e
  ·rename_i h;cases e;exact Zn (x:=.none) (y:=.none) (z:=.none) (k:=0) (C:=fun _ j=>0<=j) h zf5
  ·cases e
 ·cases e;exact wz zf0
 ·split at e
  ·rename_i h
   cases e
   exact⟨_,zbg,fun M H v u Q _ q1 q2 k=>by
    obtain⟨l,vs,rfl,e,r⟩:=q1.tup_inv
    obtain⟨l2,vs2,rfl,e2,r2⟩:=q2.tup_inv
    refine⟨l,l2,vs,vs2,rfl,rfl,SqT.of e,SqT.of e2,by rw[r.length,r2.length];exact sz6 h,fun z=>k _ H (Same.refl H) ?_,fun z=>k _ H (Same.refl H) ?_,fun p np=>k _ _ (zB np) (.tuple zk ((r.append r2).grow (zB np).grow))⟩
    ·subst z
     cases r
     exact q2
    ·subst z
     cases r2
     rw[xX];exact q1⟩
  ·cases e
 ·split at e
  ·rename_i h
   cases e
   exact⟨_,zdt,fun M H v u Q _ q1 q2 k=>by
    obtain⟨l,vs,rfl,e,r⟩:=q1.tup_inv
    cases q2
    refine⟨l,_,vs,rfl,rfl,SqT.of e,by omega,by omega,by rw[r.length];exact sz6 h.2.2,fun hs=>k _ H (Same.refl H) ?_,fun p np=>k _ _ (zB np) (.tuple zk ((r.rep _).grow (zB np).grow))⟩
    rcases hs with z | z
    ·subst z
     cases r
     rename_i n _
     have:(List.replicate n.toNat ([]:List PyData)).flatten= []:=by simp
     rw[this];exact q1
    ·subst z
     have key:∀ l:List PyData,(List.replicate (1:Int).toNat l).flatten=l:=fun l=>by simp
     rw[key];exact q1⟩
  ·cases e
 ·cases e
noncomputable def lay:Nat->PyData->Bool
 |_,.none=>true
 |_,.bool _=>true
 |_,.int _=>true
 |_,.str x=>PyData.strOk x
 |n+1,.list xs=>xs.all (lay n)
 |n+1,.tuple xs=>xs.all (lay n)
 |_,_=>false
theorem jE{n:Nat}(ih:∀ d,lay n d=true->d.canLay0=true/\d.depth<=n):∀ xs:List PyData,xs.all (lay n)=true->PyData.canLayAll0 xs=true/\PyData.depthAll xs<=n
 |[],_=>⟨rfl,uk _⟩
 |x::r,h=>by
  rw[uw,xa]at h
  obtain⟨a,b⟩:=ih x h.1
  obtain⟨c,d⟩:=jE ih r h.2
  exact⟨by simp[PyData.canLayAll0,a,c],by simp only[PyData.depthAll];omega⟩
theorem z9:∀ (n:Nat) (d:PyData),lay n d=true->d.canLay0=true/\d.depth<=n
 |n,.none,_=>⟨rfl,uk _⟩
 |n,.bool _,_=>⟨rfl,uk _⟩
 |n,.int _,_=>⟨rfl,uk _⟩
 |n,.str _,h=>⟨by simpa [PyData.canLay0,lay] using h,uk _⟩
 |n+1,.list xs,h=>by
  obtain⟨a,b⟩:=jE (z9 n) xs (by simpa [lay] using h)
  exact⟨by simpa [PyData.canLay0] using a,by simp only[PyData.depth];omega⟩
 |n+1,.tuple xs,h=>by
  obtain⟨a,b⟩:=jE (z9 n) xs (by simpa [lay] using h)
  exact⟨by simpa [PyData.canLay0] using a,by simp only[PyData.depth];omega⟩
 |0,.list _,h=>by simp[lay]at h
 |0,.tuple _,h=>by simp[lay]at h
 |0,.dict _,h=>by simp[lay]at h
 |n+1,.dict _,h=>by simp[lay]at h
noncomputable def isN:PyData->Bool
 |.none=>true
 |_=>false
noncomputable def inD(x:PyData)(ys:List PyData):Bool:=ys.any fun y=>PyData.eqv y x
noncomputable def cmpD(op:CmpOp)(x y:PyData):Option Bool:=match op,x,y with
 |.Eq,x,y=>if lay 20 x&&lay 20 y then some (PyData.eqv x y) else none
 |.NotEq,x,y=>if lay 20 x&&lay 20 y then some (!PyData.eqv x y) else none
 |.Lt,.int i,.int j=>some (decide (i<j))
 |.LtE,.int i,.int j=>some (decide (i<=j))
 |.Gt,.int i,.int j=>some (decide (j<i))
 |.GtE,.int i,.int j=>some (decide (j<=i))
 |.In,x,.list ys=>if lay 20 x&&ys.all (lay 20) then some (inD x ys) else none
 |.In,x,.tuple ys=>if lay 20 x&&ys.all (lay 20) then some (inD x ys) else none
 |.NotIn,x,.list ys=>if lay 20 x&&ys.all (lay 20) then some (!inD x ys) else none
 |.NotIn,x,.tuple ys=>if lay 20 x&&ys.all (lay 20) then some (!inD x ys) else none
 |.Is,x,.none=>some (isN x)
 |.IsNot,x,.none=>some (!isN x)
 |_,_,_=>none
end
section
variable {X:Cx}
open Classical in
/-- is the value w equal to the data? -/
noncomputable def eqW(h:Heap)(dx:PyData)(w:Value):Bool:=if ∃ d as,Reads h w d as/\d.canLay0=true/\PyData.eqv d dx=true then true else false
theorem zat {dx d:PyData}(r:Reads h w d as)(hl:d.canLay0=true):eqW h dx w=PyData.eqv d dx:=by
 unfold eqW
 cases e:PyData.eqv d dx with
 |true=>rw[if_pos ⟨d,as,r,hl,e⟩]
 |false=>
  rw[if_neg]
  rintro⟨d',as',r',hl',e'⟩
  have:=SeqAt.Reads.unique d d' w as as' hl r r'
  rw[<- this,e]at e';cases e'
theorem ZW :∀ {us:List Value}{ys:List PyData}{as:List Addr},ReadsAll h us ys as->ys.all (lay 20)=true->us.any (eqW h dx)=inD dx ys
 |_,_,_,.nil,_=>rfl
 |_,_,_,.cons r t,hl=>by
  rw[uw,xa]at hl
  unfold inD
  rw[ug,ug,zat r (z9 20 _ hl.1).1,ZW t hl.2];rfl
theorem Ql{A:Around}{s:Shared}{bs:List Addr}(rx:Reads s.heap v dx bs)(hx:lay 20 dx=true)(hu:∀ n,n<=60->A.units+n<cLine):∀ {us:List Value}{ys:List PyData}{as:List Addr},ReadsAll s.heap us ys as->ys.all (lay 20)=true->∀ u∈us,SeqAt.EqAt A s u v (eqW s.heap dx u)
 |_,_,_,.nil,_=>fun u hu=>by cases hu
 |_,_,_,.cons (d:=d) r t,hl=>fun u' hu'=>by
  rw[uw,xa]at hl
  rcases xt.mp hu' with rfl | hu'
  ·rw[zat r (z9 20 _ hl.1).1]
   have h1:=z9 20 _ hl.1
   have h2:=z9 20 _ hx
   exact SeqAt.eqAt_reads _ _ _ _ _ _ _ _ r rx h1.1 h2.1 (hu _ (xH (Nat.min_le_left _ _) (by omega)))
  ·exact Ql rx hx hu t hl.2 u' hu'
noncomputable def zhW(K:PySem.W.Frag)(neg:Bool):R2:=fun x y H Q=>∃ M M' dx ys p vs,Rep M H x dx/\y=.ref p/\(SqL K H p vs∨SqT K H p vs)/\RepL M' H vs ys/\lay 20 dx=true/\ys.all (lay 20)=true/\Q (.bl (if neg then !inD dx ys else inD dx ys)) H
theorem zbh(hr:Room 1 X.A):OpR X (compareOp .In) (zhW X.K false):=by
 intro pins s σ H x y v u Q I rx ry h
 obtain⟨M,M',dx,ys,p,vs,r1,rfl,hq,r2,l1,l2,q⟩:=h
 cases ry
 obtain⟨bs,z1⟩:=r1.reads I.hok (z9 20 _ l1).1 rx
 have hu:∀ n,n<=60->X.A.in1.units+n<cLine:=(hr.in1).u60
 rcases hq with hq | hq
 ·obtain⟨its,r,pl,hz⟩:=I.list hq
  obtain⟨as,z2⟩:=r2.reads I.hok (jE (z9 20) _ l2).1 r
  refine SeqAt.in_listAt (eqW s.heap dx) pl.isList (fun w hw=>Ql z1 l1 hu z2 l2 w (by simpa using hw)) ⟨.bl _,H,I,rfl,?_⟩
  rw[show its.toArray.any (eqW s.heap dx)=its.any (eqW s.heap dx) by simp,ZW z2 l2]
  exact q
 ·obtain⟨its,r,pl,hz⟩:=I.tuple hq
  obtain⟨as,z2⟩:=r2.reads I.hok (jE (z9 20) _ l2).1 r
  refine SeqAt.in_tupleAt (eqW s.heap dx) pl (fun w hw=>Ql z1 l1 hu z2 l2 w (by simpa using hw)) ⟨.bl _,H,I,rfl,?_⟩
  rw[show its.toArray.any (eqW s.heap dx)=its.any (eqW s.heap dx) by simp,ZW z2 l2]
  exact q
theorem WN(hr:Room 1 X.A):OpR X (compareOp .NotIn) (zhW X.K true):=by
 intro pins s σ H x y v u Q I rx ry h
 obtain⟨M,M',dx,ys,p,vs,r1,rfl,hq,r2,l1,l2,q⟩:=h
 cases ry
 obtain⟨bs,z1⟩:=r1.reads I.hok (z9 20 _ l1).1 rx
 have hu:∀ n,n<=60->X.A.in1.units+n<cLine:=(hr.in1).u60
 rcases hq with hq | hq
 ·obtain⟨its,r,pl,hz⟩:=I.list hq
  obtain⟨as,z2⟩:=r2.reads I.hok (jE (z9 20) _ l2).1 r
  refine SeqAt.notIn_listAt (eqW s.heap dx) pl.isList (fun w hw=>Ql z1 l1 hu z2 l2 w (by simpa using hw)) ⟨.bl _,H,I,rfl,?_⟩
  rw[show its.toArray.any (eqW s.heap dx)=its.any (eqW s.heap dx) by simp,ZW z2 l2]
  exact q
 ·obtain⟨its,r,pl,hz⟩:=I.tuple hq
  obtain⟨as,z2⟩:=r2.reads I.hok (jE (z9 20) _ l2).1 r
  refine SeqAt.notIn_tupleAt (eqW s.heap dx) pl (fun w hw=>Ql z1 l1 hu z2 l2 w (by simpa using hw)) ⟨.bl _,H,I,rfl,?_⟩
  rw[show its.toArray.any (eqW s.heap dx)=its.any (eqW s.heap dx) by simp,ZW z2 l2]
  exact q
theorem wP (r:Rep M H v x):decide (v=.non)=isN x:=by
 cases r<;>rfl
theorem QF(hr:Room 1 X.A)(op:CmpOp):vX X op (cmpD op):=fun x y z e=>by
 have h60:∀ n,n<=60->X.A.units+n<cLine:=hr.u60
 unfold cmpD at e
 split at e
 ·split at e
  ·rename_i h
   cases e
   rw[xa]at h
   have h1:=z9 20 _ h.1
   have h2:=z9 20 _ h.2
   exact⟨_,kZ h60,fun H v u Q r1 r2 k=>⟨_,_,_,_,r1,r2,h1.1,h2.1,xH (Nat.min_le_left _ _) (by omega),k⟩⟩
  ·cases e
 ·split at e
  ·rename_i h
   cases e
   rw[xa]at h
   have h1:=z9 20 _ h.1
   have h2:=z9 20 _ h.2
   exact⟨_,k6 h60,fun H v u Q r1 r2 k=>⟨_,_,_,_,r1,r2,h1.1,h2.1,xH (Nat.min_le_left _ _) (by omega),k⟩⟩
  ·cases e
 ·cases e;exact⟨_,zhN,fun H v u Q r1 r2 k=>by cases r1;cases r2;exact⟨_,_,rfl,rfl,k⟩⟩
 ·cases e;exact⟨_,zhM,fun H v u Q r1 r2 k=>by cases r1;cases r2;exact⟨_,_,rfl,rfl,k⟩⟩
 ·cases e;exact⟨_,zhL,fun H v u Q r1 r2 k=>by cases r1;cases r2;exact⟨_,_,rfl,rfl,k⟩⟩
 ·cases e;exact⟨_,zhK,fun H v u Q r1 r2 k=>by cases r1;cases r2;exact⟨_,_,rfl,rfl,k⟩⟩
 ·split at e
  ·rename_i h
   cases e
   rw[xa]at h
   exact⟨_,zbh hr,fun H v u Q r1 r2 k=>by
    obtain⟨l,vs,rfl,el,_,rl⟩:=r2.lst_inv
    exact⟨_,_,_,_,l,vs,r1,rfl,.inl (SqL.of el),rl,h.1,h.2,k⟩⟩
  ·cases e
 ·split at e
  ·rename_i h
   cases e
   rw[xa]at h
   exact⟨_,zbh hr,fun H v u Q r1 r2 k=>by
    obtain⟨l,vs,rfl,el,rl⟩:=r2.tup_inv
    exact⟨_,_,_,_,l,vs,r1,rfl,.inr (SqT.of el),rl,h.1,h.2,k⟩⟩
  ·cases e
 ·split at e
  ·rename_i h
   cases e
   rw[xa]at h
   exact⟨_,WN hr,fun H v u Q r1 r2 k=>by
    obtain⟨l,vs,rfl,el,_,rl⟩:=r2.lst_inv
    exact⟨_,_,_,_,l,vs,r1,rfl,.inl (SqL.of el),rl,h.1,h.2,k⟩⟩
  ·cases e
 ·split at e
  ·rename_i h
   cases e
   rw[xa]at h
   exact⟨_,WN hr,fun H v u Q r1 r2 k=>by
    obtain⟨l,vs,rfl,el,rl⟩:=r2.tup_inv
    exact⟨_,_,_,_,l,vs,r1,rfl,.inr (SqT.of el),rl,h.1,h.2,k⟩⟩
  ·cases e
 ·cases e
  exact⟨_,zf2,fun H v u Q r1 r2 k=>by cases r2;exact⟨rfl,by rw[wP r1];exact k⟩⟩
 ·cases e
  exact⟨_,zds,fun H v u Q r1 r2 k=>by
   cases r2
   refine⟨rfl,?_⟩
   rw[wP r1];exact k⟩
 ·cases e
end
mutual
inductive IT where
 |nm (s i:Nat)
 |tp (ts:ITs)
inductive ITs where
 |nil
 |cons (t:IT) (ts:ITs)
end
mutual
/-- what a store makes of the frame -/
noncomputable def tgF:IT->PyData->Gv->Option Gv
 |.nm _ i,x,Γ=>if i<Γ.length then some (Γ.set i (some (.d x))) else none
 |.tp ts,.tuple xs,Γ=>tgFs ts xs Γ
 |.tp ts,.list xs,Γ=>tgFs ts xs Γ
 |_,_,_=>none
noncomputable def tgFs:ITs->List PyData->Gv->Option Gv
 |.nil,[],Γ=>some Γ
 |.cons t ts,x::xs,Γ=>(tgF t x Γ).bind fun Γ=>tgFs ts xs Γ
 |_,_,_=>none
end
noncomputable def ITs.len:ITs->Nat
 |.nil=>0
 |.cons _ ts=>ts.len+1
theorem w5:∀ {ts:ITs}{ds:List PyData}{Γ Γ':Gv},tgFs ts ds Γ=some Γ'->ds.length=ts.len
 |.nil,[],_,_,_=>rfl
 |.nil,_::_,_,_,e=>by simp[tgFs]at e
 |.cons t ts,[],_,_,e=>by simp[tgFs]at e
 |.cons t ts,d::ds,Γ,Γ',e=>by
  rw[tgFs]at e
  cases q:tgF t d Γ with
  |none=>rw[q]at e;cases e
  |some Γ1=>rw[q]at e;rw[xn,w5 (ts:=ts) e];rfl
theorem y3(t:IT):∀ (d:PyData) (Γ Γ':Gv),tgF t d Γ=some Γ'->Γ'.length=Γ.length:=by
 refine IT.rec (motive_1:=fun t=>∀ (d:PyData) (Γ Γ':Gv),tgF t d Γ=some Γ'->Γ'.length=Γ.length) (motive_2:=fun ts=>∀ (ds:List PyData) (Γ Γ':Gv),tgFs ts ds Γ=some Γ'->Γ'.length=Γ.length) ?_ ?_ ?_ ?_ t
 ·intro s i d Γ Γ' e
  rw[tgF]at e
  split at e
  ·cases e;simp
  ·cases e
 ·intro ts ih d Γ Γ' e
  cases d with
  |tuple xs=>rw[tgF]at e;exact ih _ _ _ e
  |list xs=>rw[tgF]at e;exact ih _ _ _ e
  |_=>simp[tgF]at e
 ·intro ds Γ Γ' e
  cases ds with
  |nil=>simp[tgFs]at e;rw[e]
  |cons=>simp[tgFs]at e
 ·intro t ts ih1 ih2 ds Γ Γ' e
  cases ds with
  |nil=>simp[tgFs]at e
  |cons d ds=>
   rw[tgFs]at e
   cases q:tgF t d Γ with
   |none=>rw[q]at e;cases e
   |some Γ1=>rw[q]at e;rw[ih2 _ _ _ e,ih1 _ _ _ q]
noncomputable def SG(X:Cx)(mp:List Nat)(kp:Nat->Prop)(tg:Expr)(t:IT):Prop:=∀ (M0:Addr->Prop) (F:Fp) (Γ Γ':Gv) (ν:Nu) (σ:St) (H:Hp) (v:V) (d:PyData) (Q:St->Hp->Prop),RS M0 F Γ ν H->Sees mp ν σ->σ.length=X.N.length->Rep (MM M0 F) H v d ->
 tgF t d Γ=some Γ'->(∀ F' ν' σ',RS M0 F' Γ' ν' H->Stp F H F' H->Sees mp ν' σ'->σ'.length=X.N.length->(∀ i:Nat,kp i->ν'[i]?=ν[i]?)->(∀ s i:Nat,mp[s]?=some i->kp i->σ'[s]?=σ[s]?)->Q σ' H)->wpG X tg v σ H Q
noncomputable def SGs(X:Cx)(mp:List Nat)(kp:Nat->Prop)(tgs:List Expr)(ts:ITs):Prop:=∀ (M0:Addr->Prop) (F:Fp) (Γ Γ':Gv) (ν:Nu) (σ:St) (H:Hp) (vs:List V) (ds:List PyData) (Q:St->Hp->Prop),RS M0 F Γ ν H->Sees mp ν σ->σ.length=X.N.length->RepL (MM M0 F) H vs ds ->
 tgFs ts ds Γ=some Γ'->(∀ F' ν' σ',RS M0 F' Γ' ν' H->Stp F H F' H->Sees mp ν' σ'->σ'.length=X.N.length->(∀ i:Nat,kp i->ν'[i]?=ν[i]?)->(∀ s i:Nat,mp[s]?=some i->kp i->σ'[s]?=σ[s]?)->Q σ' H)->zg4 X tgs vs σ H Q
section
variable {X:Cx}{mp:List Nat}{kp:Nat->Prop}{tg:Expr}{tgs:List Expr}{t:IT}{ts:ITs}{pos:Pos}
theorem Sees.set{ν:Nu}{σ:St}{s i:Nat}(h:Sees mp ν σ)(hn:mp.Nodup)(hm:mp[s]?=some i)(hs:s<σ.length):Sees mp (ν.set i (some v)) (σ.set s (some v)):=fun s' j w e1 e2=>by
 by_cases hj:i=j
 ·subst hj
  have:s'=s:=by
   have h1:=(xb.mp e1).1
   have h2:=(xb.mp hm).1
   exact (List.getElem?_inj h1 hn).mp (by rw[e1,hm])
  subst this
  rw[xl hs]
  by_cases hl:i<ν.length
  ·rw[xl hl]at e2;rw[e2]
  ·rw[xy (by simpa using hl)]at e2;cases e2
 ·rw[xj hj]at e2
  have:s'≠s:=fun z=>hj (by subst z;rw[hm]at e1;exact Option.some.inj e1)
  rw[xj (Ne.symm this)]
  exact h s' j w e1 e2
theorem zdX{s i:Nat}(hN:X.N.Nodup)(hn:mp.Nodup)(hi:X.N[s]?=some x)(hm:mp[s]?=some i)(hlo:¬ kp i)(hx:Loc X.env.scope x)(hf:X.fn x=true∨X.env.scope.names.lookup x=some .local):SG X mp kp (.Name x pos) (.nm s i) :=
 fun M0 F Γ Γ' ν σ H v d Q rs hs hl r e k=>by
  rw[tgF]at e
  split at e
  ·rename_i hi'
   cases e
   have hsl:s<σ.length:=by rw[hl];exact (xb.mp hi).1
   obtain⟨F',rs',s'⟩:=rs.setD r hi'
   refine (JB hN hi hx hf).wp (k F' _ _ rs' s' (hs.set hn hm hsl) (by simpa using hl) (fun j hj=>?_) (fun s2 j e2 hj=>?_))
   ·rw[xj (fun z=>hlo (by rw[z];exact hj))]
   ·rw[xj]
    intro z
    subst z
    rw[hm]at e2
    cases e2
    exact hlo hj
  ·cases e
theorem zdY:SGs X mp kp [] .nil:=fun M0 F Γ Γ' ν σ H vs ds Q rs hs hl r e k=>by
 cases r with
 |nil=>
  simp[tgFs]at e
  subst e
  exact pgs_nil.wp ⟨rfl,k F ν σ rs (.refl _ _) hs hl (fun _ _=>rfl) (fun _ _ _ _=>rfl)⟩
 |cons r rr=>simp[tgFs]at e
theorem zbR(h1:SG X mp kp tg t)(h2:SGs X mp kp tgs ts)(hst:(assignEach (tg::tgs) X.env).map (·.2)=assign tg X.env::(assignEach tgs X.env).map (·.2)):SGs X mp kp (tg::tgs) (.cons t ts):=fun M0 F Γ Γ' ν σ H vs ds Q rs hs hl r e k=>by
 cases r with
 |nil=>simp[tgFs]at e
 |cons r rr=>
  rename_i v vs d ds
  rw[tgFs]at e
  cases e1:tgF t d Γ with
  |none=>rw[e1]at e;cases e
  |some Γ1=>
   rw[e1]at e
   refine (wM vE wN hst).wp ⟨v,vs,rfl,h1 M0 F Γ Γ1 ν σ H v d _ rs hs hl r e1 fun F1 ν1 σ1 rs1 s1 hs1 hl1 n1 m1=>?_⟩
   exact h2 M0 F1 Γ1 Γ' ν1 σ1 H vs ds _ rs1 hs1 hl1 (qH s1 rs.al0 rr) e fun F2 ν2 σ2 rs2 s2 hs2 hl2 n2 m2=>k F2 ν2 σ2 rs2 (s1.trans s2) hs2 hl2 (fun i hi=>(n2 i hi).trans (n1 i hi)) (fun s i e hi=>(m2 s i e hi).trans (m1 s i e hi))
theorem zgC (hc:X.calm=true)(h:SGs X mp kp tgs ts)(hl:ts.len=(assignEach tgs X.env).length)(hst:(assignEach tgs X.env).findIdx? (·.1)=none):SG X mp kp (.Tuple tgs n pos) (.tp ts):=fun M0 F Γ Γ' ν σ H v d Q rs hs hl' r e k=>by
 cases d with
 |tuple ds=>
  rw[tgF]at e
  obtain⟨a,vs,rfl,ea,rr⟩:=r.tup_inv
  exact (zbq hc wN rfl hst).wp ⟨a,vs,rfl,SqT.of ea,by rw[rr.length,w5 e,hl],h M0 F Γ Γ' ν σ H vs ds Q rs hs hl' rr e k⟩
 |list ds=>
  rw[tgF]at e
  obtain⟨a,vs,rfl,ea,_,rr⟩:=r.lst_inv
  exact (zdz hc wN rfl hst).wp ⟨a,vs,rfl,SqL.of ea,by rw[rr.length,w5 e,hl],h M0 F Γ Γ' ν σ H vs ds Q rs hs hl' rr e k⟩
 |_=>simp[tgF]at e
end
noncomputable def JI(M0:Addr->Prop)(F:Fp)(J:It)(ds:List PyData)(H1:Hp):Prop:=∀ (i:Nat) (F':Fp) (H':Hp),Stp F H1 F' H'->(∀ a,M0 a->H1 a≠none) ->
 (∀ d,ds[i]?=some d->J.go i H'/\∀ x H2,J.yld i H' x H2->Same H' H2/\Rep (MM M0 F') H2 x d)/\(ds.length<=i->J.stop i H')
noncomputable def SI(X:Cx)(XP:XPT)(mp:List Nat)(tg iter:Expr)(f:EM (List PyData)):Prop:=∀ (M0:Addr->Prop) (F:Fp) (Γ:Gv) (ν:Nu) (σ:St) (H:Hp) (R:It->Hp->Prop),RS M0 F Γ ν H->Sees mp ν σ ->
 EPost M0 F ν σ H XP (fun F' Γ' H' ds=>∀ J,JI M0 F' J ds H'->R J H') (f Γ)->wpI X tg iter σ H R
section
variable {X:Cx}{XP:XPT}{mp:List Nat}{a b c e tg iter:Expr}{ifs:List Expr}{pos p:Pos}{fa:EM FV}{ta:EM Bool}
noncomputable def fSeqL(fa:EM FV):EM (List PyData):=fun Γ=>(fa Γ).bind fun (u,Γ1)=>match derS Γ1 u with
 |some (.list ds)=>.ok (ds,Γ1)
 |_=>.bad
noncomputable def fSeqT(fa:EM FV):EM (List PyData):=fun Γ=>(fa Γ).bind fun (u,Γ1)=>match derS Γ1 u with
 |some (.tuple ds)=>.ok (ds,Γ1)
 |_=>.bad
theorem zaP {K:PySem.W.Frag}(e:H1 l=some (.lst vs))(n:∀ j,l∉F j)(r:RepL (MM M0 F) H1 vs ds):JI M0 F (Itl K l) ds H1:=fun i F' H' s h0=>by
 have e':H' l=some (.lst vs):=(s.keep l _ e n).1
 refine⟨fun d hd=>?_,fun hl=>⟨vs,SqL.of e',by rw[r.length];exact hl⟩⟩
 obtain⟨v,hv,rv⟩:=r.get' hd
 exact⟨⟨vs,v,SqL.of e',hv⟩,fun x H2 ⟨e2,y⟩=>by
  subst e2
  have:=y vs (SqL.of e')
  rw[hv]at this;cases this
  exact⟨Same.refl _,zw s h0 rv⟩⟩
theorem zdi {K:PySem.W.Frag}(e:H1 l=some (.lst vs))(n:¬ MM M0 F l)(r:RepL (MM M0 F) H1 vs ds):JI M0 F (Itl K l) ds H1:=zaP e (fun j hj=>n (.inr ⟨j,hj⟩)) r
theorem zfP {K:PySem.W.Frag}(e:H1 l=some (.tup vs))(r:RepL (MM M0 F) H1 vs ds):JI M0 F (Itt K l) ds H1:=fun i F' H' s h0=>by
 have e':H' l=some (.tup vs):=s.tups l _ e
 refine⟨fun d hd=>?_,fun hl=>⟨vs,SqT.of e',by rw[r.length];exact hl⟩⟩
 obtain⟨v,hv,rv⟩:=r.get' hd
 exact⟨⟨vs,v,SqT.of e',hv⟩,fun x H2 ⟨e2,y⟩=>by
  subst e2
  have:=y vs (SqT.of e')
  rw[hv]at this;cases this
  exact⟨Same.refl _,zw s h0 rv⟩⟩
theorem zd0(ha:SE X XP mp iter fa):SI X XP mp tg iter (fSeqL fa):=fun M0 F Γ ν σ H R rs hs hp=>
 (YQ ze).wp (ha.run rs hs hp fun F1 Γ1 H1 u v rs1 s1 o1 h1=>by
  dsimp only at h1
  split at h1
  ·rename_i ds eu
   obtain⟨l,vs,rfl,e,n,r⟩:=(o1.strong rs1 eu).lst_inv
   exact⟨l,rfl,⟨vs,SqL.of e⟩,h1 F1 H1 rs1 (.refl _ _) _ (zdi e n r)⟩
  ·exact h1.elim)
theorem zgD(ha:SE X XP mp iter fa):SI X XP mp tg iter (fSeqT fa):=fun M0 F Γ ν σ H R rs hs hp=>
 (zgb ze).wp (ha.run rs hs hp fun F1 Γ1 H1 u v rs1 s1 o1 h1=>by
  dsimp only at h1
  split at h1
  ·rename_i ds eu
   obtain⟨l,vs,rfl,e,r⟩:=(o1.strong rs1 eu).tup_inv
   exact⟨l,rfl,⟨vs,SqT.of e⟩,h1 F1 H1 rs1 (.refl _ _) _ (zfP e r)⟩
  ·exact h1.elim)
noncomputable def fRange(fa:EM FV):EM (List PyData):=fun Γ=>(fa Γ).bind fun (u,Γ1)=>match derf Γ1 u with
 |some (.int n)=>if -1000000<=n/\n<=1000000 then .ok (zM n.toNat,Γ1) else .bad
 |_=>.bad
theorem zaQ (n:Nat)(H1:Hp):JI M0 F (Itr 0 n) (zM n) H1:=fun i F' H' s h0=>by
 refine⟨fun d hd=>?_,fun hl=>?_⟩
 ·obtain⟨hi,rfl⟩:=ZS hd
  exact⟨hi,fun x H2 ⟨e,y⟩=>by subst e y;exact⟨Same.refl _,by rw[show (0:Int)+(i:Int)=i by omega];exact .int _⟩⟩
 ·show n<=i
  simpa [zy] using hl
theorem zbS (B:BiK X x (.type "range")) (ex:x= "range") (ha:SE X XP mp a fa) (hst:starEach [a] X.env= [(false,eval a X.env)]):SI X XP mp tg (.Call (.Name x p) [a] [] pos) (fRange fa):=fun M0 F Γ ν σ H R rs hs hp=>by
 subst ex
 exact (k8 B.gl B.mg (zo ze pa_nil hst) hst).wp (ha.run rs hs hp fun F1 Γ1 H1 u v rs1 s1 o1 h1=>by
  dsimp only at h1
  split at h1
  ·rename_i n eu
   split at h1
   ·rename_i hn
    cases o1.weak rs1 eu
    exact⟨n,rfl,by omega,by omega,h1 F1 H1 rs1 (.refl _ _) _ (zaQ n.toNat H1)⟩
   ·exact h1.elim
  ·exact h1.elim)
noncomputable def SF(X:Cx)(XP:XPT)(mp:List Nat)(ifs:List Expr)(f:EM Bool):Prop:=∀ (M0:Addr->Prop) (F:Fp) (Γ:Gv) (ν:Nu) (σ:St) (H:Hp) (Q:Bool->Hp->Prop),RS M0 F Γ ν H->Sees mp ν σ ->
 EPost M0 F ν σ H XP (fun F' Γ' H' b=>Q b H') (f Γ)->wpF X ifs σ H Q
noncomputable def fYes:EM Bool:=fun Γ=>.ok (true,Γ)
theorem zgA:SF X XP mp [] fYes:=fun M0 F Γ ν σ H Q rs hs hp=>pf_nil.wp (hp F H rs (.refl _ _))
theorem zgB(h:ST X XP mp c ta):SF X XP mp [c] ta:=fun M0 F Γ ν σ H Q rs hs hp=>(zf9 qR).wp (h M0 F Γ ν σ H Q rs hs hp)
noncomputable abbrev XP0:XPT:=fun _ _ _ _ _ _=>False
noncomputable def XPc(XP:XPT)(σ:St):XPT:=fun x _ _ _ _ H'=>∃ Γ F ν,XP x Γ F ν σ H'
noncomputable def mpC(mp:List Nat)(n k:Nat)(ix:List Nat):List Nat:=(List.range k).map (n+·)++ix.map fun i=>mp.getD i 0
theorem zfW{mp:List Nat}{n k:Nat}{s:Nat}(h:s<k):(mpC mp n k ix)[s]?=some (n+s):=by
 unfold mpC
 rw[xc (by simpa using h),xk,ux h];rfl
theorem zba{mp:List Nat}{n k:Nat}{j:Nat}:(mpC mp n k ix)[k+j]?=(ix[j]?).map fun i=>mp.getD i 0:=by
 unfold mpC
 rw[xf (by simp),xk]
 simp
noncomputable def SNt(XP:XPT)(mp:List Nat)(t:TE)(f:EM (List PyData)):Prop:=∀ (M0:Addr->Prop) (F:Fp) (Γ:Gv) (ν:Nu) (σ:St) (H:Hp) (Q:VK),RS M0 F Γ ν H->Sees mp ν σ ->
 EPost M0 F ν σ H XP (fun F' Γ' H' ds=>∀ vs p,RepL (MM M0 F') H' vs ds->H' p=none->Q (.ref p) (upd H' p (.lst vs))) (f Γ)->t σ H Q
end
end L3
namespace L2
open PySem PySem.Spec PyProof.Rows
variable [Cs]
section
variable {X:Cx}{pins:List (Addr×Obj)}{σ:St}{H:Hp}{s:Shared}{e:Value}
theorem Vf{C:Addr}(u:Up X pins σ H C dx e s)(hx:X.ex= [])(hst:X.stack=X.env::X.outer)(hf:X.env.frame=some X.env.locals)(hE:E' (.ref C) dx H) :
  wpAny (model X.prog X.w) X.A (leaving X.env e) (fun _ s''=>CX1 X.prog X.w X.outer X.H₀ X.s₀ E' e s'') Ez s:=by
 obtain⟨ea,fl,B,rfl,al,inv⟩:=u
 have I0:=inv s.heap al.1 (.refl _)
 have hfr:X.A.frames=some (X.env::X.outer):=by rw[<- hst];exact I0.ok.frames
 rw[hst]at al
 unfold leaving
 refine wpAny_bind (wI hfr hf al fun h4 al4 up4=>Qu al4 fun h5 ⟨x1,x2,⟨_,_,x3⟩,x4⟩ up5=>⟨ea,.ref C,dx,B,s.heap,H,rfl,I0.os,I0.bare,⟨x1,x2,x3,x4⟩,up4.trans up5,fun h6 k1 k2=>?_,hE⟩)
 exact (inv h6 k1 k2).flies hx hst hf (fun b o e=>PySem.W.of_hideAll _ e) (Heap.UpToSlots.of_keeps fun _ _ e=>e)
end
end L2
namespace L3
open PySem PySem.Spec PyProof.Rows L2
variable [Cs]
inductive AV where
 |v (u:FV)
 |io (i:Nat)
inductive AOks(M0:Addr->Prop)(F:Fp)(ν:Nu)(H:Hp):List V->List AV->Prop
 |nil:AOks M0 F ν H [] []
 |v {v:V} {vs:List V} {u:FV} {as:List AV}:FOk M0 F ν H v u->AOks M0 F ν H vs as->AOks M0 F ν H (v::vs) (.v u::as)
 |io {v:V} {vs:List V} {i:Nat} {as:List AV}:ν[i]?=some (some v)->AOks M0 F ν H vs as->AOks M0 F ν H (v::vs) (.io i::as)
noncomputable def APost(M0:Addr->Prop)(F:Fp)(ν:Nu)(σ:St)(H:Hp)(XP:XPT)(P:Fp->Gv->Nu->Hp->List AV->Prop)(r:R (List AV×Gv)):Prop:=match r with
 |.ok (as,Γ')=>∀ F' ν' H',RS M0 F' Γ' ν' H'->ν <+: ν'->Stp F H F' H'->P F' Γ' ν' H' as
 |.exc x Γ'=>∀ F' H',RS M0 F' Γ' ν H'->Stp F H F' H'->XP x Γ' F' ν σ H'
 |.bad=>False
noncomputable def OPost(M0:Addr->Prop)(F:Fp)(ν:Nu)(σ:St)(H:Hp)(XP:XPT)(P:Fp->Gv->Hp->OV->V->Prop)(r:R (OV×Gv)):Prop:=match r with
 |.ok (o,Γ')=>∀ F' H' v,RS M0 F' (Γ'++ [some o]) (ν++ [some v]) H'->Stp F H F' H'->P F' Γ' H' o v
 |.exc x Γ'=>∀ F' H',RS M0 F' Γ' ν H'->Stp F H F' H'->XP x Γ' F' ν σ H'
 |.bad=>False
noncomputable def SA(X:Cx)(XP:XPT)(mp:List Nat)(es:List Expr)(f:EM (List AV)):Prop:=∀ (M0:Addr->Prop) (F:Fp) (Γ:Gv) (ν:Nu) (σ:St) (H:Hp) (Q:List V->Hp->Prop),RS M0 F Γ ν H->Sees mp ν σ ->
 APost M0 F ν σ H XP (fun F' Γ' ν' H' as=>∀ vs,AOks M0 F' ν' H' vs as->Q vs H') (f Γ)->wpA X es σ H Q
noncomputable def SO(X:Cx)(XP:XPT)(mp:List Nat)(e:Expr)(f:EM OV):Prop:=∀ (M0:Addr->Prop) (F:Fp) (Γ:Gv) (ν:Nu) (σ:St) (H:Hp) (Q:VK),RS M0 F Γ ν H->Sees mp ν σ ->
 OPost M0 F ν σ H XP (fun F' Γ' H' o v=>Q v H') (f Γ)->wpE X e σ H Q
section
variable {M0:Addr->Prop}{F:Fp}{ν:Nu}{σ:St}{H:Hp}{XP:XPT}{α:Type}
theorem APost.seq {r:R (α×Gv)}{k:α×Gv->R (List AV×Gv)}(h:APost M0 F ν σ H XP P (r.bind k)):EPost M0 F ν σ H XP (fun F1 Γ1 H1 a=>APost M0 F1 ν σ H1 XP P (k (a,Γ1))) r:=by
 cases r with
 |ok a=>
  obtain⟨a,Γ1⟩:=a
  intro F1 H1 rs1 s1
  have h':APost M0 F ν σ H XP P (k (a,Γ1)):=h
  revert h'
  generalize k (a,Γ1)=r2
  intro h'
  cases r2 with
  |ok b=>exact fun F' ν' H' rs hn s=>h' F' ν' H' rs hn (s1.trans s)
  |exc x Γ'=>exact fun F' H' rs s=>h' F' H' rs (s1.trans s)
  |bad=>exact h'
 |exc x Γ'=>exact h
 |bad=>exact h
theorem APost.mono (h:APost M0 F ν σ H XP P r)(k:∀ F' Γ' ν' H' as,RS M0 F' Γ' ν' H'->ν <+: ν'->Stp F H F' H'->P F' Γ' ν' H' as->P' F' Γ' ν' H' as):APost M0 F ν σ H XP P' r:=by
 cases r with
 |ok a=>exact fun F' ν' H' rs hn s=>k F' _ ν' H' _ rs hn s (h F' ν' H' rs hn s)
 |exc x Γ'=>exact h
 |bad=>exact h
theorem OPost.seq {r:R (α×Gv)}{k:α×Gv->R (OV×Gv)}(h:OPost M0 F ν σ H XP P (r.bind k)):EPost M0 F ν σ H XP (fun F1 Γ1 H1 a=>OPost M0 F1 ν σ H1 XP P (k (a,Γ1))) r:=by
 cases r with
 |ok a=>
  obtain⟨a,Γ1⟩:=a
  intro F1 H1 rs1 s1
  have h':OPost M0 F ν σ H XP P (k (a,Γ1)):=h
  revert h'
  generalize k (a,Γ1)=r2
  intro h'
  cases r2 with
  |ok b=>exact fun F' H' v rs s=>h' F' H' v rs (s1.trans s)
  |exc x Γ'=>exact fun F' H' rs s=>h' F' H' rs (s1.trans s)
  |bad=>exact h'
 |exc x Γ'=>exact h
 |bad=>exact h
theorem OPost.mono (h:OPost M0 F ν σ H XP P r)(k:∀ F' Γ' H' o v,RS M0 F' (Γ'++ [some o]) (ν++ [some v]) H'->Stp F H F' H'->P F' Γ' H' o v->P' F' Γ' H' o v):OPost M0 F ν σ H XP P' r:=by
 cases r with
 |ok a=>exact fun F' H' v rs s=>k F' _ H' _ v rs s (h F' H' v rs s)
 |exc x Γ'=>exact h
 |bad=>exact h
end
section
variable {X:Cx}{XP:XPT}{mp:List Nat}{a b c e:Expr}{es:List Expr}{pos p p2:Pos}{fa:EM FV}{na nb:EM (List PyData)}{fl:EM (List AV)}{fo:EM OV}
noncomputable def fOwn(n:EM (List PyData)):EM OV:=fun Γ=>(n Γ).bind fun (ds,Γ1)=>.ok (.l (ds.map .d),Γ1)
theorem SN.so(h:SN X XP mp a na):SO X XP mp a (fOwn na):=fun M0 F Γ ν σ H Q rs hs hp=>
 h M0 F Γ ν σ H Q rs hs (hp.seq.mono fun F1 Γ1 H1 ds rs1 s1 h1 vs p r n=>by
  obtain⟨r2,s2⟩:=rs1.newO n r
  exact h1 _ _ _ r2 s2)
noncomputable def fOD(f:EM OV):EM FV:=fun Γ=>(f Γ).bind fun (o,Γ1)=>.ok (.dat o.view,Γ1)
theorem SO.se(h:SO X XP mp a fo):SE X XP mp a (fOD fo):=fun M0 F Γ ν σ H Q rs hs hp=>
 h M0 F Γ ν σ H Q rs hs (by
  have hp':EPost M0 F ν σ H XP (fun F' Γ' H' u=>∀ v,FOk M0 F' ν H' v u->Q v H') ((fo Γ).bind fun (o,Γ1)=>.ok (.dat o.view,Γ1)):=hp
  revert hp'
  generalize fo Γ=r
  intro hp'
  cases r with
  |ok z=>
   obtain⟨o,Γ1⟩:=z
   intro F' H' v rs' s'
   obtain⟨F2,rs2,s2,r2⟩:=rs'.dropD
   exact hp' F2 H' rs2 (s'.trans s2) v r2
  |exc x y=>exact hp'
  |bad=>exact hp')
theorem FOk.ext (h:FOk M0 F ν H v u)(hn:ν <+: ν'):FOk M0 F ν' H v u:=by
 cases u with
 |dat x=>exact h
 |own i=>
  have h':ν[i]?=some (some v):=h
  obtain⟨t,rfl⟩:=hn
  show (ν++t)[i]?=_
  rw[xc (xb.mp h').1];exact h'
noncomputable def aNil:EM (List AV):=fun Γ=>.ok ([],Γ)
noncomputable def aCons(fa:EM FV)(fl:EM (List AV)):EM (List AV):=fun Γ=>(fa Γ).bind fun (u,Γ1)=>(fl Γ1).bind fun (as,Γ2)=>.ok (.v u::as,Γ2)
noncomputable def aIo(i:Nat)(fl:EM (List AV)):EM (List AV):=fun Γ=>match Γ[i]? with
 |some (some _)=>(fl Γ).bind fun (as,Γ2)=>.ok (.io i::as,Γ2)
 |_=>.bad
noncomputable def ze5(n:EM (List PyData)):EM (List AV):=fun Γ=>(n Γ).bind fun (ds,Γ1)=>.ok ([.io Γ1.length],Γ1++ [some (.l (ds.map .d))])
theorem zgm:SA X XP mp [] aNil:=fun M0 F Γ ν σ H Q rs hs hp=>pa_nil.wp (hp F ν H rs (List.prefix_refl _) (.refl _ _) [] .nil)
theorem APost.tail{M0:Addr->Prop}{F:Fp}{ν:Nu}{σ:St}{H:Hp}{P:Fp->Gv->Nu->Hp->List AV->Prop}{r:R (List AV×Gv)}{f:List AV->List AV}(h:APost M0 F ν σ H XP P (r.bind fun (as,Γ2)=>.ok (f as,Γ2))) :
  APost M0 F ν σ H XP (fun F' Γ' ν' H' as=>P F' Γ' ν' H' (f as)) r:=by
 cases r with
 |ok a=>exact h
 |exc x Γ'=>exact h
 |bad=>exact h
theorem zdK(ha:SE X XP mp a fa)(hl:SA X XP mp es fl)(hst:starEach (a::es) X.env=(false,eval a X.env)::starEach es X.env):SA X XP mp (a::es) (aCons fa fl):=fun M0 F Γ ν σ H Q rs hs hp=>
 (zo ze ji hst).wp (ha M0 F Γ ν σ H _ rs hs (hp.seq.mono fun F1 Γ1 H1 u rs1 s1 h1 v o1=>
  hl M0 F1 Γ1 ν σ H1 _ rs1 hs (h1.tail.mono fun F2 Γ2 ν2 H2 as rs2 hn s2 h2 vs oks=>h2 (v::vs) (.v ((o1.stp s2 rs1.al0).ext hn) oks))))
theorem zh1 {s i:Nat}(hN:X.N[s]?=some x) (hv:Vis X.env.scope x) (hm:mp[s]?=some i) (hd:(x==("__debug__" :Str))=false) (hcd:(x==("__classdict__" :Str))=false) (hl:SA X XP mp es fl) (hst:starEach (.Name x pos::es) X.env=(false,eval (.Name x pos) X.env)::starEach es X.env) :
  SA X XP mp (.Name x pos::es) (aIo i fl):=fun M0 F Γ ν σ H Q rs hs hp=>by
 unfold aIo at hp
 split at hp
 ·rename_i o q
  obtain⟨v,e1,r⟩:=rs.at' i _ q
  exact (zo (qg hN hv hd hcd) ji hst).wp ⟨v,hs s i v hm e1,hl M0 F Γ ν σ H _ rs hs (hp.tail.mono fun F2 Γ2 ν2 H2 as rs2 hn s2 h2 vs oks=>h2 (v::vs) (.io (by
   obtain⟨t,rfl⟩:=hn
   rw[xc (xb.mp e1).1];exact e1) oks))⟩
 ·exact hp.elim
theorem zgn(h:SN X XP mp a na)(hst:starEach [a] X.env= [(false,eval a X.env)]):SA X XP mp [a] (ze5 na):=fun M0 F Γ ν σ H Q rs hs hp=>
 (zo ze pa_nil hst).wp (h M0 F Γ ν σ H _ rs hs (hp.seq.mono fun F1 Γ1 H1 ds rs1 s1 h1 vs p r n=>by
  obtain⟨r2,s2⟩:=rs1.newO n r
  exact h1 _ _ _ r2 (List.prefix_append _ _) s2 _ (.io (by rw[<- rs1.len];simp) .nil)))
inductive RF where
 |ok (r:OV) (outs:List (Option OV))
 |exc (x:Exc) (outs:List (Option OV))
 |xp (c a:Str) (o:OV) (outs:List (Option OV))
 |bad
noncomputable def spX(mg:Str->Option Value)(n:Nat)(run:List OV->RF):Sp:=fun vs H Q E=>vs.length=n/\∃ (M0:Addr->Prop) (F:Fp) (args:List OV),RS M0 F (args.map some) (vs.map some) H/\match run args with
 |.ok r outs=>∀ F' v H',RS M0 F' (outs++ [some r]) (vs.map some++ [some v]) H'->Stp F H F' H'->Q v H'
 |.exc x outs=>∀ C,mg x.cls=some (.ref C)->∀ F' H',RS M0 F' (outs++ [some (.d .none)]) (vs.map some++ [some .non]) H'->Stp F H F' H'->E (.ref C) none H'
 |.xp c a o outs=>∀ C,mg c=some (.ref C)->∀ F' v dx H',RS M0 F' (outs++ [some o]) (vs.map some++ [some v]) H'->Stp F H F' H'->H' dx=some (.xd [(a,v)])->E (.ref C) (some dx) H'
 |.bad=>False
noncomputable def Ran(n:Nat)(run:List OV->RF):Prop:=∀ args,(run args≠ .bad->args.length=n)/\∀ x o,run args=.exc x o->x.pay=.none
noncomputable def PxOk(X:Cx)(XP:XPT):Prop:=∀ (σ:St) (pins:List (Addr×Obj)) (H:Hp) (e:Value) (s:Shared) (x:Exc) (Γ:Gv) (F:Fp) (ν:Nu) (C:Addr),X.mg x.cls=some (.ref C)->x.pay=.none->XP x Γ F ν σ H->Up X pins σ H C none e s->X.xe e s
theorem YT :PxOk X XP0:=fun σ pins H e s x Γ F ν C h _ z=>z.elim
theorem PxOk.call{X:Cx}(px:PxOk X XP)(σ:St)(pins:List (Addr×Obj))(H:Hp)(s:Shared)(e:Value)(s':Shared)(E:XK)(h:∀ c dx H',E c dx H'->dx=none/\∃ (x:Exc) (Γ:Gv) (F:Fp) (ν:Nu) (C:Addr),X.mg x.cls=some (.ref C)/\c=.ref C/\x.pay=.none/\XP x Γ F ν σ H')
  (I:Inv X pins σ H s) (hc:CX1 X.prog X.w X.stack H s E e s'):X.xe e s':=I.up hc fun c dx H' q u=>by
 obtain⟨rfl,x,Γ,F,ν,C,h1,rfl,hy,h2⟩:=h c dx H' q
 exact px σ pins H' e s' x Γ F ν C h1 hy h2 (u C rfl)
theorem zdG{X:Cx}{C:Addr}(px:PxOk X XP)(sk:Sk X)(cat:Cat X σ C s2 H2 fp):PxOk (X.comp N' scope cl C s2 H2 fp) (XPc XP σ) :=
 fun σ' pins' H e s x _ _ _ C0 h hy ⟨Γ,F,ν,hx⟩ u=>u.comp sk cat fun pins s' u'=>px σ pins H e s' x Γ F ν C0 h hy hx u'
noncomputable abbrev EX(X:Cx)(XP:XPT)(σ:St):XK:=fun c dx H'=>dx=none/\∃ (x:Exc) (Γ:Gv) (F:Fp) (ν:Nu) (C:Addr),X.mg x.cls=some (.ref C)/\c=.ref C/\x.pay=.none/\XP x Γ F ν σ H'
noncomputable def toArg(Γ:Gv):AV->Option OV
 |.v u=>(derS Γ u).map .d
 |.io i=>match Γ[i]? with
  |some (some o)=>some o
  |_=>none
noncomputable def toArgs(Γ:Gv):List AV->Option (List OV)
 |[]=>some []
 |a::as=>match toArg Γ a,toArgs Γ as with
  |some o,some os=>some (o::os)
  |_,_=>none
noncomputable def ios:List AV->List Nat
 |[]=> []
 |.v _::as=>ios as
 |.io i::as=>i::ios as
noncomputable def putBack:List AV->List (Option OV)->Gv->Option Gv
 |[],_,Γ=>some Γ
 |.v _::as,_::os,Γ=>putBack as os Γ
 |.io i::as,some o::os,Γ=>if i<Γ.length then putBack as os (Γ.set i (some o)) else none
 |_,_,_=>none
theorem mem_ios :i∈ios as↔∃ j:Nat,as[j]?=some (.io i):=by
 induction as with
 |nil=>simp[ios]
 |cons a as ih=>
  cases a with
  |v u=>
   rw[ios,ih]
   constructor
   ·rintro⟨j,h⟩;exact⟨j+1,by simpa using h⟩
   ·rintro⟨j,h⟩
    cases j with
    |zero=>simp at h
    |succ j=>exact⟨j,by simpa using h⟩
  |io k=>
   rw[ios,xt,ih]
   constructor
   ·rintro (rfl | ⟨j,h⟩)
    ·exact⟨0,rfl⟩
    ·exact⟨j+1,by simpa using h⟩
   ·rintro⟨j,h⟩
    cases j with
    |zero=>simp at h;exact .inl h.symm
    |succ j=>exact .inr ⟨j,by simpa using h⟩
theorem Jy:∀ {as:List AV}{i j k:Nat},(ios as).Nodup->as[j]?=some (.io i)->as[k]?=some (.io i)->j=k
 |[],_,_,_,_,h,_=>by simp at h
 |.v u::as,i,j,k,nd,h1,h2=>by
  cases j with
  |zero=>simp at h1
  |succ j=>
   cases k with
   |zero=>simp at h2
   |succ k=>exact congrArg (·+1) (Jy (as:=as) (i:=i) (by rw[ios]at nd;exact nd) (by simpa using h1) (by simpa using h2))
 |.io m::as,i,j,k,nd,h1,h2=>by
  rw[ios,xG]at nd
  cases j with
  |zero=>
   cases k with
   |zero=>rfl
   |succ k=>
    simp at h1;subst h1
    exact absurd (mem_ios.mpr ⟨k,by simpa using h2⟩) nd.1
  |succ j=>
   cases k with
   |zero=>
    simp at h2;subst h2
    exact absurd (mem_ios.mpr ⟨j,by simpa using h1⟩) nd.1
   |succ k=>exact congrArg (·+1) (Jy (as:=as) (i:=i) nd.2 (by simpa using h1) (by simpa using h2))
section
variable {M0:Addr->Prop}{F:Fp}{Γ:Gv}{ν:Nu}{H:Hp}
theorem AOks.get:∀ {vs:List V}{as:List AV}{args:List OV}{j:Nat}{o:OV},AOks M0 F ν H vs as->toArgs Γ as=some args->args[j]?=some o ->
  ∃ v,vs[j]?=some v/\((∃ u x,as[j]?=some (.v u)/\derS Γ u=some x/\o=.d x/\FOk M0 F ν H v u)∨∃ i,as[j]?=some (.io i)/\ν[i]?=some (some v)/\Γ[i]?=some (some o))
 |_,_,_,j,o,.nil,e,h=>by cases e;simp at h
 |_,_,_,j,o,.v (u:=u) (as:=as) h1 t,e,h=>by
  unfold toArgs at e
  split at e
  ·rename_i o' os e1 e2
   cases e
   cases j with
   |zero=>
    simp at h;subst h
    simp only[toArg,Option.map_eq_some_iff]at e1
    obtain⟨x,ex,rfl⟩:=e1
    exact⟨_,rfl,.inl ⟨u,x,rfl,ex,rfl,h1⟩⟩
   |succ j=>
    obtain⟨v,ev,q⟩:=AOks.get (j:=j) t e2 (by simpa using h)
    exact⟨v,by simpa using ev,by simpa using q⟩
  ·cases e
 |_,_,_,j,o,.io (i:=i) (as:=as) h1 t,e,h=>by
  unfold toArgs at e
  split at e
  ·rename_i o' os e1 e2
   cases e
   cases j with
   |zero=>
    simp at h;subst h
    simp only[toArg]at e1
    split at e1
    ·rename_i q
     cases e1
     exact⟨_,rfl,.inr ⟨i,rfl,h1,q⟩⟩
    ·cases e1
   |succ j=>
    obtain⟨v,ev,q⟩:=AOks.get (j:=j) t e2 (by simpa using h)
    exact⟨v,by simpa using ev,by simpa using q⟩
  ·cases e
theorem AOks.len:∀ {vs:List V}{as:List AV},AOks M0 F ν H vs as->vs.length=as.length
 |_,_,.nil=>rfl
 |_,_,.v _ t=>by rw[xn,xn,AOks.len t]
 |_,_,.io _ t=>by rw[xn,xn,AOks.len t]
theorem qD:∀ {as:List AV}{args:List OV},toArgs Γ as=some args->args.length=as.length
 |[],_,e=>by cases e;rfl
 |a::as,_,e=>by
  unfold toArgs at e
  split at e
  ·rename_i e1 e2
   cases e
   rw[xn,xn,qD e2]
  ·cases e
noncomputable def cM(M0:Addr->Prop)(F:Fp)(as:List AV):Addr->Prop:=fun a=>M0 a∨∃ i,i∉ios as/\a∈F i
noncomputable def cF(F:Fp)(as:List AV):Fp:=fun j=>match as[j]? with
 |some (.io i)=>F i
 |_=> []
theorem zeJ {j i:Nat}(h:as[j]?=some (.io i)):cF F as j=F i:=by unfold cF;rw[h]
theorem QD{as:List AV}{j:Nat}{a:Addr}(h:a∈cF F as j):∃ i,as[j]?=some (.io i)/\a∈F i:=by
 unfold cF at h
 split at h
 ·rename_i i e;exact⟨i,e,h⟩
 ·cases h
theorem cMM :MM (cM M0 F as) (cF F as)=MM M0 F:=by
 funext a
 apply propext
 constructor
 ·rintro ((h | ⟨i,_,h⟩) | ⟨j,h⟩)
  ·exact .inl h
  ·exact .inr ⟨i,h⟩
  ·obtain⟨i,_,h⟩:=QD h;exact .inr ⟨i,h⟩
 ·rintro (h | ⟨i,h⟩)
  ·exact .inl (.inl h)
  ·by_cases hi:i∈ios as
   ·obtain⟨j,hj⟩:=mem_ios.mp hi
    exact .inr ⟨j,by rw[zeJ hj];exact h⟩
   ·exact .inl (.inr ⟨i,hi,h⟩)
theorem wb{vs:List V}{as:List AV}{args:List OV}(rs:RS M0 F Γ ν H)(oks:AOks M0 F ν H vs as)(e:toArgs Γ as=some args)(nd:(ios as).Nodup):RS (cM M0 F as) (cF F as) (args.map some) (vs.map some) H where
 al0 a h:=by
  rcases h with h | ⟨i,_,h⟩
  ·exact rs.al0 a h
  ·exact rs.al a (.inr ⟨i,h⟩)
 dis0 j a h:=by
  obtain⟨i,hi,ha⟩:=QD h
  rintro (h0 | ⟨i',hi',ha'⟩)
  ·exact rs.dis0 i a ha h0
  ·have:=rs.dis _ _ a ha ha'
   subst this
   exact hi' (mem_ios.mpr ⟨j,hi⟩)
 nd j:=by
  unfold cF
  split
  ·exact rs.nd _
  ·exact .nil
 dis j k a h1 h2:=by
  obtain⟨i,hi,ha⟩:=QD h1
  obtain⟨i',hi',ha'⟩:=QD h2
  have:=rs.dis _ _ a ha ha'
  subst this
  exact Jy nd hi hi'
 at' j o ej:=by
  rw[xk]at ej
  cases q:args[j]? with
  |none=>rw[q]at ej;cases ej
  |some o'=>
   rw[q]at ej
   have eo:o'=o:=by simpa using ej
   subst eo
   obtain⟨v,ev,h⟩:=oks.get e q
   refine⟨v,by rw[xk,ev];rfl,?_⟩
   rw[cMM]
   rcases h with ⟨u,x,ea,ex,rfl,ok⟩ | ⟨i,ea,en,eg⟩
   ·have:cF F as j= []:=by unfold cF;rw[ea]
    rw[this]
    exact .d (ok.strong rs ex)
   ·rw[zeJ ea]
    obtain⟨v',ev',r⟩:=rs.at' i o' eg
    rw[en]at ev';cases ev'
    exact r
 emp j h:=by
  unfold cF
  split
  ·rename_i i ea
   exfalso
   have hj:j<args.length:=by rw[qD e];exact (xb.mp ea).1
   exact h args[j] (by rw[xk,xg hj];rfl)
  ·rfl
 len:=by rw[xo,xo,oks.len,qD e]
theorem Zb:∀ {as:List AV}{outs:List (Option OV)}{Γ Γ2:Gv},putBack as outs Γ=some Γ2->(ios as).Nodup->Γ2.length=Γ.length/\(∀ i:Nat,i∉ios as->Γ2[i]?=Γ[i]?)/\∀ j i:Nat,as[j]?=some (.io i)->∃ o,outs[j]?=some (some o)/\Γ2[i]?=some (some o)/\i<Γ.length
 |[],_,Γ,_,e,_=>by
  have:some Γ=some _:=e
  cases this
  exact⟨rfl,fun _ _=>rfl,fun j i h=>by simp at h⟩
 |.v u::as,[],Γ,_,e,_=>by cases e
 |.v u::as,x::os,Γ,Γ2,e,nd=>by
  obtain⟨h0,h1,h2⟩:=Zb (as:=as) (outs:=os) (Γ:=Γ) (Γ2:=Γ2) e (by rw[ios]at nd;exact nd)
  refine⟨h0,fun i hi=>h1 i (by rw[ios]at hi;exact hi),fun j i hj=>?_⟩
  cases j with
  |zero=>simp at hj
  |succ j=>
   obtain⟨o,a,b⟩:=h2 j i (by simpa using hj)
   exact⟨o,by simpa using a,b⟩
 |.io k::as,[],Γ,_,e,_=>by cases e
 |.io k::as,none::os,Γ,_,e,_=>by cases e
 |.io k::as,some o::os,Γ,Γ2,e,nd=>by
  rw[putBack]at e
  split at e
  ·rename_i hk
   rw[ios,xG]at nd
   obtain⟨h0,h1,h2⟩:=Zb (as:=as) (outs:=os) e nd.2
   rw[uh]at h0
   refine⟨h0,fun i hi=>?_,fun j i hj=>?_⟩
   ·rw[ios,xt]at hi
    rw[h1 i (fun z=>hi (.inr z)),xj (fun z=>hi (.inl z.symm))]
   ·cases j with
    |zero=>
     have:k=i:=by simpa using hj
     subst this
     refine⟨o,rfl,?_,hk⟩
     rw[h1 k nd.1,xl hk]
    |succ j=>
     obtain⟨o',a,b,c⟩:=h2 j i (by simpa using hj)
     exact⟨o',by simpa using a,b,by simpa using c⟩
  ·cases e
open Classical in
theorem Zk{vs:List V}{as:List AV}{args:List OV}{outs:List (Option OV)}{r:OV}{v:V}{Γ2:Gv}{ν0:Nu}{Fc':Fp}{H':Hp}{n:Nat}(rs:RS M0 F Γ ν H)(oks:AOks M0 F ν H vs as)(e:toArgs Γ as=some args)(nd:(ios as).Nodup)
  (rc:RS (cM M0 F as) Fc' (outs++ [some r]) (vs.map some++ [some v]) H') (sc:Stp (cF F as) H Fc' H') (pb:putBack as outs Γ=some Γ2) (hν:ν0 <+: ν) (hn:ν0.length=n) :
  ∃ F',RS M0 F' (Γ2.take n++ [some r]) (ν0++ [some v]) H'/\Stp F H F' H':=by
 obtain⟨p0,p1,p2⟩:=Zb pb nd
 have hol:outs.length=as.length:=by have:=rc.len;simp[oks.len]at this;omega
 obtain⟨tl,rfl⟩:=hν
 have hnl:n<=Γ.length:=by have:=rs.len;simp at this;omega
 have htl:(Γ2.take n).length=n:=by rw[ud];omega
 let F':Fp:=fun i=>if i<n then (if h:∃ j:Nat,as[j]?=some (.io i) then Fc' (Classical.choose h) else F i) else if i=n then Fc' as.length else []
 have f1:∀ (i j:Nat),i<n->as[j]?=some (.io i)->F' i=Fc' j:=fun i j hi hj=>by
  show (if i<n then _ else _)=_
  rw[if_pos hi]
  have hex:∃ j:Nat,as[j]?=some (.io i):=⟨j,hj⟩
  rw[dif_pos hex,Jy nd (Classical.choose_spec hex) hj]
 have f2:∀ (i:Nat),i<n->i∉ios as->F' i=F i:=fun i hi hj=>by
  show (if i<n then _ else _)=_
  rw[if_pos hi,dif_neg]
  rintro hex
  exact hj (mem_ios.mpr hex)
 have f3:F' n=Fc' as.length:=by show (if n<n then _ else _)=_;rw[if_neg (uf _),if_pos rfl]
 have f4:∀ i,n<i->F' i= []:=fun i hi=>by show (if i<n then _ else _)=_;rw[if_neg (by omega),if_neg (by omega)]
 have cls:∀ i a,a∈F' i->(∃ j,i<n/\as[j]?=some (.io i)/\a∈Fc' j)∨(i<n/\i∉ios as/\a∈F i)∨(i=n/\a∈Fc' as.length):=fun i a h=>by
  by_cases hi:i<n
  ·by_cases hj:i∈ios as
   ·obtain⟨j,hj⟩:=mem_ios.mp hj
    rw[f1 i j hi hj]at h
    exact .inl ⟨j,hi,hj,h⟩
   ·rw[f2 i hi hj]at h;exact .inr (.inl ⟨hi,hj,h⟩)
  ·by_cases hj:i=n
   ·subst hj;rw[f3]at h;exact .inr (.inr ⟨rfl,h⟩)
   ·rw[f4 i (by omega)]at h;cases h
 have keepF:∀ i,i∉ios as->∀ a∈F i,H' a=H a:=fun i hi a ha=>by
  obtain⟨us,ea⟩:=rs.laidF ha
  rw[ea]
  refine (sc.keep a _ ea fun j hj=>?_).1
  obtain⟨i',hi',ha'⟩:=QD hj
  have:=rs.dis _ _ a ha ha'
  subst this
  exact hi (mem_ios.mpr ⟨j,hi'⟩)
 have st:Stp F H F' H':=⟨fun b o eb nb=>by
  obtain⟨e1,n1⟩:=sc.keep b o eb fun j hj=>let ⟨i,_,ha⟩:=QD hj;nb i ha
  refine⟨e1,fun i hi=>?_⟩
  rcases cls i b hi with ⟨j,_,_,h⟩ | ⟨_,_,h⟩ | ⟨_,h⟩
  ·exact n1 j h
  ·exact nb i h
  ·exact n1 _ h,sc.tups,sc.stay⟩
 have sub:∀ b,MM M0 F' b->MM (cM M0 F as) Fc' b:=fun b hb=>by
  rcases hb with hb | ⟨i,hb⟩
  ·exact .inl (.inl hb)
  ·rcases cls i b hb with ⟨j,_,_,h⟩ | ⟨_,hi,h⟩ | ⟨_,h⟩
   ·exact .inr ⟨j,h⟩
   ·exact .inl (.inr ⟨i,hi,h⟩)
   ·exact .inr ⟨_,h⟩
 have conv:∀ {w:V} {o:OV} {A:List Addr},OR (MM (cM M0 F as) Fc') H' w o A->OR (MM M0 F') H' w o A:=fun {w o A} q=>q.go (fun v d x=>x.less fun b hb _=>sub b hb) (fun _ _ e=>e) fun _ _=>rfl
 have out:∀ (j:Nat) (a:Addr),a∈Fc' j->¬ M0 a/\∀ i,i∉ios as->a∉F i:=fun j a ha=>by
  have h:=rc.dis0 j a ha
  exact⟨fun z=>h (.inl z),fun i hi z=>h (.inr ⟨i,hi,z⟩)⟩
 refine⟨F',⟨fun a ha=>sc.stay a (rs.al0 a ha),fun i a ha=>?_,fun i=>?_,fun i k a h1 h2=>?_,fun i o ei=>?_,fun i hi=>?_,by simp[htl,hn]⟩,st⟩
 ·rcases cls i a ha with ⟨j,_,_,h⟩ | ⟨_,hi,h⟩ | ⟨_,h⟩
  ·exact (out j a h).1
  ·exact rs.dis0 i a h
  ·exact (out _ a h).1
 ·by_cases hi:i<n
  ·by_cases hj:i∈ios as
   ·obtain⟨j,hj⟩:=mem_ios.mp hj
    rw[f1 i j hi hj];exact rc.nd j
   ·rw[f2 i hi hj];exact rs.nd i
  ·by_cases hj:i=n
   ·subst hj;rw[f3];exact rc.nd _
   ·rw[f4 i (by omega)];exact .nil
 ·rcases cls i a h1 with ⟨j,hi,ej,z1⟩ | ⟨hi,ni,z1⟩ | ⟨rfl,z1⟩
  ·rcases cls k a h2 with ⟨j',hk,ej',z2⟩ | ⟨hk,nk,z2⟩ | ⟨rfl,z2⟩
   ·have:=rc.dis _ _ a z1 z2
    subst this
    rw[ej]at ej';cases ej';rfl
   ·exact absurd z2 ((out j a z1).2 k nk)
   ·have:=rc.dis _ _ a z1 z2
    subst this
    rw[xy (xh _)]at ej;cases ej
  ·rcases cls k a h2 with ⟨j',hk,ej',z2⟩ | ⟨hk,nk,z2⟩ | ⟨rfl,z2⟩
   ·exact absurd z1 ((out j' a z2).2 i ni)
   ·exact rs.dis _ _ a z1 z2
   ·exact absurd z1 ((out _ a z2).2 i ni)
  ·rcases cls k a h2 with ⟨j',hk,ej',z2⟩ | ⟨hk,nk,z2⟩ | ⟨rfl,z2⟩
   ·have:=rc.dis _ _ a z1 z2
    subst this
    rw[xy (xh _)]at ej';cases ej'
   ·exact absurd z2 ((out _ a z1).2 k nk)
   ·rfl
 ·by_cases hi:i<n
  ·rw[xc (by omega),xV hi]at ei
   rw[xc (by omega)]
   by_cases hj:i∈ios as
   ·obtain⟨j,hj⟩:=mem_ios.mp hj
    obtain⟨o',eo,eg,_⟩:=p2 j i hj
    rw[eg]at ei
    have eoo:o'=o:=by simpa using ei
    subst eoo
    have hjl:j<as.length:=(xb.mp hj).1
    obtain⟨w,ew,q⟩:=rc.at' j o' (by rw[xc (by omega)];exact eo)
    rw[xc (by rw[xo,oks.len];exact hjl),xk]at ew
    have hal:j<args.length:=by rw[qD e];exact hjl
    obtain⟨v',ev',hh⟩:=oks.get e (xg hal)
    rw[ev']at ew
    have ew':v'=w:=by simpa using ew
    subst ew'
    rcases hh with ⟨u,x,ea,_⟩ | ⟨i',ea,en,_⟩
    ·rw[hj]at ea;cases ea
    ·rw[hj]at ea;cases ea
     rw[xc (by omega)]at en
     exact⟨v',en,by rw[f1 i j hi hj];exact conv q⟩
   ·rw[p1 i hj]at ei
    obtain⟨w,ew,q⟩:=rs.at' i o ei
    rw[xc (by omega)]at ew
    refine⟨w,ew,?_⟩
    rw[f2 i hi hj]
    exact q.go (fun v d x=>zw st rs.al0 x) st.tups (keepF i hj)
  ·have hin:i=n:=by
    have:=(xb.mp ei).1
    simp[htl]at this;omega
   subst hin
   rw[xf (by omega),htl]at ei
   have:r=o:=by simpa using ei
   subst this
   refine⟨v,by rw[xf (by omega),hn];simp,?_⟩
   rw[f3]
   obtain⟨w,ew,q⟩:=rc.at' as.length r (by rw[xf (by omega),hol];simp)
   rw[xf (by rw[xo,oks.len];exact xh _),xo,oks.len]at ew
   have:v=w:=by simpa using ew
   subst this
   exact conv q
 ·by_cases hlt:i<n
  ·have nj:i∉ios as:=fun hj=>by
    obtain⟨j,hj⟩:=mem_ios.mp hj
    obtain⟨o',eo,eg,_⟩:=p2 j i hj
    exact hi o' (by rw[xc (by omega),xV hlt];exact eg)
   rw[f2 i hlt nj]
   refine rs.emp i fun o eo=>hi o ?_
   rw[xc (by omega),xV hlt,p1 i nj];exact eo
  ·by_cases hin:i=n
   ·subst hin
    exact absurd (by rw[xf (by omega),htl];simp) (hi r)
   ·exact f4 i (by omega)
end
noncomputable def fCall(run:List OV->RF)(fl:EM (List AV)):EM OV:=fun Γ=>(fl Γ).bind fun (as,Γ1)=>match toArgs Γ1 as with
 |none=>.bad
 |some args=>if (ios as).Nodup then match run args with
  |.ok r outs=>match putBack as outs Γ1 with
   |some Γ2=>.ok (r,Γ2.take Γ.length)
   |none=>.bad
  |.exc x outs=>match putBack as outs Γ1 with
   |some Γ2=>.exc x (Γ2.take Γ.length)
   |none=>.bad
  |_=>.bad
  else .bad
theorem WB {run:List OV->RF}{Q:VK}(rs:RS M0 F Γ ν H)(hrun:Ran n run)
  (hp:OPost M0 F ν σ H XP (fun F' Γ' H' o v=>Q v H') (fCall run fl Γ)):APost M0 F ν σ H XP (fun F1 Γ1 ν1 H1 as=>∀ vs,AOks M0 F1 ν1 H1 vs as->spX X.mg n run vs H1 Q (EX X XP σ)) (fl Γ):=by
 unfold fCall at hp
 generalize fl Γ=ra at hp
 cases ra with
 |bad=>exact hp
 |exc x y=>exact hp
 |ok z=>
  obtain⟨as,Γ1⟩:=z
  intro F1 ν1 H1 rs1 hn s1 vs oks
  simp only[R.bind]at hp
  split at hp
  ·exact hp.elim
  ·rename_i args ea
   split at hp
   ·rename_i nd
    have hl:vs.length=n:=by
     rw[oks.len,<- qD ea]
     refine (hrun args).1 fun z=>?_
     rw[z]at hp;exact hp.elim
    refine⟨hl,cM M0 F1 as,cF F1 as,args,wb rs1 oks ea nd,?_⟩
    split at hp
    ·rename_i r outs er
     rw[er]
     split at hp
     ·rename_i Γ2 eb
      intro F' v H' rc sc
      obtain⟨F2,rs2,s2⟩:=Zk (n:=Γ.length) rs1 oks ea nd rc sc eb hn rs.len
      exact hp F2 H' v rs2 (s1.trans s2)
     ·exact hp.elim
    ·rename_i x outs er
     rw[er]
     split at hp
     ·rename_i Γ2 eb
      intro C hC F' H' rc sc
      obtain⟨F2,rs2,s2⟩:=Zk (n:=Γ.length) rs1 oks ea nd rc sc eb hn rs.len
      obtain⟨F3,rs3,s3,_⟩:=rs2.dropD
      exact⟨rfl,x,_,F3,ν,C,hC,rfl,(hrun args).2 x outs er,hp F3 H' rs3 ((s1.trans s2).trans s3)⟩
     ·exact hp.elim
    ·exact hp.elim
   ·exact hp.elim
theorem zd4 {run:List OV->RF}(px:PxOk X XP)(kn:Kn X.prog X.w X.K X.mg X.base (CX1 X.prog X.w) x k (spX X.mg n run))(hr:Room k X.A)(hg:Gl X x)(hrun:Ran n run)(hl:SA X XP mp (a::es) fl)
  (hdb:(x==("__debug__" :Str))=false) (he:starEach (a::es) X.env=(false,eval a X.env)::starEach es X.env) (hpl:(backTo pos (starEach es X.env)).any (·.1)=false):SO X XP mp (.Call (.Name x p) (a::es) [] pos) (fCall run fl):=fun M0 F Γ ν σ H Q rs hs hp=>
 Wa (E:=EX X XP σ) kn hr hg (fun pins H1 s1 e s' I hx=>px.call σ pins H1 s1 e s' _ (fun c dx H' q=>q) I hx) (hl M0 F Γ ν σ H _ rs hs (WB rs hrun hp)) hdb he hpl
theorem zbV {run:List OV->RF}(px:PxOk X XP)(kn:Kn X.prog X.w X.K X.mg X.base (CX1 X.prog X.w) x k (spX X.mg n run))(hr:Room k X.A)(hg:Gl X x)(hrun:Ran n run)
  (hdb:(x==("__debug__" :Str))=false):SO X XP mp (.Call (.Name x p) [] [] pos) (fCall run aNil):=fun M0 F Γ ν σ H Q rs hs hp=>by
 have h:=WB (X:=X) (n:=n) rs hrun hp F ν H rs (List.prefix_refl _) (.refl _ _) [] .nil
 exact KQ kn hr hg (fun pins H1 s1 e s' I hx=>px.call σ pins H1 s1 e s' _ (fun c dx H' q=>q) I hx) h hdb
end
inductive FL where
 |next
 |ret (o:OV)
 |brk
 |cnt
noncomputable abbrev SM:=Gv->R (FL×Gv)
noncomputable def SPost(M0:Addr->Prop)(F:Fp)(ν:Nu)(H:Hp)(XP:XPT)(mp:List Nat)(N:Nat)(io:List Nat)(D:qJ)(r:R (FL×Gv)):Prop:=match r with
 |.ok (.next,Γ')=>∀ F' ν' σ' H',RS M0 F' Γ' ν' H'->Stp F H F' H'->Sees mp ν' σ'->σ'.length=N->(∀ i∈io,ν'[i]?=ν[i]?)->D.nx σ' H'
 |.ok (.brk,Γ')=>∀ F' ν' σ' H',RS M0 F' Γ' ν' H'->Stp F H F' H'->Sees mp ν' σ'->σ'.length=N->(∀ i∈io,ν'[i]?=ν[i]?)->D.bk σ' H'
 |.ok (.cnt,Γ')=>∀ F' ν' σ' H',RS M0 F' Γ' ν' H'->Stp F H F' H'->Sees mp ν' σ'->σ'.length=N->(∀ i∈io,ν'[i]?=ν[i]?)->D.ct σ' H'
 |.ok (.ret o,Γ')=>∀ F' ν' v H',RS M0 F' (Γ'++ [some o]) (ν'++ [some v]) H'->Stp F H F' H'->(∀ i∈io,ν'[i]?=ν[i]?)->D.rt v H'
 |.exc x Γ'=>∀ F' ν' σ' H',RS M0 F' Γ' ν' H'->Stp F H F' H'->Sees mp ν' σ'->σ'.length=N->(∀ i∈io,ν'[i]?=ν[i]?)->XP x Γ' F' ν' σ' H'
 |.bad=>False
noncomputable def SS(X:Cx)(XP:XPT)(mp:List Nat)(io:List Nat)(st:Stmt)(f:SM):Prop:=∀ (M0:Addr->Prop) (F:Fp) (Γ:Gv) (ν:Nu) (σ:St) (H:Hp) (D:qJ),RS M0 F Γ ν H->Sees mp ν σ->σ.length=X.N.length ->
 SPost M0 F ν H XP mp X.N.length io D (f Γ)->wpS X st D σ H
noncomputable def SB(X:Cx)(XP:XPT)(mp:List Nat)(io:List Nat)(sts:List Stmt)(f:SM):Prop:=∀ (M0:Addr->Prop) (F:Fp) (Γ:Gv) (ν:Nu) (σ:St) (H:Hp) (D:qJ),RS M0 F Γ ν H->Sees mp ν σ->σ.length=X.N.length ->
 SPost M0 F ν H XP mp X.N.length io D (f Γ)->wpB X sts D σ H
section
variable {M0:Addr->Prop}{F F1:Fp}{ν ν1:Nu}{σ:St}{H H1:Hp}{XP:XPT}{mp:List Nat}{N:Nat}{io:List Nat}{D:qJ}{r:R (FL×Gv)}
theorem SPost.step(h:SPost M0 F ν H XP mp N io D r)(s1:Stp F H F1 H1)(hn:∀ i∈io,ν1[i]?=ν[i]?):SPost M0 F1 ν1 H1 XP mp N io D r:=by
 cases r with
 |ok z=>
  obtain⟨fl,Γ'⟩:=z
  cases fl with
  |next=>exact fun F' ν' σ' H' a b c d e=>h F' ν' σ' H' a (s1.trans b) c d fun i hi=>(e i hi).trans (hn i hi)
  |brk=>exact fun F' ν' σ' H' a b c d e=>h F' ν' σ' H' a (s1.trans b) c d fun i hi=>(e i hi).trans (hn i hi)
  |cnt=>exact fun F' ν' σ' H' a b c d e=>h F' ν' σ' H' a (s1.trans b) c d fun i hi=>(e i hi).trans (hn i hi)
  |ret o=>exact fun F' ν' v H' a b e=>h F' ν' v H' a (s1.trans b) fun i hi=>(e i hi).trans (hn i hi)
 |exc x Γ'=>exact fun F' ν' σ' H' a b c d e=>h F' ν' σ' H' a (s1.trans b) c d fun i hi=>(e i hi).trans (hn i hi)
 |bad=>exact h
theorem SPost.seq{α:Type}{r:R (α×Gv)}{k:α×Gv->R (FL×Gv)}(hs:Sees mp ν σ)(hl:σ.length=N)(h:SPost M0 F ν H XP mp N io D (r.bind k)):EPost M0 F ν σ H XP (fun F1 Γ1 H1 a=>SPost M0 F1 ν H1 XP mp N io D (k (a,Γ1))) r:=by
 cases r with
 |ok z=>
  obtain⟨a,Γ1⟩:=z
  intro F1 H1 rs1 s1
  have h':SPost M0 F ν H XP mp N io D (k (a,Γ1)):=h
  exact h'.step s1 fun _ _=>rfl
 |exc x Γ'=>exact fun F' H' rs s=>h F' ν σ H' rs s hs hl fun _ _=>rfl
 |bad=>exact h
theorem SPost.seqO{r:R (OV×Gv)}(hs:Sees mp ν σ)(hl:σ.length=N)(h:SPost M0 F ν H XP mp N io D (r.bind k)):OPost M0 F ν σ H XP (fun F1 Γ1 H1 o v=>SPost M0 F1 ν H1 XP mp N io D (k (o,Γ1))) r:=by
 cases r with
 |ok z=>
  obtain⟨a,Γ1⟩:=z
  intro F1 H1 v rs1 s1
  have h':SPost M0 F ν H XP mp N io D (k (a,Γ1)):=h
  exact h'.step s1 fun _ _=>rfl
 |exc x Γ'=>exact fun F' H' rs s=>h F' ν σ H' rs s hs hl fun _ _=>rfl
 |bad=>exact h
end
noncomputable def sNext:SM:=fun Γ=>.ok (.next,Γ)
noncomputable def sSeq(f g:SM):SM:=fun Γ=>match f Γ with
 |.ok (.next,Γ1)=>g Γ1
 |r=>r
section
variable {X:Cx}{XP:XPT}{mp io:List Nat}{a b c e tg iter:Expr}{es:List Expr}{pos p p2 pos':Pos}{fa fb:EM FV}{ta:EM Bool}{na:EM (List PyData)}{fo:EM OV}{st:Stmt}{sts body els:List Stmt}{f g:SM}
theorem zgo:SB X XP mp io [] sNext:=fun M0 F Γ ν σ H D rs hs hl hp=>pss_nil.wp (hp F ν σ H rs (.refl _ _) hs hl fun _ _=>rfl)
theorem zbO {N:Nat}{D:qJ}(hp:SPost M0 F ν H XP mp N io D (sSeq f g Γ))
  (hn:∀ F1 Γ1 ν1 σ1 H1,RS M0 F1 Γ1 ν1 H1->Sees mp ν1 σ1->σ1.length=N->SPost M0 F1 ν1 H1 XP mp N io D (g Γ1)->nx σ1 H1):SPost M0 F ν H XP mp N io { D with nx:=nx } (f Γ):=by
 unfold sSeq at hp
 generalize f Γ=r at hp
 cases r with
 |ok z=>
  obtain⟨fl,Γ'⟩:=z
  cases fl with
  |next=>exact fun F' ν' σ' H' a b c d e=>hn F' Γ' ν' σ' H' a c d (hp.step b e)
  |brk=>exact hp
  |cnt=>exact hp
  |ret o=>exact hp
 |exc x Γ'=>exact hp
 |bad=>exact hp
theorem zdM(h1:SS X XP mp io st f)(h2:SB X XP mp io sts g):SB X XP mp io (st::sts) (sSeq f g):=fun M0 F Γ ν σ H D rs hs hl hp=>
 (jv vJ qj).wp (h1 M0 F Γ ν σ H _ rs hs hl (zbO hp fun F1 Γ1 ν1 σ1 H1 rs1 hs1 hl1 h=>h2 M0 F1 Γ1 ν1 σ1 H1 D rs1 hs1 hl1 h))
theorem zeb:SS X XP mp io (.Pass pos) sNext:=fun M0 F Γ ν σ H D rs hs hl hp=>ps_pass.wp (hp F ν σ H rs (.refl _ _) hs hl fun _ _=>rfl)
noncomputable def zh0:SM:=fun _=>.bad
theorem zgL:SS X XP mp io st zh0:=fun M0 F Γ ν σ H D rs hs hl hp=>hp.elim
noncomputable def fD(fa:EM FV):EM OV:=fun Γ=>(fa Γ).bind fun (u,Γ1)=>match derS Γ1 u with
 |some x=>.ok (.d x,Γ1)
 |none=>.bad
theorem RS.newD (r:RS M0 F Γ ν H)(q:Rep (MM M0 F) H v x):RS M0 F (Γ++ [some (.d x)]) (ν++ [some v]) H:=by
 have he:F Γ.length= []:=r.emp _ fun o e=>by
  rw[xy (xh _)]at e;cases e
 refine⟨r.al0,r.dis0,r.nd,r.dis,fun j o e=>?_,fun j h=>?_,by simp[r.len]⟩
 ·by_cases hj:j<Γ.length
  ·rw[xc hj]at e
   obtain⟨w,e1,z⟩:=r.at' j o e
   exact⟨w,by rw[xc (by rw[r.len];exact hj)];exact e1,z⟩
  ·have hj':j=Γ.length:=by
    have:=(xb.mp e).1
    simp at this;omega
   subst hj'
   rw[xf (xh _)]at e
   have:(OV.d x)=o:=by simpa using e
   subst this
   refine⟨v,by rw[xf (by rw[r.len];exact xh _),r.len];simp,?_⟩
   rw[he];exact .d q
 ·refine r.emp j fun o e=>h o ?_
  rw[xc (xb.mp e).1];exact e
theorem SE.so(h:SE X XP mp a fa):SO X XP mp a (fD fa):=fun M0 F Γ ν σ H Q rs hs hp=>
 h M0 F Γ ν σ H Q rs hs (hp.seq.mono fun F1 Γ1 H1 u rs1 s1 h1 v hv=>by
  dsimp only at h1
  split at h1
  ·rename_i x e
   exact h1 F1 H1 v (rs1.newD (hv.strong rs1 e)) (.refl _ _)
  ·exact h1.elim)
noncomputable def fMove(i:Nat):EM OV:=fun Γ=>match Γ[i]? with
 |some (some o)=>.ok (o,Γ.set i none)
 |_=>.bad
theorem RS.take {Γ:Gv}{i:Nat}(r:RS M0 F Γ ν H)(e:Γ[i]?=some (some o)):∃ F' v,ν[i]?=some (some v)/\RS M0 F' (Γ.set i none++ [some o]) (ν++ [some v]) H/\Stp F H F' H:=by
 obtain⟨v,ev,q⟩:=r.at' i o e
 have hi:=(xb.mp e).1
 let F':Fp:=fun j=>if j=i then [] else if j=Γ.length then F i else F j
 have g1:F' i= []:=by show (if i=i then _ else _)=_;rw[if_pos rfl]
 have g2:F' Γ.length=F i:=by show (if Γ.length=i then _ else _)=_;rw[if_neg (by omega),if_pos rfl]
 have g3:∀ j,j≠i->j≠Γ.length->F' j=F j:=fun j h1 h2=>by show (if j=i then _ else _)=_;rw[if_neg h1,if_neg h2]
 have cls:∀ j a,a∈F' j->(j=Γ.length/\a∈F i)∨(j≠i/\j≠Γ.length/\a∈F j):=fun j a h=>by
  by_cases h1:j=i
  ·subst h1;rw[g1]at h;cases h
  ·by_cases h2:j=Γ.length
   ·subst h2;rw[g2]at h;exact .inl ⟨rfl,h⟩
   ·rw[g3 j h1 h2]at h;exact .inr ⟨h1,h2,h⟩
 have st:Stp F H F' H:=Zr fun j a h=>by
  rcases cls j a h with ⟨_,h⟩ | ⟨_,_,h⟩
  ·exact⟨_,h⟩
  ·exact⟨_,h⟩
 refine⟨F',v,ev,⟨r.al0,fun j a h=>?_,fun j=>?_,fun j k a h1 h2=>?_,fun j p ej=>?_,fun j h=>?_,by simp[r.len]⟩,st⟩
 ·rcases cls j a h with ⟨_,h⟩ | ⟨_,_,h⟩
  ·exact r.dis0 _ a h
  ·exact r.dis0 _ a h
 ·by_cases h1:j=i
  ·subst h1;rw[g1];exact .nil
  ·by_cases h2:j=Γ.length
   ·subst h2;rw[g2];exact r.nd _
   ·rw[g3 j h1 h2];exact r.nd _
 ·rcases cls j a h1 with ⟨e1,z1⟩ | ⟨n1,m1,z1⟩
  ·rcases cls k a h2 with ⟨e2,z2⟩ | ⟨n2,m2,z2⟩
   ·rw[e1,e2]
   ·exact absurd (r.dis _ _ a z2 z1) n2
  ·rcases cls k a h2 with ⟨e2,z2⟩ | ⟨n2,m2,z2⟩
   ·exact absurd (r.dis _ _ a z1 z2) n1
   ·exact r.dis _ _ a z1 z2
 ·have hsl:(Γ.set i none).length=Γ.length:=by simp
  by_cases hj:j<Γ.length
  ·rw[xc (by omega)]at ej
   by_cases hji:j=i
   ·subst hji;rw[xl hi]at ej;cases ej
   ·rw[xj (Ne.symm hji)]at ej
    obtain⟨w,ew,z⟩:=r.at' j p ej
    refine⟨w,by rw[xc (by rw[r.len];exact hj)];exact ew,?_⟩
    rw[g3 j hji (by omega)]
    exact z.go (fun _ _ x=>zw st r.al0 x) st.tups fun _ _=>rfl
  ·have hj':j=Γ.length:=by
    have:=(xb.mp ej).1
    simp at this;omega
   subst hj'
   rw[xf (by omega),hsl]at ej
   have:o=p:=by simpa using ej
   subst this
   refine⟨v,by rw[xf (by rw[r.len];exact xh _),r.len];simp,?_⟩
   rw[g2]
   exact q.go (fun _ _ x=>zw st r.al0 x) st.tups fun _ _=>rfl
 ·by_cases h1:j=i
  ·subst h1;exact g1
  ·by_cases h2:j=Γ.length
   ·subst h2
    exact absurd (by rw[xf (by simp)];simp) (h o)
   ·rw[g3 j h1 h2]
    refine r.emp j fun p ep=>h p ?_
    rw[xc (by simpa using (xb.mp ep).1),xj (Ne.symm h1)];exact ep
theorem zd5 {s i:Nat}(hN:X.N[s]?=some x) (hv:Vis X.env.scope x) (hm:mp[s]?=some i) (hd:(x==("__debug__" :Str))=false) (hcd:(x==("__classdict__" :Str))=false) :
  SO X XP mp (.Name x pos) (fMove i):=fun M0 F Γ ν σ H Q rs hs hp=>by
 unfold fMove at hp
 split at hp
 ·rename_i o q
  obtain⟨F',v,e1,rs1,s1⟩:=rs.take q
  exact (qg hN hv hd hcd).wp ⟨v,hs s i v hm e1,hp F' H v rs1 s1⟩
 ·exact hp.elim
noncomputable def sRet(fo:EM OV):SM:=fun Γ=>(fo Γ).bind fun (o,Γ1)=>.ok (.ret o,Γ1)
theorem zgN(h:SO X XP mp e fo):SS X XP mp io (.Return (some e) pos) (sRet fo):=fun M0 F Γ ν σ H D rs hs hl hp=>
 (zbv ze).wp (h M0 F Γ ν σ H _ rs hs ((SPost.seqO hs hl hp).mono fun F1 Γ1 H1 o v rs1 s1 h1=>h1 F1 ν v H1 rs1 (.refl _ _) fun _ _=>rfl))
noncomputable def SOt(XP:XPT)(mp:List Nat)(t:TE)(f:EM OV):Prop:=∀ (M0:Addr->Prop) (F:Fp) (Γ:Gv) (ν:Nu) (σ:St) (H:Hp) (Q:VK),RS M0 F Γ ν H->Sees mp ν σ ->
 OPost M0 F ν σ H XP (fun F' Γ' H' o v=>Q v H') (f Γ)->t σ H Q
theorem SNt.so (h:SNt XP mp t na):SOt XP mp t (fOwn na):=fun M0 F Γ ν σ H Q rs hs hp=>
 h M0 F Γ ν σ H Q rs hs (hp.seq.mono fun F1 Γ1 H1 ds rs1 s1 h1 vs p r n=>by
  obtain⟨r2,s2⟩:=rs1.newO n r
  exact h1 _ _ _ r2 s2)
theorem SNt.sd (h:SNt XP mp t na):SOt XP mp t (fD (fNew na)):=fun M0 F Γ ν σ H Q rs hs hp=>
 h M0 F Γ ν σ H Q rs hs (by
  have hp':OPost M0 F ν σ H XP (fun F' Γ' H' o v=>Q v H') ((na Γ).bind fun (ds,Γ1)=>.ok (.d (.list ds),Γ1)):=by
   have e:fD (fNew na) Γ=(na Γ).bind fun (ds,Γ1)=>.ok (.d (.list ds),Γ1):=by
    unfold fD fNew
    cases na Γ<;>rfl
   rw[<- e];exact hp
  exact hp'.seq.mono fun F1 Γ1 H1 ds rs1 s1 h1 vs p r n=>by
   have s2:Same H1 (upd H1 p (.lst vs)):=zB n
   exact h1 F1 _ _ ((rs1.same s2).newD (Rep.list zk (fun z=>rs1.al p z n) (r.grow s2.grow))) (.same s2))
noncomputable def sAsg(io:List Nat)(i:Nat)(fo:EM OV):SM:=fun Γ=>(fo Γ).bind fun (o,Γ1)=>if i<Γ1.length/\i∉io then .ok (.next,Γ1.set i (some o)) else .bad
theorem YY{s i:Nat}(hps:PS X st (yZ t (Vv s)))(hn:mp.Nodup)(hm:mp[s]?=some i)(hsl:s<X.N.length)(h:SOt XP mp t fo):SS X XP mp io st (sAsg io i fo):=fun M0 F Γ ν σ H D rs hs hl hp=>
 hps.wp (h M0 F Γ ν σ H _ rs hs ((SPost.seqO hs hl hp).mono fun F1 Γ1 H1 o v rs1 s1 h1=>by
  dsimp only at h1
  split at h1
  ·rename_i hh
   obtain⟨F2,rs2,s2⟩:=rs1.move hh.1
   exact h1 F2 _ _ H1 rs2 s2 (hs.set hn hm (by rw[hl];exact hsl)) (by simpa using hl) fun j hj=>by
    rw[xj (fun z=>hh.2 (by rw[z];exact hj))]
  ·exact h1.elim))
theorem zgJ{s i:Nat}(hN:X.N.Nodup)(hi:X.N[s]?=some x)(hx:Loc X.env.scope x)(hf:X.fn x=true∨X.env.scope.names.lookup x=some .local)(hn:mp.Nodup)(hm:mp[s]?=some i)(h:SO X XP mp e fo)
  (hsw:swapsWith e (some (.Name x pos')) pos.line X.env=pure false):SS X XP mp io (.Assign [.Name x pos'] e pos) (sAsg io i fo) :=
 YY (QY hN hi hx ze hsw hf) hn hm (xb.mp hi).1 h
noncomputable def sAsgT(t:IT)(fa:EM FV):SM:=fun Γ=>(fa Γ).bind fun (u,Γ1)=>match derS Γ1 u with
 |some x=>match tgF t x Γ1 with
  |some Γ2=>.ok (.next,Γ2)
  |none=>.bad
 |none=>.bad
theorem zbY (ha:SE X XP mp e fa)(hg:SG X mp (·∈io) tg t)(hsw:swapsWithSole [tg] e pos.line X.env=pure false)(hw:swappedStores [tg] e X.env=pure none)
  (hps:PS X (.Assign [tg] e pos) (yZ (wpE X e) (wpG X tg))):SS X XP mp io (.Assign [tg] e pos) (sAsgT t fa):=fun M0 F Γ ν σ H D rs hs hl hp=>
 hps.wp (ha M0 F Γ ν σ H _ rs hs ((SPost.seq hs hl hp).mono fun F1 Γ1 H1 u rs1 s1 h1 v hv=>by
  dsimp only at h1
  split at h1
  ·rename_i x ex
   split at h1
   ·rename_i Γ2 et
    exact hg M0 F1 Γ1 Γ2 ν σ H1 v x _ rs1 hs hl (hv.strong rs1 ex) et fun F2 ν2 σ2 rs2 s2 hs2 hl2 n2 m2=>h1 F2 ν2 σ2 H1 rs2 s2 hs2 hl2 n2
   ·exact h1.elim
  ·exact h1.elim))
noncomputable def sExpr(fa:EM FV):SM:=fun Γ=>(fa Γ).bind fun (_,Γ1)=>.ok (.next,Γ1)
theorem zea(ha:SE X XP mp e fa)(hsw:swapsWith e none pos.line X.env=pure false):SS X XP mp io (.Expr e pos) (sExpr fa):=fun M0 F Γ ν σ H D rs hs hl hp=>
 (JC ze hsw).wp (ha M0 F Γ ν σ H _ rs hs ((SPost.seq hs hl hp).mono fun F1 Γ1 H1 u rs1 s1 h1 v hv=>h1 F1 ν σ H1 rs1 (.refl _ _) hs hl fun _ _=>rfl))
noncomputable def sIf(t:EM Bool)(f g:SM):SM:=fun Γ=>(t Γ).bind fun (b,Γ1)=>if b then f Γ1 else g Γ1
theorem zh9(hc:ST X XP mp c ta)(ha:SB X XP mp io body f)(hb:SB X XP mp io els g):SS X XP mp io (.If c body els pos) (sIf ta f g):=fun M0 F Γ ν σ H D rs hs hl hp=>
 (zhU qR qj qj).wp (hc M0 F Γ ν σ H _ rs hs ((SPost.seq hs hl hp).mono fun F1 Γ1 H1 b rs1 s1 h1=>by
  cases b with
  |true=>exact vq (ha M0 F1 Γ1 ν σ H1 D rs1 hs hl h1)
  |false=>exact vp (hb M0 F1 Γ1 ν σ H1 D rs1 hs hl h1)))
noncomputable def z7(t:IT)(body:SM):List PyData->Gv->R (FL×Gv)
 |[],Γ=>.ok (.next,Γ)
 |d::ds,Γ=>match tgF t d Γ with
  |none=>.bad
  |some Γ1=>match body Γ1 with
   |.ok (.next,Γ2)=>z7 t body ds Γ2
   |.ok (.cnt,Γ2)=>z7 t body ds Γ2
   |.ok (.brk,Γ2)=>.ok (.next,Γ2)
   |r=>r
noncomputable def sFor(t:IT)(src:EM (List PyData))(body:SM):SM:=fun Γ=>(src Γ).bind fun (ds,Γ1)=>z7 t body ds Γ1
theorem zgM (hpo:PassesOwn (model X.prog X.w) X.A X.env X.xe)(hc:X.calm=true)(hi:SI X XP mp tg iter src)(hg:SG X mp (·∈io) tg t)(hb:SB X XP mp io body f)
  (hf:∀ x,foldedSetIterable iter X.env x=pure x):SS X XP mp io (.For tg iter body [] pos) (sFor t src f):=fun M0 F Γ ν σ H D rs hs hl hp=>by
 refine (zbu hpo hc vF vE qj hf).wp (hi M0 F Γ ν σ H _ rs hs ((SPost.seq hs hl hp).mono fun F1 Γ1 H1 ds rs1 s1 h1 J hJ=>?_))
 dsimp only at h1
 refine⟨fun i m σ' H'=>m=ds.length-i/\i<=ds.length/\∃ F' Γ' ν',RS M0 F' Γ' ν' H'/\Stp F1 H1 F' H'/\Sees mp ν' σ'/\σ'.length=X.N.length/\SPost M0 F' ν' H' XP mp X.N.length io D (z7 t f (ds.drop i) Γ'),⟨ds.length,by simp,uk _,F1,Γ1,ν,rs1,.refl _ _,hs,hl,h1⟩,?_⟩
 rintro i m σ' H' ⟨rfl,hil,F',Γ',ν',rs',st',hs',hl',hp'⟩
 obtain⟨jgo,jst⟩:=hJ i F' H' st' rs1.al0
 by_cases hlt:i<ds.length
 ·obtain⟨go,yl⟩:=jgo ds[i] (by simp[hlt])
  rw[List.drop_eq_getElem_cons hlt,z7]at hp'
  refine .inr ⟨go,fun σ2 H2=>∃ F2 Γ2 ν2,RS M0 F2 Γ2 ν2 H2/\Stp F1 H1 F2 H2/\Sees mp ν2 σ2/\σ2.length=X.N.length/\SPost M0 F2 ν2 H2 XP mp X.N.length io D (z7 t f (ds.drop (i+1)) Γ2),fun σ2 H2 h=>⟨ds.length-(i+1),by omega,rfl,hlt,h⟩,fun x H2 hy=>?_⟩
  obtain⟨s2,rx⟩:=yl x H2 hy
  cases et:tgF t ds[i] Γ' with
  |none=>rw[et]at hp';exact hp'.elim
  |some Γ2=>
   rw[et]at hp'
   dsimp only at hp'
   refine hg M0 F' Γ' Γ2 ν' σ' H2 x ds[i] _ (rs'.same s2) hs' hl' rx et fun F3 ν3 σ3 rs3 s3 hs3 hl3 n3 m3=>?_
   have sA:Stp F' H' F3 H2:=(Stp.same s2).trans s3
   refine hb M0 F3 Γ2 ν3 σ3 H2 _ rs3 hs3 hl3 ?_
   cases ef:f Γ2 with
   |bad=>rw[ef]at hp';exact hp'.elim
   |exc xx yy=>
    rw[ef]at hp'
    exact hp'.step sA n3
   |ok z=>
    obtain⟨fl,Γ4⟩:=z
    rw[ef]at hp'
    cases fl with
    |next=>exact fun F4 ν4 σ4 H4 a b c d e=>⟨F4,Γ4,ν4,a,(st'.trans sA).trans b,c,d,hp'.step (sA.trans b) fun i hi=>(e i hi).trans (n3 i hi)⟩
    |cnt=>exact fun F4 ν4 σ4 H4 a b c d e=>⟨F4,Γ4,ν4,a,(st'.trans sA).trans b,c,d,hp'.step (sA.trans b) fun i hi=>(e i hi).trans (n3 i hi)⟩
    |brk=>exact fun F4 ν4 σ4 H4 a b c d e=>hp' F4 ν4 σ4 H4 a (sA.trans b) c d fun i hi=>(e i hi).trans (n3 i hi)
    |ret o=>exact fun F4 ν4 v4 H4 a b e=>hp' F4 ν4 v4 H4 a (sA.trans b) fun i hi=>(e i hi).trans (n3 i hi)
 ·have e:i=ds.length:=by omega
  subst e
  rw[uU,z7]at hp'
  exact .inl ⟨jst (xh _),hp' F' ν' σ' H' rs' (.refl _ _) hs' hl' fun _ _=>rfl⟩
noncomputable def Qk(t:EM Bool)(body:SM):Nat->Gv->R (FL×Gv)
 |0,_=>.bad
 |n+1,Γ=>(t Γ).bind fun (b,Γ1)=>if b then match body Γ1 with
   |.ok (.next,Γ2)=>Qk t body n Γ2
   |.ok (.cnt,Γ2)=>Qk t body n Γ2
   |.ok (.brk,Γ2)=>.ok (.next,Γ2)
   |r=>r
  else .ok (.next,Γ1)
noncomputable def yW(n:Nat)(t:EM Bool)(body:SM):SM:=Qk t body n
theorem zb0 (hpo:PassesOwn (model X.prog X.w) X.A X.env X.xe)(hc:ST X XP mp c ta)(hb:SB X XP mp io body f):SS X XP mp io (.While c body [] pos) (yW n ta f):=fun M0 F Γ ν σ H D rs hs hl hp=>by
 refine (zbw hpo qR qj).wp ⟨fun m σ' H'=>∃ F' Γ' ν',RS M0 F' Γ' ν' H'/\Sees mp ν' σ'/\σ'.length=X.N.length/\SPost M0 F' ν' H' XP mp X.N.length io D (Qk ta f m Γ'),⟨n,F,Γ,ν,rs,hs,hl,hp⟩,?_⟩
 rintro m σ' H' ⟨F',Γ',ν',rs',hs',hl',hp'⟩
 cases m with
 |zero=>exact hp'.elim
 |succ m=>
  rw[Qk]at hp'
  refine hc M0 F' Γ' ν' σ' H' _ rs' hs' ((SPost.seq hs' hl' hp').mono fun F1 Γ1 H1 b rs1 s1 h1=>?_)
  dsimp only at h1
  cases b with
  |false=>exact vp (h1 F1 ν' σ' H1 rs1 (.refl _ _) hs' hl' fun _ _=>rfl)
  |true=>
   refine vq ⟨fun σ2 H2=>∃ F2 Γ2 ν2,RS M0 F2 Γ2 ν2 H2/\Sees mp ν2 σ2/\σ2.length=X.N.length/\SPost M0 F2 ν2 H2 XP mp X.N.length io D (Qk ta f m Γ2),fun σ2 H2 h=>⟨m,uI _,h⟩,?_⟩
   rw[if_pos rfl]at h1
   refine hb M0 F1 Γ1 ν' σ' H1 _ rs1 hs' hl' ?_
   cases ef:f Γ1 with
   |bad=>rw[ef]at h1;exact h1.elim
   |exc xx yy=>rw[ef]at h1;exact h1
   |ok z=>
    obtain⟨fl,Γ4⟩:=z
    rw[ef]at h1
    cases fl with
    |next=>exact fun F4 ν4 σ4 H4 a b c d e=>⟨F4,Γ4,ν4,a,c,d,h1.step b e⟩
    |cnt=>exact fun F4 ν4 σ4 H4 a b c d e=>⟨F4,Γ4,ν4,a,c,d,h1.step b e⟩
    |brk=>exact h1
    |ret o=>exact h1
theorem ZR {i:Nat}(rs:RS M0 F Γ ν H)(e:Γ[i]?=some (some (.l xs))):∃ a vs A,ν[i]?=some (some (.ref a))/\H a=some (.lst vs)/\ORL (MM M0 F) H vs xs A/\F i=a::A/\A.Nodup:=by
 obtain⟨v,ev,q⟩:=rs.at' i _ e
 have nd:=rs.nd i
 generalize hA:F i=A at q
 rw[hA]at nd
 cases q with
 |l ea qa=>exact⟨_,_,_,ev,ea,qa,rfl,(xG.mp nd).2⟩
theorem yJ{M0:Addr->Prop}{F:Fp}{Γ:Gv}{ν:Nu}{H:Hp}{i:Nat}{xs xs':List OV}{a:Addr}{vs vs':List V}(rs:RS M0 F Γ ν H)(e:Γ[i]?=some (some (.l xs)))(en:ν[i]?=some (some (.ref a)))(eh:H a=some (.lst vs))
  (h:∀ A,ORL (MM M0 F) H vs xs A->ORL (MM M0 F) H vs' xs' A):∃ F',RS M0 F' (Γ.set i (some (.l xs'))) ν (upd H a (.lst vs'))/\Stp F H F' (upd H a (.lst vs')) :=
 rs.mut (xs':=xs') (vs:=vs') e en fun us A eu qa eF=>by
  rw[eh]at eu;cases eu
  have nd:=rs.nd i
  rw[eF]at nd
  exact⟨A,fun _ h=>h,(xG.mp nd).2,h A qa⟩
noncomputable def isOwn(Γ:Gv)(i:Nat):Bool:=match Γ[i]? with
 |some (some (.l _))=>true
 |_=>false
theorem wB {i:Nat}(h:isOwn Γ i=true):∃ xs,Γ[i]?=some (some (.l xs)):=by
 unfold isOwn at h
 split at h
 ·rename_i xs e;exact⟨xs,e⟩
 ·cases h
structure NmK(X:Cx)(mp:List Nat)(s i:Nat)(x:Str):Prop where
 hN:X.N[s]?=some x
 hv:Vis X.env.scope x
 hm:mp[s]?=some i
 hd:(x==("__debug__" :Str))=false
 hcd:(x==("__classdict__" :Str))=false
noncomputable def sApp(i:Nat)(fa:EM FV):SM:=fun Γ=>if isOwn Γ i then (fa Γ).bind fun (u,Γ1)=>match derS Γ1 u,Γ1[i]? with
 |some x,some (some (.l xs))=>if xs.length<1000000 then .ok (.next,Γ1.set i (some (.l (xs++ [.d x])))) else .bad
 |_,_=>.bad
 else .bad
theorem zgI{s i:Nat}{x:Str}(n:NmK X mp s i x)(ha:SE X XP mp a fa)(hst:starEach [a] X.env= [(false,eval a X.env)])(hline:(p2.endLine==pos.line)=true) :
  SS X XP mp io (.Expr (.Call (.Attribute (.Name x p) "append" p2) [a] [] pos) pos') (sApp i fa):=fun M0 F Γ ν σ H D rs hs hl hp=>by
 unfold sApp at hp
 split at hp
 ·rename_i hw
  obtain⟨xs0,e0⟩:=wB hw
  obtain⟨a0,vs0,A0,en0,eh0,q0,_,_⟩:=ZR rs e0
  refine (JC (zhQ PySem.F.plainAttrs_list PySem.F.slot_list_append PySem.F.type_list_append kT (qg n.hN n.hv n.hd n.hcd) (zo ze pa_nil hst) rfl (by rw[hst];rfl) hline hst rfl) rfl).wp ⟨.ref a0,hs s i _ n.hm en0,.inl ⟨rfl,_,SqL.of eh0⟩,?_⟩
  refine ha M0 F Γ ν σ H _ rs hs ((SPost.seq hs hl hp).mono fun F1 Γ1 H1 u rs1 s1 h1 v hv=>?_)
  dsimp only at h1
  split at h1
  ·rename_i y xs ey ex
   split at h1
   ·rename_i hz
    obtain⟨a1,vs1,A1,en1,eh1,q1,_,_⟩:=ZR rs1 ex
    rw[en0]at en1
    cases en1
    refine⟨a0,vs1,v,rfl,rfl,eh1,by have:=sizeLine_eq;rw[q1.length];omega,?_⟩
    obtain⟨F2,rs2,s2⟩:=yJ rs1 ex en0 eh1 fun A qa=>qa.snoc (hv.strong rs1 ey)
    exact h1 F2 ν σ _ rs2 s2 hs hl fun _ _=>rfl
   ·exact h1.elim
  ·exact h1.elim
 ·exact hp.elim
noncomputable def sSet(i:Nat)(fi fv:EM FV):SM:=fun Γ=>(fv Γ).bind fun (u,Γ1)=>if isOwn Γ1 i then (fi Γ1).bind fun (w,Γ2)=>match derS Γ2 u,derf Γ2 w,Γ2[i]? with
 |some x,some (.int k),some (some (.l xs))=>match ixN xs.length k with
  |some j=>match xs[j]? with
   |some (.d _)=>.ok (.next,Γ2.set i (some (.l (xs.set j (.d x)))))
   |_=>.bad
  |none=>.bad
 |_,_,_=>.bad
 else .bad
theorem zgO{s i:Nat}{x:Str}(n:NmK X mp s i x)(hi:SE X XP mp b fb)(hv:SE X XP mp a fa)(hsw:swapsWithSole [.Subscript (.Name x p) b p2] a pos.line X.env=pure false)(hw:swappedStores [.Subscript (.Name x p) b p2] a X.env=pure none)
  (hps:∀ {te:TE} {g:TG},PE X a te->PG X (.Subscript (.Name x p) b p2) g->PS X (.Assign [.Subscript (.Name x p) b p2] a pos) (yZ te g)) (hpg:∀ {to ti:TE} {t:zcC},PE X (.Name x p) to->PE X b ti->ze4 X t->PG X (.Subscript (.Name x p) b p2) (zhy to ti t)) :
  SS X XP mp io (.Assign [.Subscript (.Name x p) b p2] a pos) (sSet i fb fa):=fun M0 F Γ ν σ H D rs hs hl hp=>by
 refine (hps ze (hpg (qg n.hN n.hv n.hd n.hcd) ze zbP)).wp (hv M0 F Γ ν σ H _ rs hs ((SPost.seq hs hl hp).mono fun F1 Γ1 H1 u rs1 s1 h1 v ov=>?_))
 dsimp only at h1
 split at h1
 ·rename_i hw
  obtain⟨xs0,e0⟩:=wB hw
  obtain⟨a0,vs0,A0,en0,eh0,q0,_,_⟩:=ZR rs1 e0
  refine⟨.ref a0,hs s i _ n.hm en0,?_⟩
  refine hi M0 F1 Γ1 ν σ H1 _ rs1 hs ((SPost.seq hs hl h1).mono fun F2 Γ2 H2 w rs2 s2 h2 vi oi=>?_)
  dsimp only at h2
  split at h2
  ·rename_i y k xs ey ek ex
   split at h2
   ·rename_i j ej
    split at h2
    ·rename_i z ez
     obtain⟨a1,vs1,A1,en1,eh1,q1,_,_⟩:=ZR rs2 ex
     rw[en0]at en1
     cases en1
     cases oi.weak rs2 ek
     refine⟨a0,vs1,k,j,rfl,rfl,eh1,by rw[q1.length];exact ej,?_⟩
     obtain⟨F3,rs3,s3⟩:=yJ rs2 ex en0 eh1 fun A qa=>qa.setD ((ov.stp s2 rs1.al0).strong rs2 ey) ez
     exact h2 F3 ν σ _ rs3 s3 hs hl fun _ _=>rfl
    ·exact h2.elim
   ·exact h2.elim
  ·exact h2.elim
 ·exact h1.elim
noncomputable def derfs(Γ:Gv):List FV->Option (List PyData)
 |[]=>some []
 |u::us=>match derf Γ u,derfs Γ us with
  |some x,some xs=>some (x::xs)
  |_,_=>none
theorem FOks.weak (rs:RS M0 F Γ ν H):∀ {vs:List V}{us:List FV}{ds:List PyData},FOks M0 F ν H vs us->derfs Γ us=some ds->RepL zE H vs ds
 |_,_,_,.nil,e=>by cases e;exact .nil
 |_,_,_,.cons h t,e=>by
  unfold derfs at e
  split at e
  ·rename_i e1 e2
   cases e
   exact .cons (h.weak rs e1) (FOks.weak rs t e2)
  ·cases e
noncomputable def fCallW(run:List OV->RF)(fl:EM (List FV)):EM FV:=fun Γ=>(fl Γ).bind fun (us,Γ1)=>match derfs Γ1 us with
 |none=>.bad
 |some ds=>match run (ds.map .d) with
  |.ok (.d x) _=>if noL x then .ok (.dat x,Γ1) else .bad
  |_=>.bad
theorem zfA {vs:List V}{ds:List PyData}(r:RepL zE H vs ds):RS zE (fun _=> []) ((ds.map OV.d).map some) (vs.map some) H where
 al0 a h:=h.elim
 dis0 i a h:=by cases h
 nd i:=.nil
 dis i j a h:=by cases h
 at' j o e:=by
  rw[xk,xk]at e
  cases q:ds[j]? with
  |none=>rw[q]at e;cases e
  |some x=>
   rw[q]at e
   have eo:OV.d x=o:=by simpa using e
   subst eo
   obtain⟨v,ev,rv⟩:=r.get' q
   refine⟨v,by rw[xk,ev];rfl,.d (rv.less fun b hb _=>?_)⟩
   rcases hb with hb | ⟨i,hb⟩
   ·exact hb
   ·cases hb
 emp i h:=rfl
 len:=by simp[r.length]
theorem zbJ{x:Str}{k n:Nat}{run:List OV->RF}{fl:EM (List FV)}(px:PxOk X XP)(kn:Kn X.prog X.w X.K X.mg X.base (CX1 X.prog X.w) x k (spX X.mg n run))(hr:Room k X.A)(hg:Gl X x)(hrun:Ran n run)(hlist:SL X XP mp (a::es) fl)
  (hdb:(x==("__debug__" :Str))=false) (he:starEach (a::es) X.env=(false,eval a X.env)::starEach es X.env) (hpl:(backTo pos (starEach es X.env)).any (·.1)=false):SE X XP mp (.Call (.Name x p) (a::es) [] pos) (fCallW run fl):=fun M0 F Γ ν σ H Q rs hs hp=>
 Wa (E:=fun _ _ _=>False) kn hr hg (fun pins H1 s1 e s' I hx=>px.call σ pins H1 s1 e s' _ (fun c dx H' q=>q.elim) I hx) (hlist M0 F Γ ν σ H _ rs hs (hp.seq.mono fun F1 Γ1 H1 us rs1 s1 h1 vs oks=>by
  dsimp only at h1
  split at h1
  ·exact h1.elim
  ·rename_i ds ed
   have rw0:=oks.weak rs1 ed
   split at h1
   ·rename_i y outs er
    split at h1
    ·rename_i hz
     have hl:=(hrun (ds.map .d)).1 (by rw[er];exact fun z=>nomatch z)
     refine⟨by rw[rw0.length,<- hl];simp,zE,fun _=> [],ds.map .d,zfA rw0,?_⟩
     rw[er]
     intro F' v H' rc sc
     have sm:Same H1 H':=fun b o e=>(sc.keep b o e fun _ h=>nomatch h).1
     refine h1 F1 H' (rs1.same sm) (.same sm) v ?_
     have hlen:=rc.len
     obtain⟨w,ew,q⟩:=rc.at' outs.length (.d y) (by rw[xf (xh _)];simp)
     have hol:outs.length=(vs.map some).length:=by simp at hlen |-;omega
     rw[hol,xf (xh _)]at ew
     have:v=w:=by simpa using ew
     subst this
     generalize F' outs.length=A at q
     cases q with
     |d q=>exact Rep.free hz q
    ·exact h1.elim
   ·exact h1.elim)) hdb he hpl
end
end L3
namespace L2
open PySem PySem.Spec PyProof.Rows
variable [Cs]
section
variable {X:Cx}{pins:List (Addr×Obj)}{σ:List (Option V)}{H:Hp}{s:Shared}{h':Heap}
theorem Inv.turnedL{t':Nat}{ch:List Addr}(I:Inv X pins σ H s)(k:∀ b o,b∉ch->s.heap.get? b=some o->h'.get? b=some o)(there:∀ b o,b∈ch->s.heap.get? b=some o->∃ o',h'.get? b=some o')(hf:∀ b∈ch,ZF X pins H b):Inv X pins σ H { s with heap:=h',toks:=t' }:=by
 have nit:∀ b u,H b=some u->b∉ch:=fun b u e z=>by rw[(hf b z).1]at e;cases e
 refine I.step (g':=s.gens) (d':=s.drawn) (ch:=ch) (fun b hb=>?_) (fun b o _ _ hc e _=>k b o hc e) (fun b o _ _ hc e _=>⟨o.slots,k b o hc e⟩) (fun _ _ _ _ n=>n)
  (fun b o hc e=>⟨o,k b o hc e⟩) (fun _ _ e=>e) (fun _ _ _ e=>e) (fun b ps e=>⟨#[],by rw[e];simp⟩) (fun m hm=>?_) (fun b u e=>?_) I.bare
 ·obtain⟨f0,f1,f2,f3,f4,f5⟩:=hf b hb
  exact⟨f3,f1,f4,f5⟩
 ·obtain⟨o,es,ep,ho,r⟩:=hm
  exact⟨o,es,ep,k _ o (fun z=>(hf _ z).2.1 rfl) ho,r⟩
 ·refine (I.hok b u e).stay (fun c v hc q=>k c v ?_ q) (fun _ q=>q) fun _ _ q=>q
  rcases hc with z | z
  ·rw[z];exact nit b u e
  ·exact nit c _ z
end
noncomputable def Ite(K:PySem.W.Frag)(a:Addr):It :=
 ⟨fun i H=>∃ xs x,SqL K H a xs/\xs[i]?=some x,fun i H x H'=>∃ p y,H p=none/\H'=upd H p (.tup [.int i,y])/\x=.ref p/\∀ xs,SqL K H a xs->xs[i]?=some y,fun i H=>∃ xs,SqL K H a xs/\xs.length<=i⟩
theorem Ky {K:PySem.W.Frag}(a e it:Addr)(hei:e≠it):yd P w K (.Tuple elts x1 pos) (Ite K a) [e,it] e (fun i h=>(∃ old,IsEnum h e it i old)/\h.IsListIter it a i) where
 mem:=by simp
 obj:=fun i h st b hb=>by
  obtain⟨⟨old,he⟩,hit⟩:=st
  rcases xt.mp hb with rfl | hb
  ·exact⟨_,he,fun v z=>by cases z⟩
  ·have eb:b=it:=by simpa using hb
   subst eb
   obtain⟨o,e,c,d⟩:=hit
   exact⟨o,e,fun v z=>by rw[d]at z;cases z⟩
 keep:=fun i h h' st k=>by
  obtain⟨⟨old,he⟩,hit⟩:=st
  exact⟨⟨old,k e (by simp) _ he⟩,hit.at fun o q=>k it (by simp) o q⟩
 item:=by
  intro X hP hw hK hc i pins s σ H E I hf st hg
  subst hP hw hK
  obtain⟨⟨old,he⟩,hit⟩:=st
  obtain⟨xs,x,hq,hx⟩:=hg
  obtain⟨its,rv,p,hz⟩:=I.list hq
  obtain⟨u,hu,ru⟩:=rv.get hx
  have helt:e<s.heap.objs.size:=Heap.lt_size he
  have hilt:it<s.heap.objs.size:=by obtain⟨_,q,_⟩:=hit;exact Heap.lt_size q
  refine wpAny_pyNext_enum_item he hit p.isList (x:=u) (by simpa using hu) hei fun h1 ho hit1 hT hsz hk=>⟨.ref s.heap.objs.size,rfl,wpAny_letOwnedTupleGo_enum ho fun h2 he2 hs2=>?_⟩
  have keep2:∀ b o,b≠e->b≠it->s.heap.get? b=some o->h2.get? b=some o:=fun b o h1' h2' q=>(hs2.2 b h1').trans (hk b o h1' h2' q)
  have hit2:h2.IsListIter it a (i+1):=hit1.at fun o q=>(hs2.2 it (Ne.symm hei)).trans q
  have I1:Inv X pins σ H { s with heap:=h2,toks:=s.toks+1 }:=I.turnedL (ch:= [e,it]) (fun b o hb q=>keep2 b o (fun z=>hb (by simp[z])) (fun z=>hb (by simp[z])) q) (fun b o hb q=>by
   rcases xt.mp hb with rfl | hb
   ·exact⟨_,he2⟩
   ·have eb:b=it:=by simpa using hb
    subst eb
    obtain⟨o',q',_⟩:=hit2
    exact⟨o',q'⟩) hf
  have hTn:H s.heap.objs.size=none:=I.hok.fresh (xh _)
  have hT2:h2.get? s.heap.objs.size=some { cls:=.type "tuple",data:=.seq #[.int i s.toks,u] }:=(hs2.2 _ (uX helt)).trans hT
  have I2:Inv X pins σ (upd H s.heap.objs.size (.tup [.int i,x])) { s with heap:=h2,toks:=s.toks+1 }:=I1.track I.sz hTn (Ne.symm (xr I.lt)) (fun y c q=>by
    obtain⟨v,ob,hob,_⟩:=I.cell y c q
    exact xr (Heap.lt_size hob)) (fun q hq'=>xr (Heap.lt_size (I.pin q hq').1))
   ⟨by show 2<=sizeLine;decide,[.int i s.toks,u],.cons ⟨_,rfl⟩ (.cons ru .nil),⟨_,hT2,rfl,_,rfl⟩⟩
  refine⟨.ref s.heap.objs.size,_,I2,rfl,⟨_,x,hTn,rfl,rfl,fun ys hy=>by rw[I.list_inj hy hq];exact hx⟩,⟨⟨u,by simpa using he2⟩,hit2⟩,fun b hb=>?_⟩
  rw[zg]
  ·exact (hf b hb).1
  ·rcases xt.mp hb with rfl | hb
   ·exact xr helt
   ·have eb:b=it:=by simpa using hb
    subst eb;exact xr hilt
 done:=by
  intro X hP hw hK hc i pins s σ H E I hf st hg
  subst hP hw hK
  obtain⟨⟨old,he⟩,hit⟩:=st
  obtain⟨xs,hq,hx⟩:=hg
  obtain⟨its,rv,p,hz⟩:=I.list hq
  obtain⟨f0,f1,f2,f3,f4,f5⟩:=hf it (by simp)
  have hl:=rv.length
  exact wpAny_pyNext_enum_end (I.ok.hd hc) he hit p.isList (by simp;omega) fun h1 eb=>⟨rfl,I.turned (t':=s.toks) (fun b o hb q=>eb b o hb q) f0 f1 f3 f4 f5⟩
 self:=fun _ _ _ _ _ st h=>by
  obtain⟨⟨old,he⟩,_⟩:=st
  exact wpAny_pyIter_enum he h
theorem boot_enumW:bootBuiltins "enumerate" =some (.type "enumerate"):=by decide +kernel
section
variable {X:Cx}
noncomputable def zhA(K:PySem.W.Frag)(tl:TE):TI:=fun σ H R=>tl σ H fun x H1=>∃ a,x=.ref a/\(∃ xs,SqL K H1 a xs)/\R (Ite K a) H1
theorem zdA (hg:Gl X "enumerate") (hm:X.mg "enumerate" =none) (hst:starEach [l] X.env= [(false,eval l X.env)]) :
  PI X (.Tuple elts x1 pt) (.Call (.Name "enumerate" p) [l] [] pos) (zhA X.K (wpE X l)):=by
 intro pins s σ H R I h
 have h':YZ (wpE X l) zei σ H (fun vs H1=>∃ v,vs= [v]/\∃ a,v=.ref a/\(∃ xs,SqL X.K H1 a xs)/\R (Ite X.K a) H1):=wpE.mono h fun v H1 q=>⟨v,rfl,q⟩
 refine Call_ (jF I hg hm boot_enumW (PyProof.Rows.callWith_type1 (thn ((zo ze pa_nil hst) pos pins s σ H _ I h') fun us s1 ⟨vs,H1,I1,r1,q1⟩=>?_) hst rfl))
 obtain⟨v,rfl,a,rfl,⟨xs,hq⟩,q⟩:=q1
 obtain⟨u,rfl,ru⟩:=ZE r1
 cases ru
 obtain⟨its,rv,pl,hz⟩:=I1.list hq
 refine call_enumerate_list pl.isList fun h1 he hit hsz hk=>?_
 refine wpAny_pyIter_enum he ?_
 have I2:Inv X pins σ H1 { s1 with heap:=h1 }:=I1.kept (t':=s1.toks) hk
 refine⟨s1.heap.objs.size+1,[s1.heap.objs.size+1,s1.heap.objs.size],_,_,H1,rfl,I2,Ky a _ _ (Nat.succ_ne_self _),⟨⟨_,he⟩,hit⟩,fun b hb=>?_,q⟩
 rcases xt.mp hb with rfl | hb
 ·exact I1.fpOk (uO _) (I1.hok.fresh (uO _))
 ·have eb:b=s1.heap.objs.size:=by simpa using hb
  subst eb
  exact I1.fpOk (xh _) (I1.hok.fresh (xh _))
end
end L2
namespace L3
open PySem PySem.Spec PyProof.Rows L2
variable [Cs]
noncomputable def qe(ds:List PyData):List PyData:=ds.zipIdx.map fun p=>PyData.tuple [.int p.2,p.1]
theorem QH {i:Nat}(h:(qe ds)[i]?=some d):∃ x,ds[i]?=some x/\d=.tuple [.int i,x]:=by
 unfold qe at h
 rw[xk,List.getElem?_zipIdx]at h
 cases e:ds[i]? with
 |none=>rw[e]at h;cases h
 |some x=>rw[e]at h;simp at h;exact⟨x,rfl,h.symm⟩
theorem qc(ds:List PyData):(qe ds).length=ds.length:=by simp[qe]
noncomputable def fEnum(fa:EM FV):EM (List PyData):=fun Γ=>(fa Γ).bind fun (u,Γ1)=>match derS Γ1 u with
 |some (.list ds)=>.ok (qe ds,Γ1)
 |_=>.bad
theorem zdh {K:PySem.W.Frag}(e:H1 l=some (.lst vs))(n:¬ MM M0 F l)(r:RepL (MM M0 F) H1 vs ds):JI M0 F (Ite K l) (qe ds) H1:=fun i F' H' s h0=>by
 have e':H' l=some (.lst vs):=(s.keep l _ e fun j hj=>n (.inr ⟨j,hj⟩)).1
 refine⟨fun d hd=>?_,fun hl=>⟨vs,SqL.of e',by rw[qc]at hl;rw[r.length];exact hl⟩⟩
 obtain⟨x,hx,rfl⟩:=QH hd
 obtain⟨v,hv,rv⟩:=r.get' hx
 refine⟨⟨vs,v,SqL.of e',hv⟩,fun z H2 ⟨p,y,np,e2,ez,hy⟩=>?_⟩
 subst e2 ez
 have:=hy vs (SqL.of e')
 rw[hv]at this;cases this
 exact⟨zB np,.tuple zk (.cons (.int _) (.cons ((zw s h0 rv).grow (zB np).grow) .nil))⟩
section
variable {X:Cx}{XP:XPT}{mp:List Nat}{a:Expr}{p pos:Pos}{fa:EM FV}
theorem zdZ (B:BiK X x (.type "enumerate")) (ex:x= "enumerate") (ha:SE X XP mp a fa) (hst:starEach [a] X.env= [(false,eval a X.env)]):SI X XP mp (.Tuple elts x1 pt) (.Call (.Name x p) [a] [] pos) (fEnum fa):=fun M0 F Γ ν σ H R rs hs hp=>by
 subst ex
 exact (zdA B.gl B.mg hst).wp (ha.run rs hs hp fun F1 Γ1 H1 u v rs1 s1 o1 h1=>by
  dsimp only at h1
  split at h1
  ·rename_i ds eu
   obtain⟨l,vs,rfl,e,n,r⟩:=(o1.strong rs1 eu).lst_inv
   exact⟨l,rfl,⟨vs,SqL.of e⟩,h1 F1 H1 rs1 (.refl _ _) _ (zdh e n r)⟩
  ·exact h1.elim)
end
end L3
namespace L2
open PySem PySem.Spec PyProof.Rows
variable [Cs]
structure zha(M:Addr->Prop)(H:Hp)(b c:Addr)(cells:List Int)(i l t s:Int):Prop where
 mb:M b
 hb:H b=some (.lst [.ref c,.int i,.int l,.int t,.int s])
 hc:Rep M H (.ref c) (.list (cells.map PyData.int))
 hi:0<=i
noncomputable def BoxAt(M:Addr->Prop)(H:Hp)(b:Addr):Prop:=∃ c cells i l t s,zha M H b c cells i l t s
theorem BoxAt.mem (B:BoxAt M H b):M b:=let ⟨_,_,_,_,_,_,B⟩:=B;B.mb
theorem BoxAt.lst{M:Addr->Prop}{H:Hp}{b:Addr}(B:BoxAt M H b):∃ xs,H b=some (.lst xs):=let ⟨_,_,_,_,_,_,B⟩:=B;⟨_,B.hb⟩
noncomputable def zbX(K:PySem.W.Frag):Sp:=fun vs H Q _=>∃ (a:Addr) (ns:List Int),vs= [.ref a]/\SqL K H a (ns.map V.int)/\ns.length<=63/\∀ b H',Same H H'->H b=none->H' b≠none->BoxAt (fun a=>a=b) H' b->Q (.ref b) H'
theorem RepL.intsInv :∀ {vs:List V}{ns:List Int},RepL M H vs (ns.map PyData.int)->vs=ns.map V.int
 |_,[],.nil=>rfl
 |_,n::ns,.cons q t=>by cases q;rw[xB,<- RepL.intsInv t]
section
end
theorem Ww{n i:Nat}(e:(List.replicate n none:Ge)[i]?=some (some z)):False:=by
 rw[xU]at e
 split at e
 ·cases e
 ·cases e
theorem RS.blank (n:Nat)(al:Al M H):RS M (List.replicate n none) σ H:=⟨al,fun i d e=>(Ww e).elim,fun i d e=>(Ww e).elim⟩
section
variable {X:Cx}{H:Hp}{D:qJ}{sts:List Stmt}{p pos pos' p2:Pos}{x:Str}{k:Nat}{Q:VK}
theorem zg2 {ns:List Int}(hN:X.N.Nodup) (kb:Kn X.prog X.w X.K X.mg X.base CX0 "_law_box" k (zbX X.K)) (hr:Room k X.A) (hS:SqL X.K H a (ns.map V.int)) (hlen:ns.length<=63)
  (kk:∀ b σ' H',Same H H'->H b=none->BoxAt (fun a=>a=b) H' b->RS (fun a=>a=b) ((List.replicate X.N.length none).set 1 (some (.v (.ref b)))) σ' H'->σ'.length=X.N.length->wpB X sts D σ' H')
  (hNe:X.N=N) (h0:N[0]?=some ("_law_script" :Str)) (hi:X.N[1]?=some x:=by rfl) (hv0:Vis X.env.scope "_law_script" :=by first | exact Or.inl rfl | exact Or.inr (Or.inl rfl) | exact Or.inr (Or.inr rfl)) (hx:Loc X.env.scope x:=by first | exact Or.inl rfl | exact Or.inr rfl)
  (hf:X.fn x=true∨X.env.scope.names.lookup x=some .local:=by first | exact .inl rfl | exact .inr rfl | assumption) (hg:Gl X "_law_box" :=by rfl)
  (hs:starEach [.Name "_law_script" p2] X.env= [(false,eval (.Name "_law_script" p2) X.env)]:=by rfl) (hpl:(backTo p (starEach [] X.env)).any (·.1)=false:=by rfl)  :
  wpB X (.Assign [.Name x pos'] (.Call (.Name "_law_box" p3) [.Name "_law_script" p2] [] p) pos::sts) D (start N [.ref a]) H:=by
 have hl:1<N.length:=by rw[<- hNe];exact (xb.mp hi).1
 have hst:(start N [V.ref a]).length=N.length:=vO (by simp;omega)
 refine zii 1 (Q:=fun v H'=>∃ b,v=.ref b/\Same H H'/\H b=none/\BoxAt (fun a=>a=b) H' b) hN (zez kb hr hg zhP ((zo (qg (by rw[hNe];exact h0) hv0) pa_nil hs).wp ⟨.ref a,by simp[start],a,ns,rfl,hS,hlen,fun b H' s' nb _ hB=>⟨b,rfl,s',nb,hB⟩⟩) (by decide) hs hpl) (fun v H1 ⟨b,ev,s1,nb,hB⟩=>?_) hi hx rfl hf
 subst ev
 refine kk b _ H1 s1 nb hB ((RS.blank X.N.length (fun c hc=>?_)).setV (by rw[hst];exact hl)) (by rw[uh,hst,hNe])
 subst hc
 obtain⟨xs,hx⟩:=hB.lst
 rw[hx]
 exact fun z=>nomatch z
end
noncomputable def Ji(ns:List Int):List Int:=ns.mergeSort fun a b=>decide (a<=b)
theorem wW(ns:List Int):(Ji ns).Perm ns:=List.mergeSort_perm _ _
theorem zbW(ns:List Int):(Ji ns).Pairwise (·<=·):=by
 have h:=List.pairwise_mergeSort (le:=fun a b:Int=>decide (a<=b)) (by intro a b c h1 h2;simp at *;omega) (by intro a b;simp;omega) ns
 exact h.imp fun {a b} h=>by simpa using h
theorem VY{ns ms:List Int}(hp:ms.Perm ns)(hs:ms.Pairwise (·<=·)):ms=Ji ns :=
 List.Perm.eq_of_pairwise (le:=fun a b:Int=>a<=b) (fun a b _ _ h1 h2=>Int.le_antisymm h1 h2) hs (zbW ns) (hp.trans (wW ns).symm)
theorem Kp(ns:List Int):(Ji ns).length=ns.length:=(wW ns).length_eq
theorem IntsAre.of:∀ {ns:List Int}{us:List Value},Vals (ns.map V.int) us->IntsAre us ns
 |[],_,.nil=>.nil
 |n::ns,_,.cons ⟨t,e⟩ r=>by subst e;exact .cons n t (IntsAre.of r)
theorem Vals.ofInts:∀ {us:List Value}{ns:List Int},IntsAre us ns->Vals (ns.map V.int) us
 |_,_,.nil=>.nil
 |_,_,.cons n t r=>.cons ⟨t,rfl⟩ (Vals.ofInts r)
section
variable {X:Cx}
theorem Vg:jo X (.builtin "sorted") (fun xs H Q=>∃ p ns,xs= [.ref p]/\SqL X.K H p (List.map V.int ns)/\ns.length<64/\∀ l,H l=none->Q (.ref l) (upd H l (.lst ((Ji ns).map V.int)))):=by
 intro pins s σ H xs us Q I r h
 obtain⟨p,ns,rfl,hq,h64,q⟩:=h
 obtain⟨u,rfl,rx⟩:=ZE r
 cases rx
 obtain⟨its,r',pl,hz⟩:=I.list hq
 have hlen:=r'.length
 rw[xo]at hlen
 refine sorted_ints pl.isList (IntsAre.of r') (by omega) fun out ns' a1 a2 a3=>?_
 have e:=VY a2 a3
 subst e
 obtain⟨c',ec⟩:=sortedAll_at s.heap its out
 refine⟨.ref (s.heap.objs.size+1),_,I.laid (t':=s.toks) (fun b o e=>sortedAll_old e) (uO _) (show ObjOk X.prog X.w _ _ _ (.lst ((Ji ns).map V.int)) from ⟨?_,out.toList,c',Vals.ofInts a1,?_⟩),rfl,q _ (I.hok.fresh (uO _))⟩
 ·rw[xo,Kp]
  have:=sizeLine_eq
  omega
 ·simpa [seqObj] using ec
end
end L2
namespace L3
open PySem PySem.Spec PyProof.Rows L2
variable [Cs]
noncomputable def z8:List PyData->Option (List Int)
 |[]=>some []
 |.int b::r=>(z8 r).map (b::·)
 |_=>none
theorem wy(ns:List Int):z8 (ns.map .int)=some ns:=by
 induction ns with
 |nil=>rfl
 |cons b r ih=>simp[z8,ih]
theorem QR:∀ {ds:List PyData}{ns:List Int},z8 ds=some ns->ds=ns.map .int
 |[],bs,e=>by cases e;rfl
 |.int b::r,bs,e=>by
  unfold z8 at e
  cases q:z8 r with
  |none=>rw[q]at e;cases e
  |some l=>rw[q]at e;cases e;rw[QR q];rfl
 |.none::r,bs,e=>by cases e
 |.bool _::r,bs,e=>by cases e
 |.str _::r,bs,e=>by cases e
 |.list _::r,bs,e=>by cases e
 |.tuple _::r,bs,e=>by cases e
 |.dict _::r,bs,e=>by cases e
noncomputable def zay(fa:EM FV):EM (List PyData):=fun Γ=>(fa Γ).bind fun (u,Γ1)=>match (derL Γ1 u).bind z8 with
 |some ns=>if ns.length<64 then .ok ((Ji ns).map .int,Γ1) else .bad
 |none=>.bad
section
variable {X:Cx}{XP:XPT}{mp:List Nat}{a:Expr}{p pos:Pos}{fa:EM FV}
theorem Km (B:BiK X x (.builtin "sorted")) (ha:SE X XP mp a fa) (hst:starEach [a] X.env= [(false,eval a X.env)]):SN X XP mp (.Call (.Name x p) [a] [] pos) (zay fa):=fun M0 F Γ ν σ H Q rs hs hp=>
 (Za Vg B.gl B.mg B.bt (zo ze pa_nil hst) B.n B.d hst rfl).wp (ha.run rs hs hp fun F1 Γ1 H1 u v rs1 s1 o1 h1=>by
  dsimp only at h1
  split at h1
  ·rename_i ns e
   split at h1
   ·rename_i h64
    cases ed:derL Γ1 u with
    |none=>rw[ed]at e;cases e
    |some ds=>
     rw[ed]at e
     have eds:=QR (by simpa using e:z8 ds=some ns)
     subst eds
     obtain⟨l,vs,rfl,el,r⟩:=o1.list rs1 ed
     have ev:=RepL.intsInv r
     subst ev
     exact⟨l,ns,rfl,SqL.of el,h64,fun p n=>h1 F1 H1 rs1 (.refl _ _) _ p (RepL.ints _) n⟩
   ·exact h1.elim
  ·exact h1.elim)
end
section
end
end L3
namespace Tab
open PySem PySem.SetTable
noncomputable def stp(m i:Nat):Nat:=(i*5+1) % (m+1)
noncomputable def orb(m:Nat):Nat->Nat->List Nat
 |0,_=> []
 |n+1,i=>i::orb m n (stp m i)
noncomputable def Jm(m:Nat):Prop:=∀ i,i<=m->∀ j,j<=m->j∈orb m (m+1) i
noncomputable def it(m:Nat):Nat->Nat->Nat
 |0,i=>i
 |n+1,i=>it m n (stp m i)
theorem vo(m:Nat):∀ a b i,it m (a+b) i=it m b (it m a i)
 |0,b,i=>by rw[uo];rfl
 |a+1,b,i=>by rw[show a+1+b=(a+b)+1 by omega,it,vo m a b,it]
theorem vz(m:Nat):∀ n i t,t<n->it m t i∈orb m n i
 |0,_,_,h=>by omega
 |n+1,i,0,_=>by simp[orb,it]
 |n+1,i,t+1,h=>by rw[orb,it];exact xi _ (vz m n (stp m i) t (by omega))
theorem YO(m:Nat):∀ n i j,j∈orb m n i->∃ t,t<n/\it m t i=j
 |0,_,_,h=>by cases h
 |n+1,i,j,h=>by
  rcases xt.mp h with rfl | h
  ·exact⟨0,by omega,rfl⟩
  ·obtain⟨t,h1,h2⟩:=YO m n _ j h
   exact⟨t+1,by omega,h2⟩
noncomputable def zeM(m:Nat):Bool:=decide (it m (m+1) 0=0)&&(List.range (m+1)).all fun j=>(orb m (m+1) 0).contains j
theorem Qi{m:Nat}(h:zeM m=true):Jm m:=fun i hi j hj=>by
 unfold zeM at h
 rw[xa,decide_eq_true_eq,xA]at h
 obtain⟨hper,hall⟩:=h
 have hc:∀ x,x<=m->∃ t,t<m+1/\it m t 0=x:=fun x hx=>YO m _ _ _ (by simpa using hall x (xL.mpr (by omega)))
 obtain⟨p,hp,ep⟩:=hc i hi
 obtain⟨q,hq,eq⟩:=hc j hj
 by_cases hpq:p<=q
 ·have:it m (q-p) i=j:=by rw[<- ep,<- vo,show p+(q-p)=q by omega,eq]
  rw[<- this];exact vz m _ _ _ (by omega)
 ·have:it m (q+(m+1)-p) i=j:=by rw[<- ep,<- vo,show p+(q+(m+1)-p)=(m+1)+q by omega,vo,hper,eq]
  rw[<- this];exact vz m _ _ _ (by omega)
theorem zhv:Jm 7:=Qi (by decide +kernel)
theorem zfB:Jm 15:=Qi (by decide +kernel)
theorem zfC:Jm 31:=Qi (by decide +kernel)
theorem zfD:Jm 63:=Qi (by decide +kernel)
theorem zc8:Jm 127:=Qi (by decide +kernel)
theorem Ki(m i:Nat):i<=runEnd m i:=by unfold runEnd;split<;>omega
theorem Vu{m:Nat}{owner:Array (Option Nat)}(hs:owner.size=m+1){i k:Nat}(h:(List.range (runEnd m i+1-i)).find? (fun k=>(owner.getD (i+k) (some 0)).isNone)=some k):i+k<=m/\owner.getD (i+k) (some 0)=none:=by
 have h1:=List.find?_some h
 have h2:owner.getD (i+k) (some 0)=none:=by simpa using h1
 refine⟨?_,h2⟩
 by_cases hb:i+k<owner.size
 ·omega
 ·rw[uc,Array.getElem?_eq_none (by omega)]at h2
  cases h2
theorem kI {owner:Array (Option Nat)}{i:Nat}(h:(List.range (runEnd m i+1-i)).find? (fun k=>(owner.getD (i+k) (some 0)).isNone)=none):owner.getD i (some 0)≠none:=by
 have:=List.find?_eq_none.mp h 0 (xL.mpr (by have:=Ki m i;omega))
 intro e
 rw[Nat.add_zero,e]at this
 exact this rfl
theorem WJ{m:Nat}{owner:Array (Option Nat)}(hs:owner.size=m+1):∀ (n fuel i j:Nat),j∈orb m n i->owner.getD j (some 0)=none->n<=fuel->∃ r,layClean.free m owner fuel i 0=some r/\r<=m/\owner.getD r (some 0)=none
 |0,_,_,_,h,_,_=>by cases h
 |n+1,0,_,_,_,_,h=>by omega
 |n+1,fuel+1,i,j,h,hj,hf=>by
  rw[layClean.free]
  split
  ·rename_i k hk
   obtain⟨h1,h2⟩:=Vu hs hk
   exact⟨_,rfl,h1,h2⟩
  ·rename_i hk
   have hne:=kI hk
   rcases xt.mp h with rfl | h
   ·exact absurd hj hne
   ·have e:leap m i 0=(stp m i,0):=by unfold leap stp;simp
    rw[e]
    exact WJ hs n fuel (stp m i) j h hj (by omega)
theorem WI{m:Nat}(hfull:Jm m){owner:Array (Option Nat)}(hs:owner.size=m+1){j:Nat}(hj:j<=m)(ho:owner.getD j (some 0)=none):∀ (k fuel i p:Nat),p<32 ^ k->i<=m->k+(m+1)<=fuel->∃ r,layClean.free m owner fuel i p=some r/\r<=m/\owner.getD r (some 0)=none
 |0,fuel,i,p,hp,hi,hf=>by
  have:p=0:=by simpa using hp
  subst this
  exact WJ hs (m+1) fuel i j (hfull i hi j hj) ho (by omega)
 |k+1,0,i,p,hp,hi,hf=>by omega
 |k+1,fuel+1,i,p,hp,hi,hf=>by
  rw[layClean.free]
  split
  ·rename_i q hk
   obtain⟨h1,h2⟩:=Vu hs hk
   exact⟨_,rfl,h1,h2⟩
  ·have e:leap m i p=((i*5+1+p / 32) % (m+1),p / 32):=rfl
   rw[e]
   refine WI hfull hs hj ho k fuel _ _ ?_ ?_ (by omega)
   ·rw[Nat.pow_succ]at hp
    exact Nat.div_lt_of_lt_mul (by rw[Nat.mul_comm];exact hp)
   ·have:=Nat.mod_lt (i*5+1+p / 32) (Nat.succ_pos m)
    exact Nat.le_of_lt_succ this
theorem zcL(h:Int):bits h<32 ^ 13:=by
 unfold bits
 have h1:=uB h (by decide:(0:Int)<2 ^ 64)
 have h2:=uK h (by decide:(2 ^ 64:Int)≠0)
 have:((h % 2 ^ 64).toNat:Int)<2 ^ 64:=by omega
 have h3:(h % 2 ^ 64).toNat<2 ^ 64:=by exact_mod_cast this
 exact xv h3 (by decide)
noncomputable def live(m:Nat)(owner:Array (Option Nat)):List Nat:=(List.range (m+1)).filterMap fun j=>owner.getD j none
theorem jr :∀ {l:List Nat},(∀ x∈l,f x=g x)->l.filterMap f=l.filterMap g
 |[],_=>rfl
 |x::l,h=>by
  rw[xD,xD,h x (by simp),jr fun y hy=>h y (by simp[hy])]
theorem VT {j k:Nat}(hj:f j=none)(hg:g j=some k)(he:∀ x,x≠j->g x=f x):∀ {l:List Nat},l.Nodup->j∈l->(l.filterMap g).Perm (k::l.filterMap f)
 |[],_,h=>by cases h
 |x::l,nd,h=>by
  obtain⟨hx,nd⟩:=xG.mp nd
  rcases xt.mp h with rfl | h
  ·rw[xD,xD,hg,hj]
   dsimp only
   rw[jr fun y hy=>he y fun e=>hx (e ▸ hy)]
  ·have hne:x≠j:=fun e=>hx (e ▸ h)
   have ih:=VT hj hg he nd h
   rw[xD,xD,he x hne]
   cases f x with
   |none=>exact ih
   |some y=>exact (ih.cons y).trans (.swap k y _)
theorem kQ{m n:Nat}{owner:Array (Option Nat)}(hl:(live m owner).length=n)(hn:n<=m):∃ j,j<=m/\owner.getD j none=none:=by
 refine Classical.byContradiction fun hno=>?_
 have hall:∀ j∈List.range (m+1),(owner.getD j none).isSome=true:=fun j hj=>by
  have hj':j<=m:=by have:=xL.mp hj;omega
  cases e:owner.getD j none with
  |none=>exact absurd ⟨j,hj',e⟩ hno
  |some _=>rfl
 have:(live m owner).length=m+1:=by
  have h1:∀ {l:List Nat},(∀ j∈l,(owner.getD j none).isSome=true)->(l.filterMap fun j=>owner.getD j none).length=l.length:=by
   intro l
   induction l with
   |nil=>intro _;rfl
   |cons x l ih=>
    intro h
    obtain⟨y,ey⟩:=Option.isSome_iff_exists.mp (h x (by simp))
    rw[xD,ey]
    dsimp only
    rw[xn,xn,ih fun j hj=>h j (xi _ hj)]
  unfold live
  rw[h1 hall,xS]
 omega
theorem YG{m j:Nat}{owner:Array (Option Nat)}(hs:owner.size=m+1)(hj:j<=m)(d:Option Nat):owner.getD j d=owner.getD j none:=by
 rw[uc,uc,Array.getElem?_eq_getElem (by omega)];rfl
theorem zaY{m:Nat}(hfull:Jm m):∀ (hs:List Int) (owner:Array (Option Nat)) (k:Nat),owner.size=m+1->(live m owner).Perm (List.range k)->k+hs.length<=m+1 ->
  ∃ owner',(hs.foldl (init:=some (owner,k)) fun acc h=>do
   let (owner,k)<-acc
   let j<-layClean.free m owner (turns m) (bits h % (m+1)) (bits h)
   pure (owner.setIfInBounds j (some k),k+1))=some (owner',k+hs.length)/\owner'.size=m+1/\(live m owner').Perm (List.range (k+hs.length))
 |[],owner,k,h1,h2,_=>⟨owner,rfl,h1,h2⟩
 |h::hs,owner,k,h1,h2,h3=>by
  rw[xn]at h3
  obtain⟨j0,hj0,ej0⟩:=kQ (n:=k) (by rw[h2.length_eq,xS]) (by omega)
  obtain⟨j,ej,hj,oj⟩:=WI hfull h1 hj0 (by rw[YG h1 hj0];exact ej0) 13 (turns m) (bits h % (m+1)) (bits h) (zcL h) (Nat.le_of_lt_succ (Nat.mod_lt _ (Nat.succ_pos m))) (by unfold turns;omega)
  have hjs:j<owner.size:=by omega
  have oj':owner.getD j none=none:=by rw[<- YG h1 hj (some 0)];exact oj
  have hp:(live m (owner.setIfInBounds j (some k))).Perm (k::live m owner):=by
   refine VT (f:=fun x=>owner.getD x none) (g:=fun x=>(owner.setIfInBounds j (some k)).getD x none) oj' ?_ (fun x hx=>?_) List.nodup_range (xL.mpr (by omega))
   ·simp[uc,Array.getElem?_setIfInBounds,hjs]
   ·simp[uc,Array.getElem?_setIfInBounds,Ne.symm hx]
  have hp2:(live m (owner.setIfInBounds j (some k))).Perm (List.range (k+1)):=by
   rw[xZ]
   exact hp.trans ((h2.cons k).trans (List.perm_append_singleton k _).symm)
  obtain⟨owner',e1,e2,e3⟩:=zaY hfull hs (owner.setIfInBounds j (some k)) (k+1) (by rw[Array.size_setIfInBounds];exact h1) hp2 (by omega)
  refine⟨owner',?_,e2,?_⟩
  ·rw[uC]
   rw[xn,show k+(hs.length+1)=k+1+hs.length by omega,<- e1]
   congr 1
   show (do let j<-layClean.free m owner (turns m) (bits h % (m+1)) (bits h);pure (owner.setIfInBounds j (some k),k+1):Option _)=_
   rw[ej];rfl
  ·rw[xn,show k+(hs.length+1)=k+1+hs.length by omega];exact e3
theorem za3(m:Nat):live m (Array.replicate (m+1) none)= []:=by
 unfold live
 rw[List.filterMap_eq_nil_iff]
 intro x _
 rw[uc,Array.getElem?_replicate]
 split<;>rfl
theorem VB{m:Nat}(hfull:Jm m)(hashes:Array Int)(hn:hashes.size<=m+1):∃ owner,layClean m hashes=some owner/\owner.size=m+1/\(live m owner).Perm (List.range hashes.size):=by
 obtain⟨owner,e1,e2,e3⟩:=zaY hfull hashes.toList (Array.replicate (m+1) none) 0 (by simp) (by rw[za3];exact .refl _) (by simpa using hn)
 refine⟨owner,?_,e2,by simpa using e3⟩
 unfold layClean
 rw[<- Array.foldl_toList,e1];rfl
theorem YL{m finger moves:Nat}{led plain:Bool}(hfull:Jm m)(hashes:Array Int)(hn:hashes.size<=m) :
  ∃ t order,laid m finger moves led plain hashes=some (t,order)/\order.toList.Perm (List.range hashes.size)/\t.place.size=hashes.size/\t.dummies=#[]/\t.mask=m/\t.led=led/\t.plain=plain:=by
 obtain⟨owner,e1,e2,e3⟩:=VB hfull hashes (by omega)
 have hl:(((List.range (m+1)).filterMap fun j=>(owner.getD j none).map (j,·)).map (·.2))=live m owner:=by
  unfold live
  rw[List.map_filterMap]
  congr 1
  funext j
  cases owner.getD j none<;>rfl
 unfold laid
 rw[e1]
 refine⟨_,_,rfl,?_,?_,rfl,rfl,rfl,rfl⟩
 ·simp only[List.toList_toArray]
  rw[hl];exact e3
 ·have:=e3.length_eq
  rw[<- hl,xo,xS]at this
  show (List.map _ _).toArray.size=_
  rw[xu,xo];exact this
theorem ZM{α:Type}:∀ {l:List α}{n:Nat}(h:n<l.length),(l[n]::l.eraseIdx n).Perm l
 |x::l,0,_=>.refl _
 |x::l,n+1,h=>((List.Perm.swap x (l[n]'(by simpa using h)) _)).trans ((ZM (l:=l) (n:=n) (by simpa using h)).cons x)
theorem YR{α:Type}(next:Nat->Nat):∀ (fuel k:Nat) (left:List α) (out:Array α),left.length<=fuel->(pickOrder.go next fuel k left out).toList.Perm (out.toList++left)
 |0,k,left,out,h=>by
  have:left= []:=uP.mp (by omega)
  subst this
  rw[pickOrder.go,xX]
 |fuel+1,k,left,out,h=>by
  rw[pickOrder.go]
  cases left with
  |nil=>simp
  |cons x l=>
   have hlt:next k % (x::l).length<(x::l).length:=Nat.mod_lt _ (by simp)
   rw[xg hlt]
   dsimp only
   refine (YR next fuel (k+1) _ _ ?_).trans ?_
   ·rw[List.length_eraseIdx_of_lt hlt];omega
   ·rw[Array.toList_push,xR]
    exact List.Perm.append_left _ (ZM hlt)
theorem k9{α:Type}(next:Nat->Nat)(xs:Array α):(pickOrder next xs).toList.Perm xs.toList:=by
 have:=YR next xs.size 0 xs.toList #[] (by simp)
 simpa [pickOrder] using this
section
variable {prog:Program}{w:World}{A:Around}{E:Value->Shared->Prop}{s:Shared}
theorem zhH{es:Array (Int×Value)}(h:ElemsOf (intKind prog w) es.toList):∀ e∈es.toList,∃ n t,e.2=.int n t:=fun e he=>by
 obtain⟨⟨k,hk,_⟩,_⟩:=h e he
 obtain⟨t,ht⟩:=Value.isInt_shape hk
 exact⟨k,t,ht⟩
theorem VN {Q:Bool->Shared->Prop}(h:∀ b∈l,∃ S n,s.heap.SetOf (intKind prog w) b S n)(hQ:Q true s):wpAny (model prog w) A (setsQuiet l) Q E s:=by
 unfold setsQuiet
 refine wpAny_bind ?_
 refine wpAny_forIn_list _ (fun rest b s'=>b=(none,())/\s'=s/\∀ x∈rest,∃ S n,s.heap.SetOf (intKind prog w) x S n) _ ?_ ?_ l _ ⟨rfl,rfl,h⟩
 ·rintro a rest b s' ⟨rfl,rfl,hh⟩
  obtain⟨S,n,o,es,ep,t,ho,hex,hd,hel,hmem,hb,hf,hn⟩:=hh a xw
  refine wpAny_bind (wpAny_setEntries_of ho hd hf ?_)
  refine wpAny_bind (wpAny_forIn_array' _ (fun (rest:List (Int×Value)) b s''=>b=(none,())/\s''=s'/\∀ e∈rest,∃ n t,e.2=.int n t) _ ?_ ?_ es _ ⟨rfl,rfl,zhH hel⟩)
  ·rintro⟨hh2,x⟩ rest b s'' ⟨rfl,rfl,hi⟩
   obtain⟨n,t,e⟩:=hi _ xw
   dsimp only at e
   subst e
   exact wpAny_pure ⟨rfl,rfl,fun e he=>hi e (xi _ he)⟩
  ·rintro b s'' ⟨rfl,rfl,_⟩
   exact wpAny_pure ⟨rfl,rfl,fun x hx=>hh x (xi _ hx)⟩
 ·rintro b s' ⟨rfl,rfl,_⟩
  exact wpAny_pure hQ
theorem wU {o:Obj}{es:Array (Int×Value)}{t:SetTable}(ho:s.heap.get? a=some o)(hd:o.data=.set es ep t)(hf:t.fits es.size=true)
  (hc:(w.params.followText "set-order" ||(t.led&&t.plain)||decide (es.size<=1))=true) (hq:∀ es',es'.toList.Perm es.toList->Q' es' s):wpAny (model prog w) A (setWalk a) Q' E s:=by
 unfold setWalk setsByText
 refine wpAny_bind (wpAny_setState_of ho hd hf ?_)
 refine wpAny_bind (wpAny_bind (wpAny_askSetting (wpAny_pure ?_)))
 show wpAny _ _ (if w.params.followText "set-order" =true then _ else _) _ _ _
 by_cases hT:w.params.followText "set-order" =true
 ·rw[if_pos hT]
  exact wpAny_bind (wpAny_askSetting (wpAny_pure (hq _ (k9 _ _))))
 ·rw[if_neg hT]
  have hT':w.params.followText "set-order" =false:=by simpa using hT
  rw[hT',Bool.false_or,xO,xa,decide_eq_true_eq]at hc
  split
  ·rename_i hdr
   exfalso
   change (!t.plain&&decide (es.size>1))=true at hdr
   rw[xa,decide_eq_true_eq]at hdr
   rcases hc with ⟨_,hp⟩ | hz
   ·rw[hp]at hdr;exact absurd hdr.1 (by decide)
   ·omega
  ·show wpAny _ _ ((if (!t.led&&decide (es.size>1))=true then unsupported "set:maker-not-led" else pure PUnit.unit) >>= fun _=>pure es) _ _ _
   rw[if_neg]
   ·exact wpAny_bind (wpAny_pure (wpAny_pure (hq es (.refl _))))
   ·intro z
    rw[xa,decide_eq_true_eq]at z
    rcases hc with ⟨hl,_⟩ | hz
    ·rw[hl]at z;exact absurd z.1 (by decide)
    ·omega
theorem walk_of{a:Addr}{o:Obj}{es:Array (Int×Value)}{ep:Nat}{t:SetTable}{others:List Addr}{Q:Array (Int×Value)->Shared->Prop}(ho:s.heap.get? a=some o)(hd:o.data=.set es ep t)(hf:t.fits es.size=true)
  (hl:∀ b∈a::others,∃ S n,s.heap.SetOf (intKind prog w) b S n) (h:∀ es',es'.toList.Perm es.toList->Q es' s):wpAny (model prog w) A (setWalkUnseen a others none) Q E s:=by
 unfold setWalkUnseen setsByText
 refine wpAny_bind (wpAny_setState_of ho hd hf ?_)
 dsimp only
 refine wpAny_bind (wpAny_bind (wpAny_askSetting (wpAny_pure ?_)))
 show wpAny _ _ (if (w.params.followText "set-order" ||t.led&&t.plain||decide (es.size<=1))=true then _ else _) _ _ _
 split
 ·rename_i hc
  exact wU ho hd hf hc h
 ·refine wpAny_bind (VN hl ?_)
  simp only[uV,xT,if_false]
  exact wpAny_bind (wpAny_rule (wpAny_pure (h es (.refl _))))
theorem zcu {o:Obj}{es:Array (Int×Value)}{t:SetTable}{n:Nat}{Q:Array (Int×Value)->Shared->Prop}(ho:s.heap.get? a=some o)(hd:o.data=.set es ep t)(hf:t.fits es.size=true)
  (hl:∀ b∈a::others,∃ S n,s.heap.SetOf (intKind prog w) b S n) (hr:s.heap.SetOf (intKind prog w) r S n) (h:∀ es' h',es'.toList.Perm es.toList->Heap.SameBut r s.heap h'->h'.SetOf (intKind prog w) r S n->Q es' { s with heap:=h' }):wpAny (model prog w) A (setWalkUnseen a others (some r)) Q E s:=by
 have hsame:s={ s with heap:=s.heap }:=by cases s;rfl
 have h0:∀ es',es'.toList.Perm es.toList->Q es' s:=fun es' hp=>by
  rw[hsame];exact h es' s.heap hp (Heap.SameBut.refl r s.heap) hr
 unfold setWalkUnseen setsByText
 refine wpAny_bind (wpAny_setState_of ho hd hf ?_)
 dsimp only
 refine wpAny_bind (wpAny_bind (wpAny_askSetting (wpAny_pure ?_)))
 show wpAny _ _ (if (w.params.followText "set-order" ||t.led&&t.plain||decide (es.size<=1))=true then _ else _) _ _ _
 split
 ·rename_i hc
  exact wU ho hd hf hc h0
 ·refine wpAny_bind (VN hl ?_)
  simp only[uV,xT,if_false]
  refine wpAny_bind (wpAny_rule ?_)
  obtain⟨o',es',ep',t',ho',hex',hd',hel',hmem',hb',hf',hn'⟩:=hr
  refine wpAny_bind (wpAny_setState_of ho' hd' hf' ?_)
  dsimp only
  split
  ·have hf2:({ t' with led:=t'.led&&t.led,plain:=t'.plain&&t.plain }:SetTable).fits es'.size=true:=by
    unfold SetTable.fits SetTable.fill at hf' |-;exact hf'
   obtain⟨hg,hS⟩:=SetOf_store (knd:=intKind prog w) ho' hex' hd' hel' hmem' hb' hf2
   refine wpAny_bind (wpAny_storeSet_of ho' hd' ?_ ?_)
   ·exact wpAny_pure (h es _ (.refl _) (Heap.SameBut.update _ r _) (by rw[<- hn'];exact hS))
   ·exact fits_of_scanBound hb'
  ·exact wpAny_pure (h0 es (.refl _))
inductive Keys(prog:Program)(w:World):List (Int×Value)->List Int->Prop
 |nil:Keys prog w [] []
 |cons {k:Int} {t:Tok} {es ks}:Keys prog w es ks->Keys prog w (((intKind prog w).hash k,.int k t)::es) (k::ks)
theorem Jz:∀ {es:List (Int×Value)},ElemsOf (intKind prog w) es->∃ ks,Keys prog w es ks
 |[],_=>⟨[],.nil⟩
 | (hh,x)::es,h=>by
  obtain⟨⟨k,hk,e1⟩,_⟩:=h.head
  obtain⟨t,e2⟩:=Value.isInt_shape hk
  obtain⟨ks,hks⟩:=Jz h.tail
  dsimp only at e1 e2
  subst e1 e2
  exact⟨k::ks,.cons hks⟩
theorem Keys.mem {ks:List Int}(h:Keys prog w es ks)(k:Int):(∃ e∈es,(intKind prog w).is k e.2=true)↔k∈ks:=by
 induction h with
 |nil=>simp
 | @cons k' t es ks _ ih=>
  constructor
  ·rintro⟨e,he,hk⟩
   rcases xt.mp he with rfl | he
   ·have hk2:Value.isInt k (.int k' t)=true:=hk
    obtain⟨t2,e2⟩:=Value.isInt_shape hk2
    injection e2 with e3
    rw[<- e3];exact xw
   ·exact xi _ (ih.mp ⟨e,he,hk⟩)
  ·intro hk
   rcases xt.mp hk with rfl | hk
   ·exact⟨_,xw,intKind_is _ _ _ _⟩
   ·obtain⟨e,he,h2⟩:=ih.mpr hk
    exact⟨e,xi _ he,h2⟩
theorem Keys.length{es:List (Int×Value)}{ks:List Int}(h:Keys prog w es ks):es.length=ks.length:=by
 induction h with
 |nil=>rfl
 |cons _ ih=>simp[ih]
theorem Keys.perm{es es':List (Int×Value)}(p:es'.Perm es):∀ {ks},Keys prog w es ks->∃ ks',Keys prog w es' ks'/\ks'.Perm ks:=by
 induction p with
 |nil=>intro ks h;exact⟨ks,h,.refl _⟩
 | @cons x l1 l2 _ ih=>
  intro ks h
  cases h with
  |cons h=>
   obtain⟨ks',h1,h2⟩:=ih h
   exact⟨_,.cons h1,h2.cons _⟩
 |swap x y l=>
  intro ks h
  cases h with
  |cons h=>
   cases h with
   |cons h=>exact⟨_,.cons (.cons h),.swap _ _ _⟩
 |trans _ _ ih1 ih2=>
  intro ks h
  obtain⟨k2,h2,p2⟩:=ih2 h
  obtain⟨k1,h1,p1⟩:=ih1 h2
  exact⟨k1,h1,p1.trans p2⟩
theorem perm_of_sub:∀ {fm ks:List Int},fm.Nodup->(∀ x∈fm,x∈ks)->ks.length<=fm.length->ks.Perm fm
 |[],ks,_,_,h=>by
  have:ks= []:=uP.mp (by simpa using h)
  subst this;exact .refl _
 |x::fm,ks,nd,hs,hl=>by
  obtain⟨hx,nd⟩:=xG.mp nd
  have hm:=hs x (by simp)
  have p:=List.perm_cons_erase hm
  refine p.trans (List.Perm.cons x (perm_of_sub nd (fun y hy=>?_) ?_))
  ·exact (List.mem_erase_of_ne (fun e:y=x=>hx (e ▸ hy))).mpr (hs y (by simp[hy]))
  ·have:=p.length_eq
   simp at this hl
   omega
noncomputable def dedup(ks:List Int):List Int:=ks.foldl PyProof.Rows.step_dedup []
theorem yw(ks:List Int)(k:Int):dedup (ks++ [k])=PyProof.Rows.step_dedup (dedup ks) k:=by
 unfold dedup;rw[List.foldl_append];rfl
theorem any_dedup(ks:List Int):∀ k,(dedup ks).any (·==k)=true↔k∈ks:=by
 suffices H:∀ (l acc:List Int) k,(l.foldl PyProof.Rows.step_dedup acc).any (·==k)=true↔(acc.any (·==k)=true∨k∈l) by
  intro k
  have:=H ks [] k
  simpa [dedup] using this
 intro l
 induction l with
 |nil=>intro acc k;simp
 |cons x l ih=>
  intro acc k
  rw[uC,ih,PyProof.Rows.step_any,xO,decide_eq_true_eq,xt,or_assoc]
theorem nodup_dedup(ks:List Int):(dedup ks).Nodup:=by
 suffices H:∀ (l acc:List Int),acc.Nodup->(l.foldl PyProof.Rows.step_dedup acc).Nodup from H ks [] .nil
 intro l
 induction l with
 |nil=>intro acc h;exact h
 |cons x l ih=>
  intro acc h
  rw[uC]
  refine ih _ ?_
  unfold PyProof.Rows.step_dedup
  split
  ·exact h
  ·rename_i hx
   rw[uq]
   refine⟨h,by simp,fun a ha b hb=>?_⟩
   have:b=x:=by simpa using hb
   subst this
   intro e
   subst e
   exact hx (by simp;exact ha)
theorem jb {h:Heap}(hS:s.heap.SetOf (intKind prog w) a S n):s.TypeIs (.ref a) "set" :=by
 obtain⟨o,es,ep,t,ho,hex,_⟩:=hS
 exact⟨o,ho,hex.1⟩
theorem jg {Q:Bool->Shared->Prop}(hS:s.heap.SetOf (intKind prog w) a S n)(h:Q true s):wpAny (model prog w) A (Builtin.Frozenset.isAnySet (.ref a)) Q E s:=by
 unfold Builtin.Frozenset.isAnySet
 simp only[orM]
 refine wpAny_bind (wpAny_isInstance (jb (h:=s.heap) hS) sub_set_self ?_)
 exact wpAny_pure h
theorem Wr {Q:Value->Shared->Prop}(hS:s.heap.SetOf (intKind prog w) a S n) (h:Q (.type "set") s):wpAny (model prog w) A (Builtin.Frozenset.baseOf a) Q E s:=by
 unfold Builtin.Frozenset.baseOf
 exact wpAny_bind (wpAny_isInstance (jb (h:=s.heap) hS) sub_set_self (wpAny_pure h))
theorem Zp {Q:Nat->Shared->Prop}(hS:s.heap.SetOf (intKind prog w) a S n)(h:Q n s):wpAny (model prog w) A (Builtin.Frozenset.sizeOf a) Q E s:=by
 obtain⟨o,es,ep,t,ho,hex,hd,hel,hmem,hb,hf,hn⟩:=hS
 unfold Builtin.Frozenset.sizeOf
 exact wpAny_bind (wpAny_setEntries_of ho hd hf (wpAny_pure (by rw[hn];exact h)))
theorem yc{h h':Heap}(hS:h.SetOf (intKind prog w) a S n)(e:Heap.SameBut r h h')(hne:a≠r):h'.SetOf (intKind prog w) a S n:=by
 obtain⟨o,es,ep,t,ho,rest⟩:=hS
 exact⟨o,es,ep,t,by rw[e.2 a hne];exact ho,rest⟩
theorem zhq {na no:Nat}{Q:Value->Shared->Prop}(ha:s.heap.SetOf (intKind prog w) a Sa na)(ho:s.heap.SetOf (intKind prog w) o So no)(hna:na+1<scanBound)
  (hr:s.heap.SetOf (intKind prog w) r (fun _=>false) 0) (har:a≠r) (hor:o≠r)
  (h:∀ s' T n,Heap.SameBut r s.heap s'.heap->s'.heap.SetOf (intKind prog w) r T n->(∀ k,T k=(Sa k&& !So k))->(∃ L:List Int,L.Nodup/\L.length=n/\∀ k,T k=true↔k∈L)->s'.gens=s.gens/\s'.os=s.os/\s'.drawn=s.drawn->Q (.ref r) s') :
  wpAny (model prog w) A (do
     let was<-setEpoch a
     holding [.ref r] do
       let __do_lift<-setWalkUnseen a [o,r] (some r)
       forIn __do_lift PUnit.unit fun x __s=>do
         holding [x.snd] do
           let __do_lift<-setFind o x.snd x.fst
           let there<-pure __do_lift.isSome
           if (!there)=true then do
             let _<-setAddHashed r x.snd x.fst
             pure ()
            else pure ()
         Builtin.Frozenset.unchanged nm a was
         pure (ForInStep.yield PUnit.unit)
       pure ()
     pure (.ref r)) Q E s:=by
 have ha0:=ha
 obtain⟨oa,ea,epa,ta,hoa,hexa,hda,hela,hmema,hba,hfa,hna'⟩:=ha
 refine wpAny_bind (wpAny_setEpoch_of hoa hda hfa ?_)
 refine wpAny_bind (wpAny_holding ?_)
 refine wpAny_bind (zcu hoa hda hfa (fun b hb=>?_) hr fun es' h' hp hsb hr'=>?_)
 ·have:b=a∨b=o∨b=r:=by simpa using hb
  rcases this with rfl | rfl | rfl
  ·exact⟨_,_,ha0⟩
  ·exact⟨_,_,ho⟩
  ·exact⟨_,_,hr⟩
 ·obtain⟨ks0,hk0⟩:=Jz hela
  obtain⟨ks,hks,hpk⟩:=hk0.perm hp
  have hlen:ks.length=na:=by rw[hpk.length_eq,<- hk0.length,<- hna'];simp
  refine wpAny_bind (wpAny_forIn_array' _ (fun (rest:List (Int×Value)) _ s'=>∃ done left,ks=done++left/\Keys prog w rest left/\Heap.SameBut r s.heap s'.heap /\
   s'.heap.SetOf (intKind prog w) r (fun k=>(dedup (done.filter fun k=> !So k)).any (·==k)) (dedup (done.filter fun k=> !So k)).length/\s'.gens=s.gens/\s'.os=s.os/\s'.drawn=s.drawn) _ ?_ ?_ es' _ ⟨[],ks,rfl,hks,hsb,hr',rfl,rfl,rfl⟩)
  ·rintro⟨hh,x⟩ rest u s' ⟨done,left,e1,hk,hs1,hS,g1,g2,g3⟩
   cases hk with
   | @cons k t _ left hk=>
    have hoo:=yc ho hs1 hor
    refine wpAny_bind (wpAny_holding ?_)
    refine wpAny_bind (wpAny_setFind_of (knd:=intKind prog w) (intKind_is _ _ _ _) rfl hoo fun rr hrr=>?_)
    have e2:ks=(done++ [k])++left:=by rw[e1];simp
    have still:∀ (s'':Shared) {Q':PUnit->Shared->Prop},Heap.SameBut r s.heap s''.heap->Q' ⟨⟩ s''->wpAny (model prog w) A (Builtin.Frozenset.unchanged nm a epa) Q' E s'':=fun s'' Q' q1 q2=>by
     unfold Builtin.Frozenset.unchanged
     refine wpAny_bind (wpAny_setEpoch_of (by rw[q1.2 a har];exact hoa) hda hfa ?_)
     simp only[bne_self_eq_false,xT,if_false]
     exact wpAny_pure q2
    refine wpAny_bind (wpAny_pure ?_)
    rw[hrr]
    cases hSo:So k with
    |true=>
     simp only[uV,xT,if_false]
     refine wpAny_pure (wpAny_bind (still s' hs1 (wpAny_pure ⟨done++ [k],left,e2,hk,hs1,?_,g1,g2,g3⟩)))
     have ef:(done++ [k]).filter (fun k=> !So k)=done.filter fun k=> !So k:=by rw[xW];simp[hSo]
     rw[ef];exact hS
    |false=>
     simp only[Bool.not_false,if_true]
     have hdl:(dedup (done.filter fun k=> !So k)).length<=done.length:=by
      have h1:∀ (l acc:List Int),(l.foldl PyProof.Rows.step_dedup acc).length<=acc.length+l.length:=by
       intro l
       induction l with
       |nil=>intro acc;simp
       |cons x l ih=>
        intro acc
        rw[uC]
        refine xH (ih _) ?_
        rw[PyProof.Rows.step_length,xn]
        split<;>omega
      have h2:=h1 (done.filter fun k=> !So k) []
      have h3:=ua (fun k=> !So k) done
      simp only[ui,uo]at h2
      exact xH h2 h3
     have hks3:done.length+1<=na:=by rw[<- hlen,e2];simp
     refine wpAny_bind (wpAny_setAddHashed_of (knd:=intKind prog w) (intKind_is _ _ _ _) rfl hS (by omega) fun h2 hsb2 hS2=>?_)
     have q1:Heap.SameBut r s.heap h2:=hs1.trans hsb2
     refine wpAny_pure (wpAny_bind (still _ q1 (wpAny_pure ⟨done++ [k],left,e2,hk,q1,?_,g1,g2,g3⟩)))
     have ef:(done++ [k]).filter (fun k=> !So k)=(done.filter fun k=> !So k)++ [k]:=by rw[xW];simp[hSo]
     rw[ef,yw]
     exact PyProof.Rows.SetOf_congr hS2 (fun k'=>by rw[PyProof.Rows.step_any]) (by rw[PyProof.Rows.step_length])
  ·rintro u s' ⟨done,left,e1,hk,hs1,hS,g1,g2,g3⟩
   cases hk
   rw[xX]at e1
   subst e1
   refine wpAny_pure (wpAny_pure (h s' _ _ hs1 hS (fun k=>?_) ?_ ⟨g1,g2,g3⟩))
   ·have h1:=any_dedup (ks.filter fun k=> !So k) k
    have h2:k∈ks↔Sa k=true:=by
     rw[hpk.mem_iff,<- hk0.mem k]
     exact (hmema k).symm
    rw[xE,h2]at h1
    exact uj.mpr (h1.trans (by rw[xa]))
   ·refine⟨dedup (ks.filter fun k=> !So k),nodup_dedup _,rfl,fun k=>?_⟩
    rw[any_dedup,<- any_dedup]
    simp
end
section
variable {prog:Program}{w:World}{A:Around}{E:Value->Shared->Prop}{s:Shared}
theorem WQ{α:Type}:∀ (l:List α),(List.range l.length).filterMap (fun i=>l[i]?)=l
 |[]=>rfl
 |x::l=>by
  rw[xn,List.range_succ_eq_map,xD,List.filterMap_map]
  show x::_=_
  congr 1
  exact WQ l
theorem yM{α:Type}{es:Array α}{order:Array Nat}(h:order.toList.Perm (List.range es.size)):(order.filterMap (es[·]?)).toList.Perm es.toList:=by
 rw[Array.toList_filterMap]
 refine (h.filterMap _).trans ?_
 have:=WQ es.toList
 simp only[Array.length_toList,Array.getElem?_toList]at this
 rw[this]
noncomputable def zbD(n:Nat):Bool:=decide (n<5)||((sizeAbove (n*2)==16||sizeAbove (n*2)==32||sizeAbove (n*2)==64||sizeAbove (n*2)==128)&&decide (n<sizeAbove (n*2)))
theorem zbE:(List.range 61).all zbD=true:=by decide +kernel
theorem zdI{n:Nat}(h5:5<=n)(hn:n<=60):Jm (sizeAbove (n*2)-1)/\n<=sizeAbove (n*2)-1/\sizeAbove (n*2)<=128:=by
 have h:=xA.mp zbE n (xL.mpr (by omega))
 unfold zbD at h
 simp only[xO,xa,decide_eq_true_eq,beq_iff_eq]at h
 rcases h with h | ⟨h,h2⟩
 ·omega
 ·rcases h with ((h | h) | h) | h
  ·rw[h]at h2 |-;exact⟨zfB,by omega,by omega⟩
  ·rw[h]at h2 |-;exact⟨zfC,by omega,by omega⟩
  ·rw[h]at h2 |-;exact⟨zfD,by omega,by omega⟩
  ·rw[h]at h2 |-;exact⟨zc8,by omega,by omega⟩
structure Yh(h:Heap)(r:Addr)(o:Obj)(ep:Nat)(t:SetTable):Prop where
 get:h.get? r=some o
 ex:o.ExactSet
 dt:o.data=.set #[] ep t
 pl:t.place=#[]
 dm:t.dummies=#[]
theorem yU {t:SetTable}{n:Nat}{Q:Unit->Shared->Prop}(e:Yh s.heap r o ep t)(hm:t.mask=7)(h4:4<=n)(hn:n<=60)
  (h:∀ h' o' ep' t',Heap.SameBut r s.heap h'->Yh h' r o' ep' t'->Jm t'.mask->n<=t'.mask->Q () { s with heap:=h' }):wpAny (model prog w) A (setRoomFor r n) Q E s:=by
 have hf:t.fits 0=true:=by unfold SetTable.fits SetTable.fill;rw[e.pl,e.dm];simp
 have hsame:s={ s with heap:=s.heap }:=by cases s;rfl
 unfold setRoomFor
 refine wpAny_bind (wpAny_setState_of e.get e.dt hf ?_)
 dsimp only
 have hfill:t.fill=0:=by unfold SetTable.fill;rw[e.pl,e.dm];rfl
 unfold SetTable.roomFor
 rw[hfill,hm,e.pl]
 by_cases h5:5<=n
 ·rw[if_pos (by omega)]
  obtain⟨r1,r2,r3⟩:=zdI h5 hn
  dsimp only
  unfold setRelay
  refine wpAny_bind (wpAny_setState_of e.get e.dt hf ?_)
  dsimp only
  have hz0:(#[]:Array Nat).size+n=n:=by simp
  rw[hz0,if_neg (by have:sizeLine=16777216:=rfl;omega)]
  obtain⟨t',order,el,hp,hps,hdm,hmk,_,_⟩:=YL (finger:=t.finger) (moves:=t.movedTo (sizeAbove (n*2)-1)) (led:=t.led) (plain:=t.plain) r1 (Array.map (fun x:Int×Value=>x.fst) #[]) (by simp)
  have el':t.relaid (Array.map (fun x:Int×Value=>x.fst) #[]) (n*2)=some (t',order):=el
  rw[el']
  have ho:order=#[]:=by
   have:=hp.length_eq
   simp at this
   exact this
  subst ho
  have hpl:t'.place=#[]:=by simpa using hps
  refine wpAny_bind (m:=_) ?_
  show wpAny _ _ (pure ((#[]:Array (Int×Value)),t')) _ _ _
  refine wpAny_pure ?_
  have hf':t'.fits 0=true:=by unfold SetTable.fits SetTable.fill;rw[hpl,hdm];simp
  have hg:(s.heap.update r (Obj.putSet #[] t')).get? r=some { o with data:=.set #[] (ep+1) t' }:=by
   have:=Heap.get?_update_self (Obj.putSet #[] t') e.get (by rw[putSet_of #[] t' e.dt];rfl)
   rw[putSet_of #[] t' e.dt]at this;exact this
  refine wpAny_storeSet_of e.get e.dt (h _ _ (ep+1) t' (Heap.SameBut.update _ r _) ⟨hg,e.ex,rfl,hpl,hdm⟩ (by rw[hmk];exact r1) (by rw[hmk];exact r2)) (by simp)
 ·rw[if_neg (by omega)]
  refine wpAny_pure ?_
  rw[hsame]
  exact h s.heap o ep t (Heap.SameBut.refl _ _) e (by rw[hm];exact zhv) (by omega)
theorem za8 {t:SetTable}{oa:Obj}{ea:Array (Int×Value)}{ta:SetTable}{Q:Unit->Shared->Prop}(har:a≠r)(e:Yh s.heap r o ep t)(hm:t.mask=7)
    (hoa:s.heap.get? a=some oa) (hda:oa.data=.set ea epa ta) (hfa:ta.fits ea.size=true) (h4:4<=ea.size) (hn:ea.size<=60)
    (h:∀ h' o' es' ep' t',Heap.SameBut r s.heap h'->h'.get? r=some o'->o'.ExactSet->o'.data=.set es' ep' t'->es'.toList.Perm ea.toList->t'.fits es'.size=true->t'.dummies=#[]->ea.size<=t'.mask->Q () { s with heap:=h' }):wpAny (model prog w) A (setMerge r a) Q E s:=by
  unfold setMerge
  rw[if_neg (by simpa using Ne.symm har)]
  refine wpAny_bind (wpAny_setState_of hoa hda hfa ?_)
  dsimp only
  rw [if_neg (fun z => by have h0 : ea.size = 0 := (by simpa using z : ea = #[]) ▸ rfl
                          omega)]
  refine wpAny_bind (yU e hm h4 hn fun h' o' ep' t' hsb e' hfull hle=>?_)
  have hf':t'.fits 0=true:=by unfold SetTable.fits SetTable.fill;rw[e'.pl,e'.dm];simp
  refine wpAny_bind (wpAny_setState_of e'.get e'.dt hf' ?_)
  dsimp only
  have hfill:t'.fill=0:=by unfold SetTable.fill;rw[e'.pl,e'.dm];rfl
  have hsz:ea.size<=sizeLine:=by have:sizeLine=16777216:=rfl;omega
  have fin:∀ (es2:Array (Int×Value)) (t2:SetTable),es2.toList.Perm ea.toList->t2.fits es2.size=true->t2.dummies=#[]->ea.size<=t2.mask->wpAny (model prog w) A (storeSet r es2 t2) Q E { s with heap:=h' }:=fun es2 t2 hp hf2 hd2 hm2=>by
    have hs2:es2.size=ea.size:=by have:=hp.length_eq;simpa using this
    have hg:(h'.update r (Obj.putSet es2 t2)).get? r=some { o' with data:=.set es2 (ep'+1) t2 }:=by
      have:=Heap.get?_update_self (Obj.putSet es2 t2) e'.get (by rw[putSet_of es2 t2 e'.dt];rfl)
      rw[putSet_of es2 t2 e'.dt]at this;exact this
    exact wpAny_storeSet_of (s:={ s with heap:=h' }) e'.get e'.dt (h _ _ es2 (ep'+1) t2 (hsb.trans (Heap.SameBut.update _ r _)) hg e'.ex rfl hp hf2 hd2 hm2) (by omega)
  unfold SetTable.road
  rw[hfill]
  simp only[bne_self_eq_false,xT,if_false]
  have hfa':=hfa
  unfold SetTable.fits SetTable.fill at hfa'
  rw[xa,beq_iff_eq,decide_eq_true_eq]at hfa'
  by_cases hc:(t'.mask==ta.mask&&ta.dummies.isEmpty)=true
  · rw [if_pos hc]
    rw[xa,beq_iff_eq]at hc
    have hdm:ta.dummies=#[]:=by simpa using hc.2
    refine fin ea _ (.refl _) ?_ hdm ?_
    · unfold SetTable.fits SetTable.fill at hfa |-;exact hfa
    · show ea.size ≤ ta.mask
      omega
  · rw [if_neg hc]
    dsimp only
    obtain⟨t2,order,el,hp,hps,hdm,hmk,_,_⟩:=YL (finger:=t'.finger) (moves:=t'.moves) (led:=t'.led&&ta.led) (plain:=t'.plain&&ta.plain) hfull (ea.map (·.1)) (by rw[Array.size_map];exact hle)
    rw[Array.size_map]at hp hps
    rw[el]
    have hop:=yM (es:=ea) hp
    have hos:(order.filterMap (ea[·]?)).size=ea.size:=by rw[<- Array.length_toList,hop.length_eq,Array.length_toList]
    refine wpAny_bind (m:=_) ?_
    show wpAny _ _ (if ((order.filterMap (ea[·]?)).size !=ea.size)=true then _ else pure (order.filterMap (ea[·]?),t2)) _ _ _
    rw[if_neg (by rw[hos];simp)]
    refine wpAny_pure (fin _ t2 hop ?_ hdm (by rw[hmk];exact hle))
    unfold SetTable.fits SetTable.fill
    rw[hdm,hps,hos,hmk]
    simp
    exact hle
theorem ZL{α:Type}(es:Array α)(i:Nat):(eraseAt es i).toList=es.toList.eraseIdx i:=by
 unfold eraseAt
 rw[List.eraseIdx_eq_take_drop_succ]
 simp[Array.toList_extract]
 exact List.take_of_length_le (by simp)
theorem wo{α:Type}{es:Array α}{i:Nat}(h:i<es.size):(eraseAt es i).size+1=es.size:=by
 rw[<- Array.length_toList,ZL,List.length_eraseIdx_of_lt (by simpa using h)]
 simp;omega
theorem Vw{α:Type}(xs:Array α)(p:Nat)(x:α)(h:p<=xs.size):(insertAt xs p x).size=xs.size+1:=by
 unfold insertAt
 simp
 omega
structure Has(prog:Program)(w:World)(h:Heap)(r:Addr)(ks:List Int)(d m:Nat)(o:Obj)(es:Array (Int×Value))(ep:Nat)(t:SetTable):Prop where
 get:h.get? r=some o
 ex:o.ExactSet
 dt:o.data=.set es ep t
 el:ElemsOf (intKind prog w) es.toList
 key:Keys prog w es.toList ks
 nd:ks.Nodup
 fits:t.fits es.size=true
 dm:t.dummies.size<=d
 mke:m<=t.mask
 sm:es.size<scanBound
theorem Has.setOf{h:Heap}{ks:List Int}(x:Has prog w h r ks d m o es ep t):h.SetOf (intKind prog w) r (fun k=>decide (k∈ks)) ks.length :=
 ⟨o,es,ep,t,x.get,x.ex,x.dt,x.el,fun k=>by rw[decide_eq_true_eq];exact (x.key.mem k).symm,x.sm,x.fits,by rw[<- x.key.length];simp⟩
theorem zah(xs:Array Nat)(j:Nat):below xs j<=xs.size:=by
 unfold below
 have H:∀ fuel lo hi,lo<=hi->hi<=xs.size->below.go xs j fuel lo hi<=xs.size:=by
  intro fuel
  induction fuel with
  |zero=>intro lo hi h1 h2;rw[below.go];omega
  |succ fuel ih=>
   intro lo hi h1 h2
   rw[below.go]
   split
   ·dsimp only
    split
    ·exact ih _ _ (by omega) h2
    ·exact ih _ _ (by omega) (by omega)
   ·omega
 exact H _ _ _ (uk _) (xh _)
theorem Keys.eraseIdx:∀ {es:List (Int×Value)}{ks:List Int}(i:Nat),Keys prog w es ks->Keys prog w (es.eraseIdx i) (ks.eraseIdx i)
 |_,_,i,.nil=>by simp;exact .nil
 |_,_,0,.cons h=>h
 |_,_,i+1,.cons h=>.cons (h.eraseIdx i)
theorem Keys.find:∀ {es:List (Int×Value)}{ks:List Int}{i:Nat}{k:Int},Keys prog w es ks->es.findIdx? (fun e=>(intKind prog w).is k e.2)=some i->ks[i]?=some k:=by
 intro es ks i k h e
 obtain⟨hi,hp,_⟩:=List.findIdx?_eq_some_iff_getElem.mp e
 have H:∀ {es:List (Int×Value)} {ks:List Int} (i:Nat) (hi:i<es.length),Keys prog w es ks->(intKind prog w).is k es[i].2=true->ks[i]?=some k:=by
  intro es ks i hi h
  induction h generalizing i with
  |nil=>simp at hi
  | @cons k' t es ks h ih=>
   intro hk
   cases i with
   |zero=>
    have hk2:Value.isInt k (.int k' t)=true:=hk
    obtain⟨t2,e2⟩:=Value.isInt_shape hk2
    injection e2 with e3
    rw[e3];rfl
   |succ i=>exact ih i (by simpa using hi) hk
 exact H i hi h hp
theorem yx {ks:List Int}{d m:Nat}{tok:Tok}{Q:Bool->Shared->Prop}(x:Has prog w s.heap r ks d m o es ep t)
  (h:∀ h' o' es' ep' t' ks' b,Heap.SameBut r s.heap h'->Has prog w h' r ks' (d+1) m o' es' ep' t'->(∀ k',k'∈ks'↔(k'∈ks/\k'≠k))->Q b { s with heap:=h' }):wpAny (model prog w) A (setDiscardHashed r (.int k tok) ((intKind prog w).hash k)) Q E s:=by
 have hsame:s={ s with heap:=s.heap }:=by cases s;rfl
 unfold setDiscardHashed setFind setFindIn
 refine wpAny_bind (wpAny_bind (wpAny_setState_of x.get x.dt x.fits ?_))
 dsimp only
 rw[byScan_of (knd:=intKind prog w) rfl x.sm x.el]
 simp only[↓reduceIte]
 refine wpAny_bind (wpAny_rule ?_)
 refine wpAny_bind (wpAny_setScan_of (knd:=intKind prog w) (intKind_is _ _ _ _) x.get x.dt x.fits x.el ?_)
 cases hr:List.findIdx? (fun e=>(intKind prog w).is k e.2) es.toList with
 |none=>
  dsimp only
  refine wpAny_pure (wpAny_pure ?_)
  rw[hsame]
  refine h s.heap o es ep t ks false (Heap.SameBut.refl _ _) ⟨x.get,x.ex,x.dt,x.el,x.key,x.nd,x.fits,Nat.le_succ_of_le x.dm,x.mke,x.sm⟩ fun k'=>⟨fun hk=>⟨hk,fun e=>?_⟩,fun hk=>hk.1⟩
  subst e
  obtain⟨e1,he,hp⟩:=(x.key.mem k').mpr hk
  have:=List.findIdx?_eq_none_iff.mp hr e1 he
  rw[hp]at this;cases this
 |some i=>
  dsimp only
  rw[uo]
  refine wpAny_pure ?_
  dsimp only
  have hki:=x.key.find hr
  have hi:i<es.size:=by
   obtain⟨hi,_⟩:=List.findIdx?_eq_some_iff_getElem.mp hr
   simpa using hi
  refine wpAny_bind (wpAny_setState_of x.get x.dt x.fits ?_)
  dsimp only
  have hfit:=x.fits
  unfold SetTable.fits SetTable.fill at hfit
  rw[xa,beq_iff_eq,decide_eq_true_eq]at hfit
  have hpi:t.place[i]?=some t.place[i]:=Array.getElem?_eq_getElem (by omega)
  have hdrop:t.drop i={ t with place:=eraseAt t.place i,dummies:=insertAt t.dummies (below t.dummies t.place[i]) t.place[i] }:=by
   unfold SetTable.drop;rw[hpi]
  have hes:=wo hi
  have hpl:=wo (es:=t.place) (i:=i) (by omega)
  have hdm:=Vw t.dummies (below t.dummies t.place[i]) t.place[i] (zah _ _)
  have hfit2:(t.drop i).fits (eraseAt es i).size=true:=by
   rw[hdrop]
   unfold SetTable.fits SetTable.fill
   rw[xa,beq_iff_eq,decide_eq_true_eq]
   dsimp only
   constructor<;>omega
  have hg:(s.heap.update r (Obj.putSet (eraseAt es i) (t.drop i))).get? r=some { o with data:=.set (eraseAt es i) (ep+1) (t.drop i) }:=by
   have:=Heap.get?_update_self (Obj.putSet (eraseAt es i) (t.drop i)) x.get (by rw[putSet_of (eraseAt es i) (t.drop i) x.dt];rfl)
   rw[putSet_of (eraseAt es i) (t.drop i) x.dt]at this;exact this
  have hkl:i<ks.length:=by rw[<- x.key.length];simpa using hi
  have hkk:ks[i]=k:=by rw[xg hkl]at hki;exact Option.some.inj hki
  have hpm:=ZM hkl
  have hnd:(k::ks.eraseIdx i).Nodup:=by rw[<- hkk];exact (hpm.nodup_iff).mpr x.nd
  refine wpAny_bind (wpAny_storeSet_of x.get x.dt ?_ (by have:=fits_of_scanBound x.sm;omega))
  refine wpAny_bind (wpAny_point ?_)
  refine wpAny_pure (h _ _ (eraseAt es i) (ep+1) (t.drop i) (ks.eraseIdx i) true (Heap.SameBut.update _ r _) ⟨hg,x.ex,rfl,?_,?_,(xG.mp hnd).2,hfit2,?_,?_,by have:=x.sm;omega⟩ fun k'=>?_)
  ·rw[ZL];exact fun e he=>x.el e (List.mem_of_mem_eraseIdx he)
  ·rw[ZL];exact x.key.eraseIdx i
  ·rw[hdrop];show (insertAt _ _ _).size<=_;have:=x.dm;omega
  ·rw[hdrop];exact x.mke
  ·have h1:k'∈ks↔k'∈k::ks.eraseIdx i:=by rw[<- hkk];exact (hpm.mem_iff).symm
   rw[h1,xt]
   constructor
   ·intro hk
    exact⟨.inr hk,fun e=>(xG.mp hnd).1 (e ▸ hk)⟩
   ·rintro⟨hk | hk,hne⟩
    ·exact absurd hk hne
    ·exact hk
end
section
variable {prog:Program}{w:World}{A:Around}{E:Value->Shared->Prop}{s:Shared}
theorem zel {ks:List Int}{d m:Nat}{Q:Unit->Shared->Prop}(x:Has prog w s.heap r ks d m o es ep t)(hd:d<=m / 4)(h:Q () s):wpAny (model prog w) A (setTidy r) Q E s:=by
 unfold setTidy
 refine wpAny_bind (wpAny_setState_of x.get x.dt x.fits ?_)
 dsimp only
 unfold SetTable.tooManyDummies
 have h1:=x.dm
 have h2:m / 4<=t.mask / 4:=Nat.div_le_div_right x.mke
 rw[if_neg (by simp;omega)]
 exact wpAny_pure h
theorem KH {no m:Nat}{ks:List Int}{d:Nat}{Q:Unit->Shared->Prop}(ho:s.heap.SetOf (intKind prog w) o So no)(x:Has prog w s.heap r ks 0 m ob es ep t)(hor:o≠r)(hlt:no<ks.length / 4)(hm:ks.length<=m)
  (h:∀ s' ob' es' ep' t' ks',Heap.SameBut r s.heap s'.heap->Has prog w s'.heap r ks' no m ob' es' ep' t'->(∀ k,k∈ks'↔(k∈ks/\So k=false))->s'.gens=s.gens/\s'.os=s.os/\s'.drawn=s.drawn->Q () s'):wpAny (model prog w) A (Builtin.Frozenset.differenceUpdate nm r (.ref o)) Q E s:=by
 unfold Builtin.Frozenset.differenceUpdate
 rw[if_neg (by simp;exact hor)]
 refine wpAny_bind (jg ho ?_)
 simp only[if_true]
 refine wpAny_bind (wpAny_pure ?_)
 refine wpAny_bind (Zp ho ?_)
 refine wpAny_bind (Zp x.setOf ?_)
 rw[if_neg (by omega)]
 have ho0:=ho
 obtain⟨oo,eo,epo,to,hoo,hexo,hdo,helo,hmemo,hbo,hfo,hno⟩:=ho0
 refine wpAny_bind (wpAny_setEpoch_of hoo hdo hfo ?_)
 refine wpAny_bind (wpAny_holding ?_)
 refine wpAny_bind (walk_of hoo hdo hfo (fun b hb=>?_) fun es' hp=>?_)
 ·have:b=o∨b=r:=by simpa using hb
  rcases this with rfl | rfl
  ·exact⟨_,_,ho⟩
  ·exact⟨_,_,x.setOf⟩
 ·obtain⟨ko0,hk0⟩:=Jz helo
  obtain⟨ko,hko,hpk⟩:=hk0.perm hp
  have hlen:ko.length=no:=by rw[hpk.length_eq,<- hk0.length,<- hno];simp
  refine wpAny_bind (wpAny_forIn_array' _ (fun (rest:List (Int×Value)) _ s'=>∃ done left ob' es' ep' t' ks',ko=done++left/\Keys prog w rest left/\Heap.SameBut r s.heap s'.heap /\
   Has prog w s'.heap r ks' done.length m ob' es' ep' t'/\(∀ k,k∈ks'↔(k∈ks/\k∉done))/\s'.gens=s.gens/\s'.os=s.os/\s'.drawn=s.drawn) _ ?_ ?_ es' _ ⟨[],ko,_,_,_,_,ks,rfl,hko,Heap.SameBut.refl _ _,x,fun k=>by simp,rfl,rfl,rfl⟩)
  ·rintro⟨hh,y⟩ rest u s' ⟨done,left,ob',es2,ep',t',ks',e1,hk,hs1,hx,hmem,g1,g2,g3⟩
   cases hk with
   | @cons k tk _ left hk=>
    have e2:ko=(done++ [k])++left:=by rw[e1];simp
    refine wpAny_bind (wpAny_holding (yx hx fun h2 o2 es3 ep3 t3 ks3 b hsb hx3 hm3=>?_))
    have q1:Heap.SameBut r s.heap h2:=hs1.trans hsb
    have still:∀ {Q':PUnit->Shared->Prop},Q' ⟨⟩ { s' with heap:=h2 }->wpAny (model prog w) A (Builtin.Frozenset.unchanged nm o epo) Q' E { s' with heap:=h2 }:=fun {Q'} q2=>by
     unfold Builtin.Frozenset.unchanged
     refine wpAny_bind (wpAny_setEpoch_of (s:={ s' with heap:=h2 }) (by show h2.get? o=_;rw[q1.2 o hor];exact hoo) hdo hfo ?_)
     simp only[bne_self_eq_false,xT,if_false]
     exact wpAny_pure q2
    refine wpAny_bind (still (wpAny_pure ⟨done++ [k],left,_,_,_,_,ks3,e2,hk,q1,by rw[xC];exact hx3,fun k'=>?_,g1,g2,g3⟩))
    rw[hm3,hmem,xM,uN]
    constructor
    ·rintro⟨⟨h1,h2⟩,h3⟩
     exact⟨h1,fun z=>z.elim h2 h3⟩
    ·rintro⟨h1,h2⟩
     exact⟨⟨h1,fun z=>h2 (.inl z)⟩,fun z=>h2 (.inr z)⟩
  ·rintro u s' ⟨done,left,ob',es2,ep',t',ks',e1,hk,hs1,hx,hmem,g1,g2,g3⟩
   cases hk
   rw[xX]at e1
   subst e1
   refine wpAny_pure ?_
   rw[hlen]at hx
   refine zel hx ?_ (h s' ob' es2 ep' t' ks' hs1 hx (fun k=>?_) ⟨g1,g2,g3⟩)
   ·have:ks.length / 4<=m / 4:=Nat.div_le_div_right hm
    omega
   ·rw[hmem]
    have h2:k∈ko↔So k=true:=by
     rw[hpk.mem_iff,<- hk0.mem k]
     exact (hmemo k).symm
    rw[h2]
    simp
theorem zc0 {na no:Nat}{ka:List Int}{Q:Value->Shared->Prop}(ha:s.heap.SetOf (intKind prog w) a Sa na)(ho:s.heap.SetOf (intKind prog w) o So no)(hka:ka.Nodup)(hkm:∀ k,Sa k=true↔k∈ka)(hkl:ka.length=na)(hna:na<=60)
  (h:∀ s' T n,(∀ b ob,s.heap.get? b=some ob->s'.heap.get? b=some ob)->s.heap.objs.size<s'.heap.objs.size->s'.heap.SetOf (intKind prog w) s.heap.objs.size T n->(∀ k,T k=(Sa k&& !So k))->(∃ L:List Int,L.Nodup/\L.length=n/\∀ k,T k=true↔k∈L)->s'.gens=s.gens/\s'.os=s.os/\s'.drawn=s.drawn->Q (.ref s.heap.objs.size) s') :
  wpAny (model prog w) A (Builtin.Frozenset.difference nm a (.ref o)) Q E s:=by
 have hlt:∀ {b:Addr} {S:Int->Bool} {n:Nat},s.heap.SetOf (intKind prog w) b S n->b<s.heap.objs.size:=fun {b S n} hS=>by
  obtain⟨ob,_,_,_,hg,_⟩:=hS
  exact Heap.lt_size hg
 have har:a≠s.heap.objs.size:=xr (hlt ha)
 have hor:o≠s.heap.objs.size:=xr (hlt ho)
 unfold Builtin.Frozenset.difference
 dsimp only
 refine wpAny_bind (jg ho ?_)
 simp only[uV,xT,if_false,if_true,Bool.false_and]
 refine wpAny_bind (wpAny_pure ?_)
 refine wpAny_bind (Zp ho ?_)
 refine wpAny_bind (Zp ha ?_)
 by_cases hbig:na / 4>no
 ·rw[if_pos hbig]
  refine wpAny_bind (wpAny_rule ?_)
  unfold Builtin.Frozenset.copyOf
  refine wpAny_bind (wpAny_bind (Wr ha ?_))
  refine wpAny_bind (wpAny_newSet_of (knd:=intKind prog w) fun led hr=>?_)
  refine wpAny_bind (wpAny_pure ?_)
  obtain⟨oa,ea,epa,ta,hoa,hexa,hda,hela,hmema,hba,hfa,hna'⟩:=ha
  have hgr:(s.heap.push { cls:=.type "set",dict:=none,data:=.set #[] 0 (.fresh 0 0 led) }).get? s.heap.objs.size=some { cls:=.type "set",dict:=none,data:=.set #[] 0 (.fresh 0 0 led) }:=Heap.get?_push_size _ rfl
  have hem:Yh (s.heap.push { cls:=.type "set",dict:=none,data:=.set #[] 0 (.fresh 0 0 led) }) s.heap.objs.size { cls:=.type "set",dict:=none,data:=.set #[] 0 (.fresh 0 0 led) } 0 (.fresh 0 0 led):=⟨hgr,⟨rfl,rfl,rfl⟩,rfl,rfl,rfl⟩
  refine wpAny_bind (za8 (s:={ s with heap:=s.heap.push { cls:=.type "set",dict:=none,data:=.set #[] 0 (.fresh 0 0 led) } }) har hem rfl (Heap.get?_push_of_some _ hoa) hda hfa (by omega) (by omega) fun h' o' es' ep' t' hsb hg' hex' hd' hp' hf' hdm' hmk'=>?_)
  refine wpAny_pure ?_
  obtain⟨k0,hk0⟩:=Jz hela
  obtain⟨kk,hkk,hpk⟩:=hk0.perm hp'
  have hkkl:kk.length=na:=by rw[hpk.length_eq,<- hk0.length,<- hna'];simp
  have hkmem:∀ k,k∈kk↔Sa k=true:=fun k=>by rw[hpk.mem_iff,<- hk0.mem k];exact (hmema k).symm
  have hnd:kk.Nodup:=(perm_of_sub hka (fun y hy=>(hkmem y).mpr ((hkm y).mpr hy)) (by omega)).nodup_iff.mpr hka
  have hes':es'.size=ea.size:=by rw[<- Array.length_toList,hp'.length_eq,Array.length_toList]
  have hHas:Has prog w h' s.heap.objs.size kk 0 na o' es' ep' t':=⟨hg',hex',hd',hela.perm hp',hkk,hnd,hf',by rw[hdm'];simp,by omega,by omega⟩
  have hoo:h'.SetOf (intKind prog w) o So no:=by
   obtain⟨ob,e1,e2,e3,hg,rest⟩:=ho
   exact⟨ob,e1,e2,e3,by rw[hsb.2 o hor];exact Heap.get?_push_of_some _ hg,rest⟩
  refine wpAny_bind (wpAny_pure ?_)
  refine wpAny_bind (wpAny_holding (KH (s:={ s with heap:=h' }) (d:=0) hoo hHas hor (by omega) (by omega) fun s' ob2 es2 ep2 t2 ks2 hsb2 hx2 hm2 hg2=>?_))
  refine wpAny_pure (h s' (fun k=>decide (k∈ks2)) ks2.length (fun b ob hb=>?_) ?_ hx2.setOf (fun k=>?_) ?_ hg2)
  ·have hne:b≠s.heap.objs.size:=xr (Heap.lt_size hb)
   rw[hsb2.2 b hne]
   show h'.get? b=some ob
   rw[hsb.2 b hne]
   exact Heap.get?_push_of_some _ hb
  ·have:=Heap.lt_size hx2.get
   exact this
  ·have h1:=hm2 k
   rw[hkmem]at h1
   apply uj.mpr
   rw[decide_eq_true_eq,h1]
   simp
  ·exact⟨ks2,hx2.nd,rfl,fun k=>by rw[decide_eq_true_eq]⟩
 ·rw[if_neg hbig]
  refine wpAny_bind (Wr ha ?_)
  refine wpAny_bind (wpAny_newSet_of (knd:=intKind prog w) fun led hr=>?_)
  refine wpAny_bind (wpAny_pure ?_)
  have up:∀ {b:Addr} {S:Int->Bool} {n:Nat},s.heap.SetOf (intKind prog w) b S n->(s.heap.push { cls:=.type "set",dict:=none,data:=.set #[] 0 (.fresh 0 0 led) }).SetOf (intKind prog w) b S n:=fun {b S n} hS=>by
   obtain⟨ob,e1,e2,e3,hg,rest⟩:=hS
   exact⟨ob,e1,e2,e3,Heap.get?_push_of_some _ hg,rest⟩
  refine zhq (s:={ s with heap:=s.heap.push { cls:=.type "set",dict:=none,data:=.set #[] 0 (.fresh 0 0 led) } }) (up ha) (up ho) (by have:scanBound=4096:=rfl;omega) hr har hor fun s' T n hsb hS hT hz hg=>?_
  refine h s' T n (fun b ob hb=>?_) ?_ hS hT hz hg
  ·have hne:b≠s.heap.objs.size:=xr (Heap.lt_size hb)
   rw[hsb.2 b hne]
   exact Heap.get?_push_of_some _ hb
  ·obtain⟨_,_,_,_,hg,_⟩:=hS
   exact Heap.lt_size hg
end
section
variable {prog:Program}{w:World}{A:Around}{E:Value->Shared->Prop}{s:Shared}
theorem zb5 {na no:Nat}{ka:List Int}{Q:PySem.Fin->Shared->Prop}(ha:s.heap.SetOf (intKind prog w) a Sa na)(ho:s.heap.SetOf (intKind prog w) o So no)(hka:ka.Nodup)(hkm:∀ k,Sa k=true↔k∈ka)(hkl:ka.length=na)(hna:na<=60)
  (h:∀ s' T n,(∀ b ob,s.heap.get? b=some ob->s'.heap.get? b=some ob)->s.heap.objs.size<s'.heap.objs.size->s'.heap.SetOf (intKind prog w) s.heap.objs.size T n->(∀ k,T k=(Sa k&& !So k))->(∃ L:List Int,L.Nodup/\L.length=n/\∀ k,T k=true↔k∈L)->s'.gens=s.gens/\s'.os=s.os/\s'.drawn=s.drawn->Q (.done (.ret (.ref s.heap.objs.size))) s') :
  wpAny (model prog w) A (Builtin.«frozenset.__sub__» ⟨[.ref a,.ref o],[]⟩) Q E s:=by
 unfold Builtin.«frozenset.__sub__»
 refine wpAny_bind (m:=Builtin.Frozenset.slot1 "__sub__" ⟨[.ref a,.ref o],[]⟩) ?_
 unfold Builtin.Frozenset.slot1
 refine wpAny_bind (m:=slotArgs "__sub__" 1 ⟨[.ref a,.ref o],[]⟩) (wpAny_pure ?_)
 refine wpAny_pure ?_
 dsimp only
 simp only[xT,if_false,andM]
 refine wpAny_bind (wpAny_bind (jg ha ?_))
 refine jg ho ?_
 simp only[uV,xT,if_false]
 refine wpAny_bind (wpAny_pure ?_)
 refine wpAny_bind (zc0 ha ho hka hkm hkl hna fun s' T n h1 h2 h3 h4 h5 h6=>?_)
 exact wpAny_pure (h s' T n h1 h2 h3 h4 h5 h6)
theorem Wg:entryFor table "set.__sub__" =some Builtin.«frozenset.__sub__» :=
 entryFor_alias (id':= "frozenset.__sub__") (by kernel_rfl) rfl (by decide +kernel) (by kernel_rfl)
theorem sub_sets {na no:Nat}{ka:List Int}{Q:Value->Shared->Prop}(ha:s.heap.SetOf (intKind prog w) a Sa na)(ho:s.heap.SetOf (intKind prog w) o So no)(hka:ka.Nodup)(hkm:∀ k,Sa k=true↔k∈ka)(hkl:ka.length=na)(hna:na<=60)
  (h:∀ s' T n,(∀ b ob,s.heap.get? b=some ob->s'.heap.get? b=some ob)->s.heap.objs.size<s'.heap.objs.size->s'.heap.SetOf (intKind prog w) s.heap.objs.size T n->(∀ k,T k=(Sa k&& !So k))->(∃ L:List Int,L.Nodup/\L.length=n/\∀ k,T k=true↔k∈L)->s'.gens=s.gens/\s'.os=s.os/\s'.drawn=s.drawn->Q (.ref s.heap.objs.size) s') :
  wpAny (model prog w) A (binaryOp .Sub (.ref a) (.ref o)) Q E s :=
 wpAny_binaryOp_same (jb (h:=s.heap) ha) (jb (h:=s.heap) ho) PySem.F.fills_set_sub PySem.F.slot_set_sub
  (wpAny_call_entry PySem.F.slot_set_sub (jb (h:=s.heap) ha) Wg (zb5 ha ho hka hkm hkl hna fun s' T n h1 h2 h3 h4 h5 h6=>⟨_,rfl,(fun z=>nomatch z),h s' T n h1 h2 h3 h4 h5 h6⟩) (PySem.F.args_set_sub_2 _ _))
end
end Tab
namespace L2
open PySem PySem.Spec PyProof.Rows
variable [Cs]
theorem yC(ns:List Int):(List.range ns.length).map (fun i=>ns.getD i 0)=ns:=by
 apply List.ext_getElem
 ·simp
 ·intro i h1 h2
  simp at h1
  simp[h1]
theorem jZ(ns:List Int):firstMet (fun i=>ns.getD i 0) ns.length=Tab.dedup ns:=by
 unfold firstMet Tab.dedup
 rw[yC]
noncomputable def j6(ns ms:List Int):Nat:=(Tab.dedup (ns.filter fun k=> !ms.contains k)).length
section
variable {X:Cx}
theorem zau (hc:X.calm=true) (hg:Gl X "set") (hm:X.mg "set" =none) (hst:starEach [l] X.env= [(false,eval l X.env)]){R:List Int->Hp->Prop}(I:Inv X pins σ H s)
  (h:wpE X l σ H (fun v H1=>∃ a ns,v=.ref a/\SqL X.K H1 a (List.map V.int ns)/\ns.length<=60/\R ns H1)) :
  wpAny (model X.prog X.w) X.A (eval (.Call (.Name "set" p) [l] [] pos) X.env) (fun u s'=>∃ (r:Addr) (ns:List Int) (H1:Hp),u=.ref r/\Inv X pins σ H1 s'/\ZF X pins H1 r/\ns.length<=60/\s'.heap.SetOf (intKind X.prog X.w) r (fun k=>(Tab.dedup ns).any (·==k)) (Tab.dedup ns).length/\R ns H1) X.xe s:=by
 have h':YZ (wpE X l) zei σ H (fun vs H1=>∃ v,vs= [v]/\∃ a ns,v=.ref a/\SqL X.K H1 a (List.map V.int ns)/\ns.length<=60/\R ns H1):=wpE.mono h fun v H1 q=>⟨v,rfl,q⟩
 refine Call_ (jF I hg hm boot_setW (PyProof.Rows.callWith_type1 (thn ((zo ze pa_nil hst) pos pins s σ H _ I h') fun us s1 ⟨vs,H1,I1,r1,q1⟩=>?_) hst rfl))
 obtain⟨v,rfl,a,ns,rfl,hq,hn,q⟩:=q1
 obtain⟨u,rfl,ru⟩:=ZE r1
 cases ru
 obtain⟨its,rv,pl,hz⟩:=I1.list hq
 have hlen:=rv.length
 rw[xo]at hlen
 have hsz:its.toArray.size=ns.length:=by rw[xu];exact hlen.symm
 refine call_set_list (I1.ok.hd hc) pl.isList (IntsAre.of rv) (by rw[hsz];have:scanBound=4096:=rfl;omega) fun h2 tk hS hk=>?_
 rw[hsz,jZ]at hS
 exact⟨s1.heap.objs.size,ns,H1,rfl,I1.kept (t':=tk) fun b o e=>hk b o (Heap.lt_size e) e,I1.fpOk (xh _) (I1.hok.fresh (xh _)),hn,hS,q⟩
theorem ZX(ns:List Int)(k:Int):(Tab.dedup ns).any (·==k)=true↔k∈Tab.dedup ns:=by simp
theorem za2{ns ms L:List Int}{n:Nat}(hL:L.Nodup)(hl:L.length=n)(hm:∀ k,k∈L↔(k∈ns/\k∉ms)):n=j6 ns ms:=by
 unfold j6
 rw[<- hl]
 have hd:∀ k,k∈Tab.dedup (ns.filter fun k=> !ms.contains k)↔(k∈ns/\k∉ms):=fun k=>by
  rw[<- ZX,Tab.any_dedup,xE];simp
 have p1:=Tab.perm_of_sub (fm:=L) (ks:=Tab.dedup (ns.filter fun k=> !ms.contains k)) hL (fun x hx=>(hd x).mpr ((hm x).mp hx))
 have p2:=Tab.perm_of_sub (fm:=Tab.dedup (ns.filter fun k=> !ms.contains k)) (ks:=L) (Tab.nodup_dedup _) (fun x hx=>(hm x).mpr ((hd x).mp hx))
 rcases Nat.le_total L.length (Tab.dedup (ns.filter fun k=> !ms.contains k)).length with h | h
 ·exact (p2 h).length_eq
 ·exact (p1 h).length_eq.symm
theorem Zm(ns:List Int):(Tab.dedup ns).length<=ns.length:=by
 have h1:∀ (l acc:List Int),(l.foldl PyProof.Rows.step_dedup acc).length<=acc.length+l.length:=by
  intro l
  induction l with
  |nil=>intro acc;simp
  |cons x l ih=>
   intro acc
   rw[uC]
   refine xH (ih _) ?_
   rw[PyProof.Rows.step_length,xn]
   split<;>omega
 have:=h1 ns []
 simpa [Tab.dedup] using this
theorem yO (hc:X.calm=true) (hgl:Gl X "len") (hml:X.mg "len" =none) (hgs:Gl X "set") (hms:X.mg "set" =none) (hsa:starEach [a] X.env= [(false,eval a X.env)]) (hsb:starEach [b] X.env= [(false,eval b X.env)]) :
  PE X (.Call (.Name "len" p1) [.BinOp (.Call (.Name "set" p2) [a] [] q2) .Sub (.Call (.Name "set" p3) [b] [] q3) pb] [] q1) (fun σ H Q=>wpE X a σ H fun v H1=>∃ l ns,v=.ref l/\SqL X.K H1 l (List.map V.int ns)/\ns.length<=60 /\
   wpE X b σ H1 fun u H2=>∃ l2 ms,u=.ref l2/\SqL X.K H2 l2 (List.map V.int ms)/\ms.length<=60/\Q (.int (j6 ns ms)) H2):=by
 intro pins s σ H Q I h
 refine wpAny_Call_Name_kw (jF I hgl hml PySem.boot_len ?_)
 refine PyProof.Rows.callWith_builtin1 (E:=X.xe) ?_ rfl rfl
 show wpAny _ _ (spliced ((false,eval (.BinOp (.Call (.Name "set" p2) [a] [] q2) .Sub (.Call (.Name "set" p3) [b] [] q3) pb) X.env)::backTo q1 (starEach [] X.env))) _ _ s
 refine Calls.spliced_cons (wpAny_BinOp ?_)
 refine thn (zau hc hgs hms hsa (R:=fun ns H1=>wpE X b σ H1 fun u H2=>∃ l2 ms,u=.ref l2/\SqL X.K H2 l2 (List.map V.int ms)/\ms.length<=60/\Q (.int (j6 ns ms)) H2) I h) fun v s1 ⟨r1,ns,H1,e1,I1,f1,hn,hS1,q⟩=>?_
 subst e1
 have hS1':=hS1
 obtain⟨o1,es1,ep1,t1,hg1,hx1,hd1,rest1⟩:=hS1'
 have hncell:∀ v,o1.data≠ .cell v:=fun v z=>by rw[hd1]at z;cases z
 have hfp:∀ b∈ [r1],ZF X pins H1 b:=fun b hb=>by
  have:b=r1:=by simpa using hb
  subst this;exact f1
 have Ip:=I1.pinned (fp:= [r1]) hfp fun b hb=>by
  have:b=r1:=by simpa using hb
  subst this;exact⟨o1,hg1,hncell⟩
 refine thn (zau hc hgs hms hsb (R:=fun ms H2=>Q (.int (j6 ns ms)) H2) Ip q) fun u s2 ⟨r2,ms,H2,e2,I2,f2,hn2,hS2,q2⟩=>?_
 subst e2
 have hpin:=I2.pin (r1,o1) (xF _ (xF _ (by
  unfold QW
  simp[hg1])))
 have hS1b:s2.heap.SetOf (intKind X.prog X.w) r1 (fun k=>(Tab.dedup ns).any (·==k)) (Tab.dedup ns).length:=⟨o1,es1,ep1,t1,hpin.1,hx1,hd1,rest1⟩
 refine Tab.sub_sets hS1b hS2 (Tab.nodup_dedup ns) (ZX ns) rfl (xH (Zm ns) hn) fun s3 T n k1 k2 hS3 hT hL hg=>?_
 obtain⟨L,hL1,hL2,hL3⟩:=hL
 have hnn:n=j6 ns ms:=za2 hL1 hL2 fun k=>by
  rw[<- hL3,hT,xa,Bool.not_eq_true',<- Bool.not_eq_true,Tab.any_dedup,Tab.any_dedup]
 refine Calls.spliced_nil ?_
 obtain⟨o3,es3,ep3,t3,hg3,hx3,hd3,_,_,hb3,hf3,hn3⟩:=hS3
 have hsb:scanBound=4096:=rfl
 refine call_len_set hg3 hx3 hd3 hf3 (by omega) ?_
 have I3:Inv X pins σ H2 { s2 with heap:=s3.heap,toks:=s3.toks+1+1 }:=I2.unpinned.kept k1
 have es:({ heap:=s3.heap,gens:=s3.gens,drawn:=s3.drawn,toks:=s3.toks+1+1,os:=s3.os }:Shared)={ s2 with heap:=s3.heap,toks:=s3.toks+1+1 }:=by
  rw[hg.1,hg.2.1,hg.2.2]
 refine⟨.int (j6 ns ms),H2,?_,⟨s3.toks+1,?_⟩,q2⟩
 ·rw[es];exact I3
 ·rw[hn3,hnn]
end
end L2
namespace L3
open PySem PySem.Spec PyProof.Rows L2
variable [Cs]
noncomputable def Yw(fa fb:EM FV):EM FV:=fun Γ=>(fa Γ).bind fun (u,Γ1)=>match (derL Γ1 u).bind z8 with
 |some ns=>if ns.length<=60 then (fb Γ1).bind fun (w,Γ2)=>match (derL Γ2 w).bind z8 with
  |some ms=>if ms.length<=60 then .ok (.dat (.int (j6 ns ms)),Γ2) else .bad
  |none=>.bad
  else .bad
 |none=>.bad
section
variable {X:Cx}{XP:XPT}{mp:List Nat}{a b:Expr}{fa fb:EM FV}
theorem YH (o:FOk M0 F ν H v u)(rs:RS M0 F Γ ν H)(e:(derL Γ u).bind z8=some ns):∃ l,v=.ref l/\H l=some (.lst (List.map V.int ns)):=by
 cases ed:derL Γ u with
 |none=>rw[ed]at e;cases e
 |some ds=>
  rw[ed]at e
  have eds:=QR (by simpa using e:z8 ds=some ns)
  subst eds
  obtain⟨l,vs,rfl,el,r⟩:=o.list rs ed
  have ev:=RepL.intsInv r
  subst ev
  exact⟨l,rfl,el⟩
theorem zdO (hc:X.calm=true) (hgl:Gl X "len") (hml:X.mg "len" =none) (hgs:Gl X "set") (hms:X.mg "set" =none) (ha:SE X XP mp a fa) (hb:SE X XP mp b fb) (hsa:starEach [a] X.env= [(false,eval a X.env)]) (hsb:starEach [b] X.env= [(false,eval b X.env)]) :
  SE X XP mp (.Call (.Name "len" p1) [.BinOp (.Call (.Name "set" p2) [a] [] q2) .Sub (.Call (.Name "set" p3) [b] [] q3) pb] [] q1) (Yw fa fb):=fun M0 F Γ ν σ H Q rs hs hp=>by
 refine (yO hc hgl hml hgs hms hsa hsb).wp (ha.run rs hs hp fun F1 Γ1 H1 u v rs1 s1 o1 h1=>?_)
 dsimp only at h1
 split at h1
 ·rename_i ns en
  split at h1
  ·rename_i hn
   obtain⟨l,rfl,el⟩:=YH o1 rs1 en
   refine⟨l,ns,rfl,SqL.of el,hn,hb.run rs1 hs h1 fun F2 Γ2 H2 w v2 rs2 s2 o2 h2=>?_⟩
   dsimp only at h2
   split at h2
   ·rename_i ms em
    split at h2
    ·rename_i hm
     obtain⟨l2,rfl,el2⟩:=YH o2 rs2 em
     exact⟨l2,ms,rfl,SqL.of el2,hm,h2 F2 H2 rs2 (.refl _ _) _ (Rep.int _)⟩
    ·exact h2.elim
   ·exact h2.elim
  ·exact h1.elim
 ·exact h1.elim
end
end L3
namespace L2
open PySem PySem.Spec PyProof.Rows
section
end
variable [Cs]
section
end
end L2
namespace L3
open PySem PySem.Spec PyProof.Rows L2
variable [Cs]
section
end
section
end
section
end
section
end
section
end
section
end
section
end
noncomputable def vL(x:Str):SM:=fun Γ=>.exc ⟨x,.none⟩ Γ
noncomputable def zhf(X:Cx)(XP:XPT):Prop:=∀ (x:Exc) (Γ:Gv) (F:Fp) (ν:Nu) (σ:St) (H:Hp),x.pay=.none->XP x Γ F ν σ H->∀ C,X.mg x.cls=some (.ref C)->∀ pins s,Inv X pins σ H s->∀ h' ea,MadeX s.heap h' ea (.ref C) none->X.xe (.ref ea) { s with heap:=h' }
section
variable {X:Cx}{XP:XPT}{mp io:List Nat}{x:Str}{C:Addr}{np cpos pos cp:Pos}{z:Str}{cj:Nat}
theorem zbZ(k:Y9 X x C)(hcalm:X.calm=true)(rz:zhf X XP):SS X XP mp io (.Raise (some (.Call (.Name x np) [.Constant (.str z) cj cp] [] cpos)) none pos) (vL x):=fun M0 F Γ ν σ H D rs hs hl hp=>
 zcy k hcalm fun pins s I h' ea hm=>rz ⟨x,.none⟩ Γ F ν σ H rfl (hp F ν σ H rs (.refl _ _) hs hl fun _ _=>rfl) C k.mg pins s I h' ea hm
end
theorem HC.rep (v:HC):Rep M H v.V v.D:=by
 cases v with
 |s z=>exact .str z
 |b c=>exact .bool c
structure HdN(X:Cx)(L:Str->Addr->Prop)(mp:List Nat)(hd:ExceptHandler)(x:Str)(C:Addr)(t j:Nat)(v:HC):Prop where
 k:HdK X hd C t v
 e:Y9 X x C
 l:L x C
 m:mp[t]?=some j
inductive HdNs(X:Cx)(L:Str->Addr->Prop)(mp:List Nat):List ExceptHandler->List (Str×Nat×Nat×HC)->List (Addr×Nat×HC)->Prop
 |nil:HdNs X L mp [] [] []
 |cons {hd:ExceptHandler} {hs:List ExceptHandler} {x:Str} {C:Addr} {t j:Nat} {v:HC} {ns:List (Str×Nat×Nat×HC)} {zs:List (Addr×Nat×HC)}:HdN X L mp hd x C t j v->HdNs X L mp hs ns zs->HdNs X L mp (hd::hs) ((x,t,j,v)::ns) ((C,t,v)::zs)
theorem HdNs.ks {mp:List Nat}:∀ {hs:List ExceptHandler}{ns:List (Str×Nat×Nat×HC)}{zs:List (Addr×Nat×HC)},HdNs X L mp hs ns zs->zcA X hs zs
 |_,_,_,.nil=>.nil
 |_,_,_,.cons h t=>.cons h.k t.ks
section
end
section
variable {M0:Addr->Prop}{F:Fp}{Γ:Gv}{ν:Nu}{H H':Hp}
theorem RS.pair (r:RS M0 F (Γ++ [some o]) (ν++ [some v]) H)(n:H p=none)(qx:Rep (MM M0 F) H u x) :
  RS M0 F (Γ++ [some (.t [.d x,o])]) (ν++ [some (.ref p)]) (upd H p (.tup [u,v]))/\Stp F H F (upd H p (.tup [u,v])):=by
 have hl:ν.length=Γ.length:=by have:=r.len;simp at this;exact this
 have hp:∀ i,p∉F i:=fun i h=>by
  obtain⟨vs,e⟩:=r.laidF h
  rw[n]at e;cases e
 obtain⟨w,ew,q⟩:=r.at' Γ.length o (by rw[xf (xh _)];simp)
 have ewv:w=v:=by
  rw[xf (by omega),hl]at ew
  simpa using ew.symm
 subst ewv
 have s:Stp F H F (upd H p (.tup [u,w])):=.same (zB n)
 have hF:zW F Γ.length (F Γ.length)=F:=by
  funext j
  by_cases hj:j=Γ.length
  ·subst hj;exact zh
  ·exact zl hj
 have keep:∀ j,∀ a∈F j,upd H p (.tup [u,w]) a=H a:=fun j a ha=>zg (fun e=>hp j (by rw[<- e];exact ha))
 have q2:ORL (MM M0 F) (upd H p (.tup [u,w])) [u,w] [.d x,o] (F Γ.length):=by
  have:=ORL.cons (A:= []) (.d (zw s r.al0 qx)) (ORL.cons (q.go (fun _ _ x=>zw s r.al0 x) s.tups (keep _)) ORL.nil)
  rw[xX,uJ]at this;exact this
 have r1:=r.put (i:=Γ.length) (o:=.t [.d x,o]) (v:=.ref p) (A:=F Γ.length) (H':=upd H p (.tup [u,w])) (by rw[hF];exact s) (fun j _=>keep j)
  (fun a h=>s.stay a (r.al0 a h)) (fun a ha h=>r.dis0 _ a ha h) (r.nd _) (fun j hj a ha h=>hj (r.dis _ _ a h ha)) (by simp) (by rw[hF];exact .t zk q2)
 rw[hF]at r1
 have e1:(Γ++ [some o]).set Γ.length (some (OV.t [.d x,o]))=Γ++ [some (.t [.d x,o])]:=by
  rw[uE _ _ (xh _)];simp
 have e2:(ν++ [some w]).set Γ.length (some (V.ref p))=ν++ [some (.ref p)]:=by
  rw[<- hl,uE _ _ (xh _)];simp
 rw[e1,e2]at r1
 exact⟨r1,s⟩
end
section
variable {X:Cx}{XP:XPT}{mp:List Nat}{a b:Expr}{pos p:Pos}{fa:EM FV}{fo:EM OV}{kx:Nat}
noncomputable def Yz(fa:EM FV)(fo:EM OV):EM OV:=fun Γ=>(fa Γ).bind fun (u,Γ1)=>match derS Γ1 u with
 |some x=>(fo Γ1).bind fun (o,Γ2)=>.ok (.t [.d x,o],Γ2)
 |none=>.bad
theorem zd7(ha:SE X XP mp a fa)(h:SO X XP mp b fo)(h1:starEach [a,b] X.env=(false,eval a X.env)::starEach [b] X.env)(h2:starEach [b] X.env= [(false,eval b X.env)]):SO X XP mp (.Tuple [a,b] kx pos) (Yz fa fo):=fun M0 F Γ ν σ H Q rs hs hp=>by
 refine (zbo (zo ze (zo ze pa_nil h2) h1)).wp ?_
 refine ha M0 F Γ ν σ H _ rs hs (hp.seq.mono fun F1 Γ1 H1 u rs1 s1 h1 v hv=>?_)
 dsimp only at h1
 split at h1
 ·rename_i x ex
  have rx:=hv.strong rs1 ex
  refine h M0 F1 Γ1 ν σ H1 _ rs1 hs ?_
  cases q:fo Γ1 with
  |bad=>rw[q]at h1;exact h1.elim
  |exc x y=>rw[q]at h1;exact h1
  |ok z=>
   obtain⟨o,Γ2⟩:=z
   rw[q]at h1
   intro F2 H2 w rs2 s2
   refine⟨by show 2<=sizeLine;decide,fun p n=>?_⟩
   obtain⟨r3,s3⟩:=rs2.pair n (zw s2 rs1.al0 rx)
   exact h1 F2 _ _ r3 (s2.trans s3)
 ·exact h1.elim
end
end L3
namespace L2
open PySem PySem.Spec PyProof.Rows
section
end
variable [Cs]
inductive KR(M:Addr->Prop)(H:Hp):List (Str×V)->List (Str×PyData)->Prop
 |nil:KR M H [] []
 |cons {x:Str} {v:V} {d:PyData} {ks:List (Str×V)} {ds:List (Str×PyData)}:Rep M H v d->KR M H ks ds->KR M H ((x,v)::ks) ((x,d)::ds)
section
variable {M M':Addr->Prop}{H H':Hp}
theorem KR.of:∀ {ks:List (Str×V)}{ds:List (Str×PyData)},ks.map (·.1)=ds.map (·.1)->RepL M H (ks.map (·.2)) (ds.map (·.2))->KR M H ks ds
 |[],[],_,_=>.nil
 |[],_::_,h,_=>by simp at h
 |_::_,[],h,_=>by simp at h
 | (x,v)::ks,(y,d)::ds,h,r=>by
  simp only[xB,List.cons.injEq]at h
  obtain⟨rfl,h⟩:=h
  simp only[xB]at r
  cases r with
  |cons r t=>exact .cons r (KR.of h t)
theorem KR.keys:∀ {ks:List (Str×V)}{ds:List (Str×PyData)},KR M H ks ds->ks.map (·.1)=ds.map (·.1)
 |_,_,.nil=>rfl
 |_,_,.cons _ t=>by rw[xB,xB,t.keys]
theorem KR.length{ks:List (Str×V)}{ds:List (Str×PyData)}(h:KR M H ks ds):ks.length=ds.length:=by have:=congrArg List.length h.keys;simpa using this
theorem KR.map(hr:∀ v d,Rep M H v d->Rep M' H' v d):∀ {ks:List (Str×V)}{ds:List (Str×PyData)},KR M H ks ds->KR M' H' ks ds
 |_,_,.nil=>.nil
 |_,_,.cons r t=>.cons (hr _ _ r) (t.map hr)
theorem KR.any(x:Str):∀ {ks:List (Str×V)}{ds:List (Str×PyData)},KR M H ks ds->(ks.any fun p=>decide (p.1=x))=ds.any fun p=>decide (p.1=x)
 |_,_,.nil=>rfl
 |_,_,.cons _ t=>by rw[ug,ug,t.any x]
end
noncomputable def unD:List (PyData×PyData)->Option (List (Str×PyData))
 |[]=>some []
 | (.str x,d)::r=>(unD r).map ((x,d)::·)
 |_=>none
theorem zeo(ds:List (Str×PyData)):unD (ds.map dK)=some ds:=by
 induction ds with
 |nil=>rfl
 |cons p r ih=>simp[unD,dK,ih]
section
end
section
end
theorem StrsAre.of:∀ {ss:List Str}{us:List Value},Vals (ss.map V.str) us->StrsAre us ss
 |[],_,.nil=>.nil
 |n::ns,_,.cons ⟨t,e⟩ r=>by subst e;exact .cons n t (StrsAre.of r)
section
end
section
end
section
end
section
end
section
end
section
end
end L2
namespace L3
open PySem PySem.Spec PyProof.Rows L2
variable [Cs]
noncomputable def Eqv(H H':Hp):Prop:=∀ b o,H b=some o->H' b=some o∨∃ kvs,(o=.dK kvs∨∃ ob,o=.frz ob (.dK kvs))/\Rd H' b (.dK kvs)
section
variable {M:Addr->Prop}{H H':Hp}{o:Obj}{kvs:List (Key×V)}
theorem Eqv.rd(h:Eqv H H')(r:Rd H b (.dK kvs)):Rd H' b (.dK kvs):=by
 rcases r with e | ⟨ob,e⟩
 ·rcases h b _ e with z | ⟨k,z | ⟨ob,z⟩,r⟩
  ·exact .inl z
  ·cases z;exact r
  ·cases z
 ·rcases h b _ e with z | ⟨k,z | ⟨ob',z⟩,r⟩
  ·exact .inr ⟨_,z⟩
  ·cases z
  ·cases z;exact r
theorem Eqv.of(h:Eqv H H'){b:Addr}{o:HO}(e:H b=some o)(h1:∀ kvs,o≠ .dK kvs)(h2:∀ ob kvs,o≠ .frz ob (.dK kvs)):H' b=some o:=by
 rcases h b _ e with z | ⟨k,z | ⟨ob,z⟩,r⟩
 ·exact z
 ·exact absurd z (h1 k)
 ·exact absurd z (h2 ob k)
mutual
theorem Rep.eqv(h:Eqv H H'):∀ {v:V}{d:PyData},Rep M H v d->Rep M H' v d
 |_,_,.none=>.none
 |_,_,.bool b=>.bool b
 |_,_,.int i=>.int i
 |_,_,.str x=>.str x
 |_,_,.list e n r=>.list (h.of e (fun _ z=>nomatch z) (fun _ _ z=>nomatch z)) n (RepL.eqv h r)
 |_,_,.tuple e r=>.tuple (h.of e (fun _ z=>nomatch z) (fun _ _ z=>nomatch z)) (RepL.eqv h r)
 |_,_,.dict e n k r=>.dict (h.rd e) n k (RepL.eqv h r)
 |_,_,.inst e n k r=>.inst (h.of e (fun _ z=>nomatch z) (fun _ _ z=>nomatch z)) n k (RepL.eqv h r)
theorem RepL.eqv(h:Eqv H H'):∀ {vs:List V}{ds:List PyData},RepL M H vs ds->RepL M H' vs ds
 |_,_,.nil=>.nil
 |_,_,.cons r t=>.cons (Rep.eqv h r) (RepL.eqv h t)
end
end
noncomputable def zeP(M0:Addr->Prop)(F:Fp)(i:Nat):Addr->Prop:=fun a=>M0 a∨a∈F i
section
variable {M0:Addr->Prop}{F:Fp}{i:Nat}
theorem zdl (h:F3 i= []):MM (zeP M0 F i) F3=MM M0 (zW F3 i (F i)):=by
 funext a
 apply propext
 constructor
 ·rintro ((h1 | h1) | ⟨j,h1⟩)
  ·exact .inl h1
  ·exact .inr ⟨i,by rw[zh];exact h1⟩
  ·refine .inr ⟨j,?_⟩
   rw[zl (fun z=>by subst z;rw[h]at h1;cases h1)];exact h1
 ·rintro (h1 | ⟨j,h1⟩)
  ·exact .inl (.inl h1)
  ·by_cases z:j=i
   ·subst z;rw[zh]at h1;exact .inl (.inr h1)
   ·rw[zl z]at h1;exact .inr ⟨j,h1⟩
theorem zc7:zW (zW F i []) i (F i)=F:=by
 funext j
 by_cases z:j=i
 ·subst z;rw[zh]
 ·rw[zl z,zl z]
end
section
variable {X:Cx}{XP:XPT}{mp:List Nat}{a c e tg iter elt:Expr}{ifs:List Expr}{pos p:Pos}
noncomputable def ZA{β γ:Type}(k:Nat)(t:IT)(cond:EM Bool)(it:EM β)(add:γ->β->γ):List PyData->γ->Gv->R (γ×Gv)
 |[],ys,Γ=>.ok (ys,Γ)
 |d::ds,ys,Γ=>match tgF t d (Γ++List.replicate k none) with
  |none=>.bad
  |some Γ2=>match cond Γ2 with
   |.ok (true,Γ3)=>match it Γ3 with
    |.ok (y,Γ4)=>ZA k t cond it add ds (add ys y) (Γ4.take Γ.length)
    |.exc x Γ4=>.exc x (Γ4.take Γ.length)
    |.bad=>.bad
   |.ok (false,Γ3)=>ZA k t cond it add ds ys (Γ3.take Γ.length)
   |.exc x Γ3=>.exc x (Γ3.take Γ.length)
   |.bad=>.bad
structure zg9{α β γ δ:Type}(ac:Acc α β)(ad:γ->δ->γ)(RA:(Addr->Prop)->Fp->Hp->α->γ->Prop)(RB:(Addr->Prop)->Fp->Hp->β->δ->Prop)(ln:γ->Nat):Prop where
 stp:∀ {M0:Addr->Prop} {F F':Fp} {H H':Hp} {x:α} {y:γ},RA M0 F H x y->Stp F H F' H'->(∀ a,M0 a->H a≠none)->RA M0 F' H' x y
 add:∀ {M0:Addr->Prop} {F:Fp} {H:Hp} {x:α} {y:γ} {u:β} {d:δ},RA M0 F H x y->RB M0 F H u d->RA M0 F H (ac.add x u) (ad y d)
 bst:∀ {M0:Addr->Prop} {F F':Fp} {H H':Hp} {u:β} {d:δ},RB M0 F H u d->Stp F H F' H'->(∀ a,M0 a->H a≠none)->RB M0 F' H' u d
 len:∀ {M0:Addr->Prop} {F:Fp} {H:Hp} {x:α} {y:γ},RA M0 F H x y->ac.len x=ln y
 lin:∀ (y:γ) (d:δ),ln (ad y d)<=ln y+1
 eqv:∀ {M0:Addr->Prop} {F:Fp} {H H':Hp} {x:α} {y:γ},RA M0 F H x y->Eqv H H'->RA M0 F H' x y
 mm:∀ {M0 M0':Addr->Prop} {F F':Fp} {H:Hp} {x:α} {y:γ},MM M0 F=MM M0' F'->RA M0 F H x y->RA M0' F' H x y
theorem VD{XQ:XPT}{α β γ δ:Type}{ac:Acc α β}{add:γ->δ->γ}{RA:(Addr->Prop)->Fp->Hp->α->γ->Prop}{RB:(Addr->Prop)->Fp->Hp->β->δ->Prop}{len:γ->Nat}(AR:zg9 ac add RA RB len){N':List Str}{scope:Scope}{n k:Nat}{ix:List Nat}{t:IT}{cond:EM Bool}{it:EM δ}{te:St->Hp->(β->Hp->Prop)->Prop}{M0:Addr->Prop}{F1:Fp}{ν:Nu}{σ:St}{H1:Hp}{J:It}{ds:List PyData}{P:Fp->Gv->Hp->γ->Prop}{Γ1:Gv}{Q:α->Hp->Prop}{c0:γ}
  (hm:∀ j i:Nat,ix[j]?=some i->∃ m,mp[i]?=some m/\m<n) (hN':N'.length=k+ix.length) (h0:RA M0 F1 H1 ac.a0 c0) (hl0:len c0=0)
  (hg:∀ cl C s2 H2 fp,Cat X σ C s2 H2 fp->SG (X.comp N' scope cl C s2 H2 fp) (mpC mp n k ix) (·<n) tg t) (hc:∀ cl C s2 H2 fp,Cat X σ C s2 H2 fp->SF (X.comp N' scope cl C s2 H2 fp) (XPc XP σ) (mpC mp n k ix) ifs cond)
  (he:∀ (M0:Addr->Prop) (F:Fp) (Γ:Gv) (ν:Nu) (σ1:St) (H:Hp) (Q:β->Hp->Prop),RS M0 F Γ ν H->Sees (mpC mp n k ix) ν σ1->EPost M0 F ν σ1 H (XPc XP σ) (fun F' Γ' H' d=>∀ y,RB M0 F' H' y d->Q y H') (it Γ)->te σ1 H Q)
  (hq:∀ x Γ F ν H,XQ x Γ F ν σ H->XPc XP σ x Γ F ν σ H) (rs1:RS M0 F1 Γ1 ν H1) (hs:Sees mp ν σ) (hJ:JI M0 F1 J ds H1) (hd:ds.length<=1000000) (hn:Γ1.length=n) (hp:EPost M0 F1 ν σ H1 XQ P (ZA k t cond it add ds c0 Γ1))
  (fin:∀ F' Γ' H' ys vs,RS M0 F' Γ' ν H'->RA M0 F' H' vs ys->P F' Γ' H' ys->Stp F1 H1 F' H'->Q vs H') :
  zcO ac k ix (gU X N' scope tg σ) (fU X N' scope ifs σ) te σ J H1 Q:=by
 have hνn:ν.length=n:=by rw[rs1.len,hn]
 refine⟨fun i m vs H=>m=ds.length-i/\i<=ds.length/\∃ F' Γ' ys,RS M0 F' Γ' ν H/\Stp F1 H1 F' H/\RA M0 F' H vs ys/\Γ'.length=n/\len ys<=i/\EPost M0 F' ν σ H XQ P (ZA k t cond it add (ds.drop i) ys Γ'),⟨ds.length,by simp,uk _,F1,Γ1,c0,rs1,.refl _ _,h0,hn,by rw[hl0];exact xh _,hp⟩,?_⟩
 rintro i m vs H ⟨rfl,hil,F',Γ',ys,rs,st,rv,hln,hyl,hp⟩
 have hsz:=sizeLine_eq
 refine⟨by rw[AR.len rv];omega,?_⟩
 by_cases hlt:i<ds.length
 ·rw[List.drop_eq_getElem_cons hlt,ZA]at hp
  obtain⟨jgo,jst⟩:=hJ i F' H st rs1.al0
  obtain⟨go,yl⟩:=jgo ds[i] (by simp[hlt])
  refine .inr ⟨go,fun vs' H'=>∃ F'' Γ'' ys',RS M0 F'' Γ'' ν H'/\Stp F1 H1 F'' H'/\RA M0 F'' H' vs' ys'/\Γ''.length=n/\len ys'<=i+1/\EPost M0 F'' ν σ H' XQ P (ZA k t cond it add (ds.drop (i+1)) ys' Γ''),fun vs' H' h=>⟨ds.length-(i+1),by omega,rfl,hlt,h⟩,fun x H2 hy=>?_⟩
  obtain⟨s2,rx⟩:=yl x H2 hy
  have rs2:=(rs.same s2).ext k
  have hcl:(cS k ix σ).length=N'.length:=by unfold cS;simp[hN']
  have hsee:Sees (mpC mp n k ix) (ν++List.replicate k none) (cS k ix σ):=fun s j v e1 e2=>by
   by_cases hsk:s<k
   ·rw[zfW hsk]at e1
    cases e1
    rw[xf (by omega),xU]at e2
    split at e2<;>cases e2
   ·obtain⟨j',rfl⟩:∃ j',s=k+j':=⟨s-k,by omega⟩
    rw[zba]at e1
    cases q:ix[j']? with
    |none=>rw[q]at e1;cases e1
    |some i0=>
     rw[q]at e1
     obtain⟨m,hm1,hm2⟩:=hm j' i0 q
     have:mp.getD i0 0=m:=by rw[List.getD_eq_getElem?_getD,hm1];rfl
     have ej:m=j:=by
      have e3:some (mp.getD i0 0)=some j:=e1
      rw[this]at e3;exact Option.some.inj e3
     subst ej
     rw[xc (by omega)]at e2
     exact zfj q (hs i0 m v hm1 e2)
  cases et:tgF t ds[i] (Γ'++List.replicate k none) with
  |none=>rw[et]at hp;exact hp.elim
  |some Γ2=>
   rw[et]at hp
   intro cl C s2' H2' fp cat
   refine hg cl C s2' H2' fp cat M0 F' _ Γ2 _ (cS k ix σ) H2 x ds[i] _ rs2 hsee hcl rx et fun F3 ν3 σ3 rs3 s3 hs3 hl3 n3 m3=>⟨?_,fun cl C s2' H2' fp cat=>?_⟩
   ·apply ue
    intro j
    rw[List.getElem?_drop,List.getElem?_drop]
    by_cases hj:j<ix.length
    ·obtain⟨m,hm1,hm2⟩:=hm j ix[j] (by simp[hj])
     refine m3 (k+j) m ?_ hm2
     rw[zba,xg hj]
     show some (mp.getD ix[j] 0)=some m
     rw[List.getD_eq_getElem?_getD,hm1];rfl
    ·have hl3':σ3.length=N'.length:=hl3
     rw[xy (by omega),xy (by omega)]
   ·have stA:Stp F1 H1 F3 H2:=(st.trans (.same s2)).trans s3
    have back:∀ {F4:Fp} {Γ4:Gv} {H4:Hp},RS M0 F4 Γ4 ν3 H4->RS M0 (wu F4 n) (Γ4.take n) ν H4/\Stp F4 H4 (wu F4 n) H4:=fun {F4 Γ4 H4} r4=>by
     obtain⟨r5,s5⟩:=r4.cut n
     have:ν3.take n=ν:=by
      apply ue
      intro j
      by_cases hj:j<n
      ·rw[xV hj,n3 j hj,xc (by omega)]
      ·rw[xy (by rw[ud];omega),xy (by omega)]
     rw[this]at r5
     exact⟨r5,s5⟩
    have lenOf:∀ {F4:Fp} {Γ4:Gv} {H4:Hp},RS M0 F4 Γ4 ν3 H4->(Γ4.take n).length=n:=fun {F4 Γ4 H4} r4=>by
     have h1:=r4.len
     have h2:=rs3.len
     have h3:Γ2.length=n+k:=by rw[y3 _ _ _ _ et,xC,uD,hln]
     rw[ud];omega
    refine hc cl C s2' H2' fp cat M0 F3 Γ2 ν3 σ3 H2 _ rs3 hs3 ?_
    dsimp only at hp
    cases ec:cond Γ2 with
    |bad=>rw[ec]at hp;exact hp.elim
    |exc xx yy=>
     rw[ec]at hp
     intro F4 H4 rs4 s4
     obtain⟨r5,s5⟩:=back rs4
     exact hq _ _ _ _ _ (hp _ H4 (by rw[hln];exact r5) ((((Stp.same s2).trans s3).trans s4).trans s5))
    |ok z=>
     obtain⟨bb,Γ3⟩:=z
     rw[ec]at hp
     intro F4 H4 rs4 s4
     have rvA:RA M0 F4 H4 vs ys:=AR.stp (AR.stp (AR.stp rv (.same s2) rs.al0) s3 (rs.same s2).al0) s4 rs3.al0
     cases bb with
     |false=>
      refine vp ?_
      obtain⟨r5,s5⟩:=back rs4
      have stB:=(stA.trans s4).trans s5
      rw[hln]at hp
      exact⟨_,_,ys,r5,stB,AR.stp rvA s5 rs4.al0,lenOf rs4,by omega,hp.step ((((Stp.same s2).trans s3).trans s4).trans s5)⟩
     |true=>
      refine vq (he M0 F4 Γ3 ν3 σ3 H4 _ rs4 hs3 ?_)
      dsimp only at hp
      cases ee:it Γ3 with
      |bad=>rw[ee]at hp;exact hp.elim
      |exc xx yy=>
       rw[ee]at hp
       intro F5 H5 rs5 s5
       obtain⟨r6,s6⟩:=back rs5
       exact hq _ _ _ _ _ (hp _ H5 (by rw[hln];exact r6) (((((Stp.same s2).trans s3).trans s4).trans s5).trans s6))
      |ok z=>
       obtain⟨u,Γ4⟩:=z
       rw[ee]at hp
       intro F5 H5 rs5 s5 v hv
       dsimp only at hp
       obtain⟨r6,s6⟩:=back rs5
       have stB:=((stA.trans s4).trans s5).trans s6
       rw[hln]at hp
       exact⟨_,_,add ys u,r6,stB,AR.add (AR.stp (AR.stp rvA s5 rs4.al0) s6 rs5.al0) (AR.bst hv s6 rs5.al0),lenOf rs5,by have:=AR.lin ys u;omega,hp.step (((((Stp.same s2).trans s3).trans s4).trans s5).trans s6)⟩
 ·have e:i=ds.length:=by omega
  subst e
  rw[uU,ZA]at hp
  obtain⟨jgo,jst⟩:=hJ _ F' H st rs1.al0
  exact .inl ⟨jst (xh _),fin F' Γ' H ys vs rs rv (hp F' H rs (.refl _ _)) st⟩
noncomputable def itL(elt:EM FV):EM PyData:=fun Γ=>(elt Γ).bind fun (u,Γ1)=>match derS Γ1 u with
 |some y=>.ok (y,Γ1)
 |none=>.bad
theorem kg:zg9 zcE (fun (ys:List PyData) y=>ys++ [y]) (fun M0 F H vs ys=>RepL (MM M0 F) H vs ys) (fun M0 F H v y=>Rep (MM M0 F) H v y) List.length where
 stp r s h0:=qH s h0 r
 add r q:=RepL.append r (.cons q .nil)
 bst r s h0:=zw s h0 r
 len r:=r.length
 lin y d:=by simp
 eqv r h:=RepL.eqv h r
 mm e r:=by rw[<- e];exact r
noncomputable def Zz(k:Nat)(t:IT)(cond:EM Bool)(elt:EM FV):List PyData->List PyData->Gv->R (List PyData×Gv):=ZA k t cond (itL elt) fun ys y=>ys++ [y]
noncomputable def fComp(n k:Nat)(t:IT)(src:EM (List PyData))(cond:EM Bool)(elt:EM FV):EM (List PyData):=fun Γ=>(src Γ).bind fun (ds,Γ1)=>if ds.length<=1000000/\Γ1.length=n then Zz k t cond elt ds [] Γ1 else .bad
theorem zfM (he:SE Y XP mp' elt el){Q:VK}(rs:RS M0 F Γ ν H)(hs:Sees mp' ν σ)(hp:EPost M0 F ν σ H XP (fun F' Γ' H' d=>∀ y,Rep (MM M0 F') H' y d->Q y H') (itL el Γ)):wpE Y elt σ H Q :=
 he.run rs hs hp fun F1 Γ1 H1 u v rs1 s1 o1 h1=>by
  dsimp only at h1
  split at h1
  ·rename_i y ey
   exact h1 F1 H1 rs1 (.refl _ _) v (o1.strong rs1 ey)
  ·exact h1.elim
theorem VX{N':List Str}{scope:Scope}{n k:Nat}{ix:List Nat}{t:IT}{src:EM (List PyData)}{cond:EM Bool}{el:EM FV}(S:CSc X.env.scope X.N scope N' k ix)(hm:∀ j i:Nat,ix[j]?=some i->∃ m,mp[i]?=some m/\m<n)
  (hi:SI X XP mp tg iter src) (hg:∀ σ cl C s2 H2 fp,Cat X σ C s2 H2 fp->SG (X.comp N' scope cl C s2 H2 fp) (mpC mp n k ix) (·<n) tg t) (hc:∀ σ cl C s2 H2 fp,Cat X σ C s2 H2 fp->SF (X.comp N' scope cl C s2 H2 fp) (XPc XP σ) (mpC mp n k ix) ifs cond) (he:∀ σ cl C s2 H2 fp,Cat X σ C s2 H2 fp->SE (X.comp N' scope cl C s2 H2 fp) (XPc XP σ) (mpC mp n k ix) elt el) :
  SNt XP mp (WX k ix (wpI X tg iter) (gU X N' scope tg) (fU X N' scope ifs) (eU X N' scope elt)) (fComp n k t src cond el):=fun M0 F Γ ν σ H Q rs hs hp=>by
 refine hi M0 F Γ ν σ H _ rs hs (hp.seq.mono fun F1 Γ1 H1 ds rs1 s1 h1 J hJ=>?_)
 dsimp only at h1
 split at h1
 ·rename_i hh
  exact VD kg hm S.len .nil rfl (hg σ) (hc σ) (fun M0 F Γ ν σ1 H Q rs hs hp cl C s2 H2 fp c=>zfM (he σ cl C s2 H2 fp c) rs hs hp) (fun _ _ _ _ _ h=>⟨_,_,_,h⟩) rs1 hs hJ hh.1 hh.2 h1 fun F' Γ' H' ys vs rs' rv hP _ p hp'=>hP vs p rv hp'
 ·exact h1.elim
theorem zd2{N':List Str}{scope:Scope}{n k:Nat}{ix:List Nat}{t:IT}{src:EM (List PyData)}{cond:EM Bool}{el:EM FV}(hcalm:X.calm=true)(S:CSc X.env.scope X.N scope N' k ix)(hm:∀ j i:Nat,ix[j]?=some i->∃ m,mp[i]?=some m/\m<n)
  (hi:SI X XP mp tg iter src) (hg:∀ σ cl C s2 H2 fp,Cat X σ C s2 H2 fp->SG (X.comp N' scope cl C s2 H2 fp) (mpC mp n k ix) (·<n) tg t) (hc:∀ σ cl C s2 H2 fp,Cat X σ C s2 H2 fp->SF (X.comp N' scope cl C s2 H2 fp) (XPc XP σ) (mpC mp n k ix) ifs cond) (he:∀ σ cl C s2 H2 fp,Cat X σ C s2 H2 fp->SE (X.comp N' scope cl C s2 H2 fp) (XPc XP σ) (mpC mp n k ix) elt el)
  (hf:∀ x,foldedSetIterable iter X.env x=pure x):SN X XP mp (.ListComp elt [⟨tg,iter,ifs,0⟩] scope pos) (fComp n k t src cond el):=fun M0 F Γ ν σ H Q rs hs hp=>
 (zbl hcalm S hf).wp (VX S hm hi hg hc he M0 F Γ ν σ H Q rs hs hp)
end
end L3
namespace L2
open PySem PySem.Spec PyProof.Rows
variable [Cs]
end L2
namespace L3
open PySem PySem.Spec PyProof.Rows L2
variable [Cs]
section
variable {ν:Nu}
theorem zfX{i:Nat}(h:ν[i]?=some (some v)):ν.set i (some v)=ν:=by
 apply ue
 intro k
 by_cases hk:i=k
 ·subst hk;rw[xl (xb.mp h).1,h]
 ·rw[xj hk]
end
structure FldK(X:Cx)(c f:Str):Prop where
 cl:Cls X.K (Cs.adr c)
 no:ZG X.K (Cs.adr c) f
section
end
section
end
end L3
namespace Tab
open PySem PySem.Spec PyProof.Rows
noncomputable abbrev qY (led:Bool):Obj:={ cls:=.type "set",dict:=none,data:=.set #[] 0 (.fresh 0 0 led) }
section
variable {prog:Program}{w:World}{A:Around}{E:Value->Shared->Prop}{s:Shared}
theorem set_tuple {vs:Array Value}{ns:List Int}{Q:Value->Shared->Prop}(hd:A.handled=none)(ht:s.heap.IsTuple a vs)(hv:IntsAre vs.toList ns)(hsz:vs.size+1<scanBound)
  (k:∀ (h2:Heap) (tk:Nat),h2.SetOf (intKind prog w) s.heap.objs.size (fun z=>(firstMet (fun i=>ns.getD i 0) vs.size).any (·==z)) (firstMet (fun i=>ns.getD i 0) vs.size).length ->
   (∀ b o,b<s.heap.objs.size->s.heap.get? b=some o->h2.get? b=some o)->Q (.ref s.heap.objs.size) { s with heap:=h2,toks:=tk }) :
  wpAny (model prog w) A (call (.type "set") [.ref a]) Q E s:=by
 obtain⟨c0,t0,m0⟩:=F.called_set.mro
 have m1:=F.called_set.made
 have m2:=F.called_set.sub
 have m3:=F.called_set.notType
 have m4:=F.called_set.canCreate
 have m5:=F.typeCall_set_1 (.ref a)
 refine wpAny_call (codeAny_of_tree ?_)
 show wpAny _ _ (callAny (.type "set") ⟨[.ref a],[]⟩) _ _ s
 refine wpAny_pure ⟨Code.quiet_builtin _ (by decide +kernel),codeAny_builtin F.entry_type_call ?_⟩
 rw[Around.under_plain (weight_type_call_type "set" [.ref a] []) rfl]
 repeat (any_goals (first | assumption | wp_step))
 refine codeAny_mono (code_set_new_1 (.ref a) (E:=E) (Q₁:=fun z z1=>∃ led:Bool,z=.ref s.heap.objs.size/\z1={ s with heap:=s.heap.push (qY led) }) fun led=>⟨led,rfl,rfl⟩) fun r z1 hr=>?_
 cases r with
 |error e=>exact hr
 |ok fl=>
  cases fl with
  |next=>exact hr.elim
  |brk=>exact hr.elim
  |cont=>exact hr.elim
  |ret z=>
   obtain⟨led,rfl,rfl⟩:=hr
   have g0:(s.heap.push (qY led)).get? s.heap.objs.size=some (qY led):=Heap.get?_push_size _ rfl
   have g1:Shared.TypeIs { s with heap:=s.heap.push (qY led) } (.ref s.heap.objs.size) "set" :=⟨_,g0,rfl⟩
   have g2:=F.called_set.init.lookup
   have g3:=F.called_set.init.bind (.ref s.heap.objs.size)
   repeat (any_goals (first | assumption | wp_step))
   refine codeAny_mono (codeAny_call_builtin (R:=wants (fun r z2=>r=.none/\∃ h2 tk,z2={ s with heap:=h2,toks:=tk } /\
     h2.SetOf (intKind prog w) s.heap.objs.size (fun z=>(firstMet (fun i=>ns.getD i 0) vs.size).any (·==z)) (firstMet (fun i=>ns.getD i 0) vs.size).length /\
     ∀ b o,b<s.heap.objs.size->s.heap.get? b=some o->h2.get? b=some o) E) F.called_set.init.plain F.entry_set_init (check_set_init_1 g1 ?_)) fun r2 z2 hr2=>?_
   ·have ht1:=ht.push (qY led)
    obtain⟨ot,e1,e2,nt,e3⟩:=ht
    have hlt:=Heap.lt_size e1
    cases ot with
    |mk oc od odt osl=>
     dsimp only at e2 e3
     subst e2 e3
     have e1':(s.heap.push (qY led)).get? a=some { cls:=.type "tuple",dict:=od,data:=.seq vs nt,slots:=osl }:=Heap.get?_push_of_some _ e1
     have f1:=F.sub_tuple_set
     have f2:=F.sub_tuple_frozenset
     have f3:(Value.type "tuple" ==Value.type "dict")=false:=by decide
     unfold Builtin.«set.__init__» noKeywords Builtin.Frozenset.updateFrom
     generalize hpi:pyIter=pI
     wp_walk
     subst hpi
     refine wpAny_pyIter_tuple ht1 (wpAny_bind (wpAny_runValue ?_))
     have sz1:(s.heap.push (qY led)).objs.size=s.heap.objs.size+1:=Heap.size_push ..
     have n1:a≠(s.heap.push (qY led)).objs.size:=by rw[sz1];exact xr (uQ hlt)
     have n2:s.heap.objs.size∉ [(s.heap.push (qY led)).objs.size,a]:=fun z=>by
      rcases xt.mp z with z | z
      ·rw[sz1]at z;exact absurd z (xr (uI _))
      ·have:s.heap.objs.size=a:=by simpa using z
       exact absurd this.symm (xr hlt)
     have n3:A.in1.in1.in1.handled=none:=by simp[hd]
     refine codeAny_set_update_loopS ((Walks.tuple n3 _ a n1 vs).toS) s.heap.objs.size n2 (fun i=>ns.getD i 0) (fun i v q=>IntsAre.int_at hv i v (by rw[Array.getElem?_toList];exact q)) hsz (vs.size-0) 0 _ rfl (uk _)
      ⟨⟨_,Heap.get?_push_size _ rfl,rfl,rfl⟩,ht1.push _⟩ ?u ?v
     case u=>
      have g4:=Heap.get?_push_of_some (h:=s.heap.push (qY led)) { cls:=.type "tuple_iterator",data:=.fields #[.ref a,.int 0 0] } g0
      exact SetOf_congr ((setObjOf_fresh (knd:=intKind prog w) led).setOf g4 (by unfold scanBound;omega)) (fun _=>rfl) rfl
     case v=>
      intro z2 hm hS
      have q1:=hm.gens
      have q2:=hm.drawn
      have q3:=hm.os
      have q4:=hm.heap
      cases z2 with
      |mk h2 gg gd gt go=>
       dsimp only at q1 q2 q3 q4 hS
       subst q1 q2 q3
       show wpAny _ _ _ _ _ _
       refine wpAny_pure ?_
       show wpAny _ _ (ret Value.none) _ _ _
       refine wpAny_pure ⟨rfl,h2,gt,rfl,hS,fun b o hb e=>q4 b o (fun z=>?_) (Heap.get?_push_of_some _ (Heap.get?_push_of_some _ e))⟩
       rcases xt.mp z with z | z
       ·exact absurd z (xr hb)
       ·have:b=(s.heap.push (qY led)).objs.size:=by simpa using z
        rw[sz1]at this;omega
   ·cases r2 with
    |error e=>exact hr2
    |ok fl2=>
     cases fl2 with
     |next=>exact hr2.elim
     |brk=>exact hr2.elim
     |cont=>exact hr2.elim
     |ret r=>
      obtain⟨rfl,h2,tk,rfl,hS,hk⟩:=hr2
      repeat (any_goals (first | assumption | wp_step))
      exact k h2 tk hS hk
end
end Tab
namespace L2
open PySem PySem.Spec PyProof.Rows
variable [Cs]
section
variable {X:Cx}
theorem zc3 (hc:X.calm=true) (hg:Gl X "set") (hm:X.mg "set" =none) (hst:starEach [l] X.env= [(false,eval l X.env)]){R:List Int->Hp->Prop}(I:Inv X pins σ H s)
  (h:wpE X l σ H (fun v H1=>∃ a ns,v=.ref a/\SqT X.K H1 a (List.map V.int ns)/\ns.length<=60/\R ns H1)) :
  wpAny (model X.prog X.w) X.A (eval (.Call (.Name "set" p) [l] [] pos) X.env) (fun u s'=>∃ (r:Addr) (ns:List Int) (H1:Hp),u=.ref r/\Inv X pins σ H1 s'/\ns.length<=60/\s'.heap.SetOf (intKind X.prog X.w) r (fun k=>(Tab.dedup ns).any (·==k)) (Tab.dedup ns).length/\R ns H1) X.xe s:=by
 have h':YZ (wpE X l) zei σ H (fun vs H1=>∃ v,vs= [v]/\∃ a ns,v=.ref a/\SqT X.K H1 a (List.map V.int ns)/\ns.length<=60/\R ns H1):=wpE.mono h fun v H1 q=>⟨v,rfl,q⟩
 refine Call_ (jF I hg hm boot_setW (PyProof.Rows.callWith_type1 (thn ((zo ze pa_nil hst) pos pins s σ H _ I h') fun us s1 ⟨vs,H1,I1,r1,q1⟩=>?_) hst rfl))
 obtain⟨v,rfl,a,ns,rfl,hq,hn,q⟩:=q1
 obtain⟨u,rfl,ru⟩:=ZE r1
 cases ru
 obtain⟨its,rv,pl,hz⟩:=I1.tuple hq
 have hlen:=rv.length
 rw[xo]at hlen
 have hsz:its.toArray.size=ns.length:=by rw[xu];exact hlen.symm
 refine Tab.set_tuple (I1.ok.hd hc) (show s1.heap.IsTuple a its.toArray from pl) (IntsAre.of rv) (by rw[hsz];have:scanBound=4096:=rfl;omega) fun h2 tk hS hk=>?_
 rw[hsz,jZ]at hS
 exact⟨s1.heap.objs.size,ns,H1,rfl,I1.kept (t':=tk) fun b o e=>hk b o (Heap.lt_size e) e,hn,hS,q⟩
theorem yP (hc:X.calm=true) (hgl:Gl X "len") (hml:X.mg "len" =none) (hgs:Gl X "set") (hms:X.mg "set" =none) (hsa:starEach [a] X.env= [(false,eval a X.env)]) :
  PE X (.Call (.Name "len" p1) [.Call (.Name "set" p2) [a] [] q2] [] q1) (fun σ H Q=>wpE X a σ H fun v H1=>∃ l ns,v=.ref l/\SqT X.K H1 l (List.map V.int ns)/\ns.length<=60/\Q (.int (Tab.dedup ns).length) H1):=by
 intro pins s σ H Q I h
 refine wpAny_Call_Name_kw (jF I hgl hml PySem.boot_len ?_)
 refine PyProof.Rows.callWith_builtin1 (E:=X.xe) ?_ rfl rfl
 show wpAny _ _ (spliced ((false,eval (.Call (.Name "set" p2) [a] [] q2) X.env)::backTo q1 (starEach [] X.env))) _ _ s
 refine Calls.spliced_cons ?_
 refine thn (zc3 hc hgs hms hsa (R:=fun ns H1=>Q (.int (Tab.dedup ns).length) H1) I h) fun v s1 ⟨r1,ns,H1,e1,I1,hn,hS1,q⟩=>?_
 subst e1
 refine Calls.spliced_nil ?_
 obtain⟨o3,es3,ep3,t3,hg3,hx3,hd3,_,_,hb3,hf3,hn3⟩:=hS1
 have hsb:scanBound=4096:=rfl
 have hdl:=Zm ns
 obtain⟨hh,gg,gd,gt,go⟩:=s1
 refine call_len_set hg3 hx3 hd3 hf3 (by omega) ?_
 refine⟨.int (Tab.dedup ns).length,H1,I1.kept (t':=gt+1+1) fun b o e=>e,⟨gt+1,?_⟩,q⟩
 rw[hn3]
end
end L2
namespace L3
open PySem PySem.Spec PyProof.Rows L2
variable [Cs]
section
variable {X:Cx}{XP:XPT}{mp:List Nat}{a:Expr}{p1 p2 q1 q2:Pos}{fa:EM FV}
noncomputable def Vs(fa:EM FV):EM FV:=fun Γ=>(fa Γ).bind fun (u,Γ1)=>match derS Γ1 u with
 |some (.tuple ds)=>match z8 ds with
  |some ns=>if ns.length<=60 then .ok (.dat (.int (Tab.dedup ns).length),Γ1) else .bad
  |none=>.bad
 |_=>.bad
theorem jw :∀ {vs:List V}{ds:List PyData}{ns:List Int},RepL M H vs ds->z8 ds=some ns->vs=ns.map V.int
 |_,_,_,.nil,e=>by cases e;rfl
 |_,_,_,.cons (ds:=ds) (d:=d) r t,e=>by
  cases d with
  |int i=>
   unfold z8 at e
   cases q:z8 ds with
   |none=>rw[q]at e;cases e
   |some ms=>
    rw[q]at e
    cases e
    cases r
    rw[xB,jw t q]
  |_=>cases e
theorem zdP (hc:X.calm=true) (hgl:Gl X "len") (hml:X.mg "len" =none) (hgs:Gl X "set") (hms:X.mg "set" =none) (ha:SE X XP mp a fa) (hsa:starEach [a] X.env= [(false,eval a X.env)]) :
  SE X XP mp (.Call (.Name "len" p1) [.Call (.Name "set" p2) [a] [] q2] [] q1) (Vs fa):=fun M0 F Γ ν σ H Q rs hs hp=>by
 refine (yP hc hgl hml hgs hms hsa).wp (ha.run rs hs hp fun F1 Γ1 H1 u v rs1 s1 o1 h1=>?_)
 dsimp only at h1
 split at h1
 ·rename_i ds ed
  split at h1
  ·rename_i ns en
   split at h1
   ·rename_i hn
    obtain⟨l,vs,rfl,el,r⟩:=(o1.strong rs1 ed).tup_inv
    have hv:=jw r en
    subst hv
    exact⟨l,ns,rfl,SqT.of el,hn,h1 F1 H1 rs1 (.refl _ _) _ (Rep.int _)⟩
   ·exact h1.elim
  ·exact h1.elim
 ·exact h1.elim
end
end L3
namespace L2
open PySem PySem.Spec PyProof.Rows
variable [Cs]
section
end
end L2
namespace L3
open PySem PySem.Spec PyProof.Rows L2
variable [Cs]
theorem ORL.appD :∀ {zs:List V}{ds:List PyData}{vs:List V}{os:List OV}{A:List Addr},RepL M H zs ds->ORL M H vs os A->ORL M H (vs++zs) (os++ds.map .d) A
 |_,_,_,_,_,.nil,h=>by simpa using h
 |_,_,vs,os,A,.cons (v:=v) (vs:=zs) (d:=d) (ds:=ds) r t,h=>by
  have:=ORL.appD t (ORL.snoc r h)
  simpa using this
section
variable {X:Cx}{XP:XPT}{mp io:List Nat}{a e:Expr}{p q1 pos px py ps:Pos}{fa:EM FV}
noncomputable def zdJ(i:Nat)(fa:EM FV):SM:=fun Γ=>if isOwn Γ i then (fa Γ).bind fun (u,Γ1)=>match derS Γ1 u,Γ1[i]? with
 |some (.list ds),some (some (.l xs))=>if xs.length+ds.length<=1000000 then .ok (.next,Γ1.set i (some (.l (xs++ds.map .d)))) else .bad
 |_,_=>.bad
 else .bad
theorem Sees.again {σ:St}{s i:Nat}(h:Sees mp ν σ)(hm:mp[s]?=some i)(hv:ν[i]?=some (some v))(hs:s<σ.length):Sees mp ν (σ.set s (some v)):=fun s' j w e1 e2=>by
 by_cases hj:s=s'
 ·subst hj
  rw[hm]at e1
  cases e1
  rw[hv]at e2
  cases e2
  rw[xl hs]
 ·rw[xj hj];exact h s' j w e1 e2
theorem zgK{s i:Nat}{x:Str}(n:NmK X mp s i x)(hN:X.N.Nodup)(hx:Loc X.env.scope x)(hf:X.fn x=true∨X.env.scope.names.lookup x=some .local)(ha:SE X XP mp a fa):SS X XP mp io (.AugAssign (.Name x p) .Add a pos) (zdJ i fa):=fun M0 F Γ ν σ H D rs hs hl hp=>by
 unfold zdJ at hp
 split at hp
 ·rename_i hw
  obtain⟨xs0,e0⟩:=wB hw
  obtain⟨a0,vs0,A0,en0,eh0,q0,_,_⟩:=ZR rs e0
  have hsl:s<σ.length:=by rw[hl];exact (xb.mp n.hN).1
  refine (zgc hN n.hN hx ze zdg hf).wp ⟨.ref a0,hs s i _ n.hm en0,?_⟩
  refine ha M0 F Γ ν σ H _ rs hs ((SPost.seq hs hl hp).mono fun F1 Γ1 H1 u rs1 s1 h1 v hv=>?_)
  dsimp only at h1
  split at h1
  ·rename_i ds xs ed ex
   split at h1
   ·rename_i hz
    obtain⟨a1,vs1,A1,en1,eh1,q1,_,_⟩:=ZR rs1 ex
    rw[en0]at en1
    cases en1
    obtain⟨l,zs,rfl,el,_,r⟩:=(hv.strong rs1 ed).lst_inv
    refine⟨a0,l,vs1,zs,rfl,rfl,eh1,el,by have:=sizeLine_eq;rw[q1.length,r.length];omega,?_⟩
    obtain⟨F2,rs2,s2⟩:=yJ rs1 ex en0 eh1 fun A qa=>ORL.appD r qa
    exact h1 F2 ν _ _ rs2 s2 (hs.again n.hm en0 hsl) (by simpa using hl) fun _ _=>rfl
   ·exact h1.elim
  ·exact h1.elim
 ·exact hp.elim
noncomputable def zbF(io:List Nat)(i j:Nat)(fa:EM FV):SM:=fun Γ=>(fa Γ).bind fun (u,Γ1)=>match derS Γ1 u with
 |some (.list (d::ds))=>if i<Γ1.length/\j<Γ1.length/\i∉io/\j∉io then .ok (.next,(Γ1.set i (some (.d d))).set j (some (.d (.list ds)))) else .bad
 |some (.tuple (d::ds))=>if i<Γ1.length/\j<Γ1.length/\i∉io/\j∉io then .ok (.next,(Γ1.set i (some (.d d))).set j (some (.d (.list ds)))) else .bad
 |_=>.bad
theorem zec{s i t j:Nat}(hc:X.calm=true)(hN:X.N.Nodup)(hn:mp.Nodup)(hi:X.N[s]?=some x)(hx:Loc X.env.scope x)(hfx:X.fn x=true∨X.env.scope.names.lookup x=some .local)(hm:mp[s]?=some i)(hj:X.N[t]?=some y)(hy:Loc X.env.scope y)(hfy:X.fn y=true∨X.env.scope.names.lookup y=some .local)(hmt:mp[t]?=some j)
  (ha:SE X XP mp a fa) (hsw:swapsWithSole [.Tuple [.Name x px,.Starred (.Name y py) ps] k p] a pos.line X.env=pure false) (hw:swappedStores [.Tuple [.Name x px,.Starred (.Name y py) ps] k p] a X.env=pure none) :
  SS X XP mp io (.Assign [.Tuple [.Name x px,.Starred (.Name y py) ps] k p] a pos) (zbF io i j fa):=fun M0 F Γ ν σ H D rs hs hl hp=>by
 have hsl:s<X.N.length:=(xb.mp hi).1
 have htl:t<X.N.length:=(xb.mp hj).1
 refine (vI ze (zdy hc hN hi hx hfx hj hy hfy) hsw hw).wp (ha M0 F Γ ν σ H _ rs hs ((SPost.seq hs hl hp).mono fun F1 Γ1 H1 u rs1 s1 h1 v hv=>?_))
 have go:∀ (d:PyData) (ds:List PyData) (l:Addr) (zs:List V),(SqL X.K H1 l zs∨SqT X.K H1 l zs)->v=.ref l->RepL (MM M0 F1) H1 zs (d::ds)->SPost M0 F1 ν H1 XP mp X.N.length io D (if i<Γ1.length/\j<Γ1.length/\i∉io/\j∉io then R.ok (FL.next,(Γ1.set i (some (.d d))).set j (some (.d (.list ds)))) else .bad)->zeN X.K s t v σ H1 fun σ' H'=>D.nx σ' H':=fun d ds l zs hq hv r h1=>by
  subst hv
  split at h1
  ·rename_i hh
   obtain⟨k1,k2,k3,k4⟩:=hh
   cases r with
   |cons r1 r2=>
    rename_i w ws
    refine⟨l,w,ws,rfl,hq,fun q hq=>?_⟩
    have sm:Same H1 (upd H1 q (.lst ws)):=zB hq
    obtain⟨F2,rs2,s2⟩:=(rs1.same sm).setD (i:=i) (r1.grow sm.grow) k1
    have hnm:¬ MM M0 F1 q:=fun z=>rs1.al q z hq
    have rl:Rep (MM M0 F1) (upd H1 q (.lst ws)) (.ref q) (.list ds):=Rep.list zk hnm (r2.grow sm.grow)
    obtain⟨F3,rs3,s3⟩:=rs2.setD (i:=j) (zw s2 (rs1.same sm).al0 rl) (by simpa using k2)
    refine h1 F3 _ _ _ rs3 (((Stp.same sm).trans s2).trans s3) ((hs.set hn hm (by rw[hl];exact hsl)).set hn hmt (by rw[uh,hl];exact htl)) (by simpa using hl) fun z hz=>?_
    rw[xj (fun e=>k4 (by rw[e];exact hz)),xj (fun e=>k3 (by rw[e];exact hz))]
  ·exact h1.elim
 dsimp only at h1
 split at h1
 ·rename_i d ds ed
  obtain⟨l,zs,e,el,_,r⟩:=(hv.strong rs1 ed).lst_inv
  exact go d ds l zs (.inl (SqL.of el)) e r h1
 ·rename_i d ds ed
  obtain⟨l,zs,e,el,r⟩:=(hv.strong rs1 ed).tup_inv
  exact go d ds l zs (.inr (SqT.of el)) e r h1
 ·exact h1.elim
end
end L3
namespace L2
open PySem PySem.Spec PyProof.Rows
variable [Cs]
section
end
end L2
namespace L3
open PySem PySem.Spec PyProof.Rows L2
variable [Cs]
section
variable {X:Cx}{XP:XPT}{mp:List Nat}{es:List Expr}
noncomputable def zfn:List Str->Str
 |[]=>Str.empty
 |x::r=>x++zfn r
theorem yX(x:Str):x++Str.empty=x:=by
 show Str.append x Str.empty=x
 cases x;simp[Str.append,Str.empty]
noncomputable def zax:EM (List Str):=fun Γ=>.ok ([],Γ)
noncomputable def SJ(X:Cx)(XP:XPT)(mp:List Nat)(es:List Expr)(f:EM (List Str)):Prop:=∀ (M0:Addr->Prop) (F:Fp) (Γ:Gv) (ν:Nu) (σ:St) (H:Hp) (acc:Str) (Q:Str->Hp->Prop),RS M0 F Γ ν H->Sees mp ν σ->acc.length+10000*es.length<=10000000 ->
 EPost M0 F ν σ H XP (fun F' Γ' H' ys=>Q (acc++zfn ys) H') (f Γ)->∀ pins s,Inv X pins σ H s->Joins (model X.prog X.w) X.A X.xe (evalEach es X.env) acc (fun out s1=>out.length<=sizeLine/\∃ H',Inv X pins σ H' s1/\Q out H') s
theorem zgE:SJ X XP mp [] zax:=fun M0 F Γ ν σ H acc Q rs hs hz hp pins s I=>by
 have:=hp F H rs (.refl _ _)
 unfold zfn at this
 rw[yX]at this
 exact⟨by have:=sizeLine_eq;omega,H,I,this⟩
end
section
end
section
end
end L3
namespace L2
open PySem PySem.Spec PyProof.Rows
variable [Cs]
section
variable {X:Cx}{E:XK}{Q:VK}{m x:Str}{o e:Expr}{pos apos:Pos}
theorem kS{A:Around}{env:Env}{args:List Expr}{Q:Value->Shared->Prop}{E:Value->Shared->Prop}{s:Shared}(hbase:attributeBase o m env (eval o env)=eval o env)(hform:methodCallForm (args.length+0) (backTo pos (starEach args env)) (backToKw pos (keywordEach [] env))=true)(hline:(apos.endLine==pos.line)=true)
  (h:wpAny (model X.prog X.w) A (eval o env) (fun ov s₁=>wpAny (model X.prog X.w) A (getMethod ov m (do return (<- importBound o env).getD true)) (fun fx s₂=>wpAny (model X.prog X.w) A (callWith pos fx.1 fx.2 (backTo pos (starEach args env)) (backToKw pos (keywordEach [] env))) Q E s₂) E s₁) E s) :
  wpAny (model X.prog X.w) A (eval (.Call (.Attribute o m apos) args [] pos) env) Q E s:=by
 rw[arm_eval_Call,hbase]
 refine wpAny_bind (wpAny_mono h (fun ov s₁ h₁=>?_) fun _ _ e=>e)
 refine wpAny_bind (wpAny_standAt ?_)
 have hform':methodCallForm (args.length+([]:List Keyword).length) (backTo pos (starEach args env)) (backToKw pos (keywordEach [] env))=true:=hform
 have hpos:methodCallPos true o env apos pos=pure pos:=by unfold methodCallPos;simp[hline]
 unfold methodCall
 rw[hform']
 exact wpAny_bind (wpAny_holding (wpAny_mono h₁ (fun fx s₂ h₂=>wpAny_bind (wpAny_of_eq hpos h₂)) fun _ _ x=>x))
end
structure KnM(P:Program)(w:World)(K:PySem.W.Frag)(mg:Str->Option Value)(base:Heap)(CX:CXT)(C:Addr)(m:Str)(k:Nat)(sp:Sp):Prop where
 ex:∃ (f:Addr) (fd:FuncData) (ps:List Str),FnOk P w K mg base CX k f fd ps sp/\Cls K C/\ze2 K C m f/\Binds K fd ps []
structure KnI(P:Program)(w:World)(K:PySem.W.Frag)(mg:Str->Option Value)(base:Heap)(CX:CXT)(C:Addr)(k:Nat)(sp:Sp):Prop where
 ex:∃ (f:Addr) (fd:FuncData) (ps:List Str),FnOk P w K mg base CX k f fd ps sp/\Mk K C f/\Binds K fd ps []
end L2
namespace L3
open PySem PySem.Spec PyProof.Rows L2
variable [Cs]
section
end
end L3
namespace L2
open PySem PySem.Spec PyProof.Rows
theorem Jt{prog:Program}{w:World}{A:Around}{E:Value->Shared->Prop}{h:Heap}{g:Array GenState}{d:Drawn}{t:Nat}{os:OsState}{nm q:Str}{C N:Addr}{bs bm bmB:List Value}
  {hdct:Bool} {sn:List Str} {sub:List Value} {ab:Bool} {col:Option Bool} {dd:Option Addr} {k0 k1 k2 k3 k5:Option Value} {B newId initId:String} (F:ExcBaseFacts B newId initId bmB) (T:OwnTail h bmB bm) {mN:Str->Option Value} {rest:List Value} {fI:Addr} {oI:Obj} {Q:PySem.Fin->Shared->Prop}
  (hC:h.get? C=some (excClassObj nm q C N bs bm hdct sn sub ab col dd k0 k1 k2 k3 k5 newId)) (hN:h.Ns N mN) (hi:mN "__init__" =some (.ref fI)) (hf:h.get? fI=some oI) (hfc:oI.cls=.type "function")
  (k:∀ h' e,Heap.MadeExcOf h h' e (.ref C) rest->h.objs.size<=e->wpAny (model prog w) A (call (.ref fI) (.ref e::rest)) (fun r s'=>r=.none/\Q (.done (.ret (.ref e))) s') E ⟨h',g,d,t,os⟩) (hlen:rest.length<=sizeLine) :
  wpAny (model prog w) A (Builtin.«type.__call__» { pos:=.ref C::rest }) Q E ⟨h,g,d,t,os⟩:=by
 unfold Builtin.«type.__call__»
 dsimp only
 repeat (first | with_reducible refine wpAny_mroOf_exc hC ?_ | with_reducible refine wpAny_madeBy_exc hC ?_ | wp_step)
 refine codeAny_call_builtin_code (Code.quiet_builtin _ F.quiet) (wpAny_check_new_subT F T hC ?_)
 refine codeAny_exc_new_subT F T hC ?_ hlen
 have hm:Heap.MadeExcOf h ((h.push { cls:=.type "tuple",data:=.seq rest.toArray }).push { cls:=.ref C,data:=.fields #[.ref h.objs.size,.none,.none,.none,.bool false,.none] }) (h.objs.size+1) (.ref C) rest:=by
  refine⟨fun b o e=>Heap.get?_push_of_some _ (Heap.get?_push_of_some _ e),Heap.get?_none_of_le (uO _),h.objs.size,?_,Heap.get?_none_of_le (xh _),Heap.get?_push_of_some _ (Heap.get?_push_size _ rfl)⟩
  have:=Heap.get?_push_size (h.push { cls:=.type "tuple",data:=.seq rest.toArray }) (o:={ cls:=.ref C,data:=.fields #[.ref h.objs.size,.none,.none,.none,.bool false,.none] }) rfl
  rw[show (h.push { cls:=.type "tuple",data:=.seq rest.toArray }).objs.size=h.objs.size+1 from by simp[Heap.push]]at this
  exact this
 have hk:wpAny (model prog w) A (call (.ref fI) ([.ref (h.objs.size+1)]++rest)) _ E _:=k _ _ hm (uO _)
 have hC':=hm.keeps _ _ hC
 have hN':=hN.keeps hm.keeps
 have T':=T.keeps hm.keeps
 have hf':=hm.keeps _ _ hf
 obtain⟨tt,he,_⟩:=hm.there
 have hy:=F.init.1
 generalize (h.push { cls:=.type "tuple",data:=.seq rest.toArray }).push { cls:=.ref C,data:=.fields #[.ref h.objs.size,.none,.none,.none,.bool false,.none] }=h' at *
 generalize h.objs.size+1=ea at *
 have hself:(Value.ref C::bm).contains (.ref C)=true:=by simp
 unfold callSpecial? specialOf
 repeat (first | (with_reducible refine wpAny_loadPart_at he ?_) | (with_reducible refine wpAny_isSubtype_exc hC' ?_;rw[hself]) | (with_reducible refine wpAny_typeLookup_tail hC' hN' T' F.mroIs hy ?_;rw[hi]) | (with_reducible refine wpAny_bindSpecial_def hf' hfc ?_) | (with_reducible refine wpAny_mono hk (fun r s' ⟨er,hq⟩=>?_) (fun _ _ e=>e);subst er) | wp_step)
 exact hq
theorem yk{prog:Program}{w:World}{A:Around}{E:Value->Shared->Prop}{h:Heap}{g:Array GenState}{d:Drawn}{t:Nat}{os:OsState}{nm q:Str}{C N:Addr}{bs bm bmB:List Value}
  {hdct:Bool} {sn:List Str} {sub:List Value} {ab:Bool} {col:Option Bool} {dd:Option Addr} {k0 k1 k2 k3 k5:Option Value} {B newId initId:String} (F:ExcBaseFacts B newId initId bmB) (T:OwnTail h bmB bm) {mN:Str->Option Value} {rest:List Value} {fI:Addr} {oI:Obj} {Q:Value->Shared->Prop}
  (hC:h.get? C=some (excClassObj nm q C N bs bm hdct sn sub ab col dd k0 k1 k2 k3 k5 newId)) (hN:h.Ns N mN) (hi:mN "__init__" =some (.ref fI)) (hf:h.get? fI=some oI) (hfc:oI.cls=.type "function")
  (k:∀ h' e,Heap.MadeExcOf h h' e (.ref C) rest->h.objs.size<=e->wpAny (model prog w) (A.under (.builtin "type.__call__" ⟨.ref C::rest,[]⟩)) (call (.ref fI) (.ref e::rest)) (fun r s'=>r=.none/\Q (.ref e) s') E ⟨h',g,d,t,os⟩) (hlen:rest.length<=sizeLine) :
  wpAny (model prog w) A (call (.ref C) rest) Q E ⟨h,g,d,t,os⟩:=by
 refine wpAny_call (codeAny_of_tree ?_)
 show wpAny (model prog w) _ (callAny (.ref C) ⟨rest,[]⟩) _ _ _
 unfold callAny callAny.viaDunder specialOf
 repeat (first | (with_reducible refine wpAny_loadPart_at hC ?_) | (with_reducible refine wpAny_of_eq tc_lookup ?_) | (with_reducible refine wpAny_of_eq (tc_bind _) ?_) | wp_step)
 refine⟨rfl,codeAny_call_builtin_at (Code.quiet_builtin _ (by decide +kernel)) entry_typeCall (wpAny_check_type_call_sub hC ?_)⟩
 exact Jt F T hC hN hi hf hfc (fun h' e hm hz=>wpAny_mono (k h' e hm hz) (fun r s' q=>q) fun _ _ q=>q) hlen
theorem zeZ:typeLookup (.type "type") "__getattribute__" =pure (some (.builtin "type.__getattribute__")):=by rfl
theorem zem:typeLookup (.type "type") "__init__" =pure (some (.builtin "type.__init__")):=by rfl
theorem zgU:typeLookup (.type "wrapper_descriptor") "__get__" =pure (some (.builtin "wrapper_descriptor.__get__")):=by rfl
theorem zgV:typeLookup (.type "wrapper_descriptor") "__set__" =pure none:=by rfl
theorem zgT:typeLookup (.type "wrapper_descriptor") "__delete__" =pure none:=by rfl
theorem zb8:typeOf (.builtin "type.__init__")=pure (.type "wrapper_descriptor"):=by rfl
theorem zb9:typeOf (.builtin "ValueError.__init__")=pure (.type "wrapper_descriptor"):=by rfl
theorem slot_tga:Slot "type" "__getattribute__" "type.__getattribute__" :=Slot.of (owner:= "type") (n:= "__getattribute__") (by rfl) (by decide +kernel) (by decide +kernel) (by decide +kernel) (.inl (by decide +kernel)) (by rfl)
theorem zaa (a b:Value):argsOk "type.__getattribute__" { pos:= [a,b] }:=by
 unfold argsOk
 rfl
theorem kG:entryFor table "type.__getattribute__" =some Builtin.«type.__getattribute__»:=entryFor_of_tree (by kernel_rfl)
section
variable {prog:Program}{w:World}{A:Around}{E:Value->Shared->Prop}{s:Shared}{K:PySem.W.Frag}{W:Addr}{o:Obj}
theorem zfo (KI:K.In s.heap) (hW:s.heap.get? W=some o) (hc:o.cls=.type "type") (hi:PySem.W.findIn K (.ref W) "__init__" =some (some (.builtin "ValueError.__init__"))){tk:Nat}{Q:PySem.Fin->Shared->Prop}
   (hop:PySem.W.Looks (model prog w) s.heap (opaqueClassAbove (.ref W)) none)
   (h:Q (.done (.ret (.builtin "ValueError.__init__"))) s):wpAny (model prog w) A (Builtin.«type.__getattribute__» ⟨[.ref W,.str "__init__" tk],[]⟩) Q E s:=by
  obtain⟨hh,g,d,t,os⟩:=s
  have hl:=PySem.W.looks_findIn (M:=model prog w) KI hi
  unfold PySem.W.Looks at hl hop
  dsimp only at hl hop hW
  unfold Builtin.«type.__getattribute__» specialOf
  dsimp only
  repeat (first | (with_reducible refine wpAny_loadPart_at hW ?_;rw[hc]) | (with_reducible refine wpAny_of_eq zem ?_) | (with_reducible refine wpAny_of_eq zgU ?_) | (with_reducible refine wpAny_of_eq zgV ?_) | (with_reducible refine wpAny_of_eq zgT ?_) | (with_reducible refine wpAny_of_eq zb8 ?_) | (with_reducible refine wpAny_of_eq zb9 ?_) | (with_reducible refine hl _ _ _ _ (fun _ _ e=>e) ?_) | (with_reducible refine hop _ _ _ _ (fun _ _ e=>e) ?_) | wp_step)
  exact h
theorem Vi (KI:K.In s.heap) (hW:s.heap.get? W=some o) (hc:o.cls=.type "type") (hi:PySem.W.findIn K (.ref W) "__init__" =some (some (.builtin "ValueError.__init__"))){Q:Value->Shared->Prop}
   (hop:PySem.W.Looks (model prog w) s.heap (opaqueClassAbove (.ref W)) none)
   (h:∀ tk,Q (.builtin "ValueError.__init__") { s with toks:=tk }):wpAny (model prog w) A (getAttr (.ref W) "__init__") Q E s:=by
  unfold getAttr getAttrBy getAttrByItsOwn hookBefore callGetattribute boundAndCalled
  repeat (first | (with_reducible refine wpAny_loadPart_at hW ?_;rw[hc]) | (with_reducible refine wpAny_of_eq zeZ ?_) | wp_step)
  refine wpAny_of_eq (slot_tga.bind _) ?_
  refine wpAny_call (codeAny_call_builtin slot_tga.plain kG (slot_tga.check _ _ _ _ _ _ _ _ ⟨o,hW,hc⟩ (zaa _ _) ?_))
  refine zfo (s:={ s with toks:=s.toks+1 }) KI hW hc hi hop ?_
  exact wpAny_of_eq (show handedOut (.builtin "ValueError.__init__")=pure (.builtin "ValueError.__init__") from by rfl) (h _)
theorem Vj (KI:K.In s.heap) (hW:s.heap.get? W=some o) (hc:o.cls=.type "type") (hi:PySem.W.findIn K (.ref W) "__init__" =some (some (.builtin "ValueError.__init__"))){Q:Value×List Value->Shared->Prop}
   (hop:PySem.W.Looks (model prog w) s.heap (opaqueClassAbove (.ref W)) none)
   (h:∀ tk,Q (.builtin "ValueError.__init__",[]) { s with toks:=tk }):wpAny (model prog w) A (getMethod (.ref W) "__init__" pl) Q E s:=by
  unfold getMethod specialOf
  repeat (first | (with_reducible refine wpAny_loadPart_at hW ?_;rw[hc]) | (with_reducible refine wpAny_of_eq zeZ ?_) | (with_reducible refine Vi KI hW hc hi hop fun tk=>?_) | wp_step)
  exact h _
end
theorem zbB (self:Value):refuseLoop self "__setattr__" bmV=pure ():=by rfl
theorem VO (T:OwnTail h bmV bm):refuseLoop self "__setattr__" bm=pure ():=by
 induction T with
 |base=>exact zbB self
 |own h1 h2 h3 _ ih=>
  unfold refuseLoop at ih |-
  rw[List.forIn_cons]
  exact ih
theorem zdL:builtinKind "object.__setattr__" =some Manifest.AttrKind.slot:=by decide +kernel
theorem zbH:splitId "object.__setattr__" =some ("object","__setattr__"):=by decide +kernel
theorem zbG:plainId "object.__setattr__" =true:=by decide +kernel
section
variable {prog:Program}{w:World}{A:Around}{E:Value->Shared->Prop}{K:PySem.W.Frag}{h:Heap}{g:Array GenState}{d:Drawn}{t:Nat}{os:OsState}{nm q:Str}{C N:Addr}{bs bm:List Value}
  {hdct:Bool} {sn:List Str} {sub:List Value} {ab:Bool} {col:Option Bool} {dd:Option Addr} {k0 k1 k2 k3 k5:Option Value} {newId:String} {ea:Addr} {fs:Array Value} {name:Str} {v:Value}
theorem Vx{o:Obj}(hC:h.get? C=some (excClassObj nm q C N bs bm hdct sn sub ab col dd k0 k1 k2 k3 k5 newId))(he:h.get? ea=some o)(hc:o.cls=.ref C)(hb:(Value.ref C::bm).contains b=true):PySem.W.Looks (model prog w) h (isInstance (.ref ea) b) true:=by
 intro A Q E s hk q
 obtain⟨h1,g,d,t,os⟩:=s
 have he':h1.get? ea=some o:=hk _ _ he
 have hC':h1.get? C=_:=hk _ _ hC
 repeat (first | (with_reducible refine wpAny_loadPart_at he' ?_;rw[hc]) | (with_reducible refine wpAny_isSubtype_exc hC' ?_;rw[hb]) | wp_step)
 exact q
theorem zdU{Q:Unit->Shared->Prop}(KI:K.In h)(T:OwnTail h bmV bm)(hC:h.get? C=some (excClassObj nm q C N bs bm true sn sub ab col dd k0 k1 k2 k3 k5 newId))(he:h.get? ea=some { cls:=.ref C,data:=.fields fs })
  (hs:PySem.W.findIn K (.ref C) "__setattr__" =some (some (.builtin "object.__setattr__"))) (hn:PySem.W.findIn K (.ref C) name=some none)
  (k:∀ h' tk,(∀ b o,b≠ea->h.get? b=some o->h'.get? b=some o)->h'.get? ea=some { cls:=.ref C,dict:=some h.objs.size,data:=.fields fs }->h'.Ns1 h.objs.size (fun y=>if y=name then some v else none)->Q () ⟨h',g,d,tk,os⟩) :
  wpAny (model prog w) A (setAttr (.ref ea) name v) Q E ⟨h,g,d,t,os⟩:=by
 have J:PySem.W.InstAt h ea { cls:=.ref C,data:=.fields fs } C none:=⟨he,rfl,rfl,trivial⟩
 refine PySem.W.set_plain (s:=⟨h,g,d,t,os⟩) KI J hs ?_
 have hb:(Value.ref C::bm).contains (.type "object")=true:=by
  have:=T.hasType (X:= "object") (b:=true) (by decide +kernel)
  rw[ut,this,Bool.or_true]
 have hin:=Vx (prog:=prog) (w:=w) (h:=h) hC he rfl hb
 refine @codeAny_call_builtin prog w A _ _ "object.__setattr__" _ Builtin.«object.__setattr__» zbG PySem.F.entry_object_setattr ?_
 have h1:=@PySem.W.check_slot (model prog w) A.in1
 refine @h1 _ ⟨h,g,d,t+1,os⟩ "object.__setattr__" "object" "__setattr__" (.ref ea) [.str name t,v] [] _ zdL zbH hin (PySem.F.args_object_setattr_3 _ _ _) ?_
 clear h1
 rw[PySem.W.osa_eq,refuse_eq]
 have hl:=PySem.W.looks_findIn (M:=model prog w) KI hn
 unfold PySem.W.Looks at hl
 have hr:refuseLoop (.ref ea) "__setattr__" (.ref C::bm)=pure ():=by
  have ih:=VO (self:=.ref ea) T
  unfold refuseLoop at ih |-
  rw[List.forIn_cons]
  exact ih
 have hlt:ea<h.objs.size:=Heap.lt_size he
 generalize hh2:((h.push { cls:=.type "dict",data:=.dict #[] }).update ea fun o=>{ o with dict:=some h.objs.size })=h2
 have hpo:∀ b o,h.get? b=some o->(h.push { cls:=.type "dict",data:=.dict #[] }).get? b=some o:=fun b o e=>Heap.get?_push_of_some _ e
 have e1:(h.push { cls:=.type "dict",data:=.dict #[] }).get? h.objs.size=some { cls:=.type "dict",data:=.dict #[] }:=Heap.get?_push_size h rfl
 have hk2:∀ b o,b≠ea->(h.push { cls:=.type "dict",data:=.dict #[] }).get? b=some o->h2.get? b=some o:=fun b o n e=>by
  rw[<- hh2];exact (Heap.get?_update_other _ _ (Ne.symm n)).trans e
 have he2:h2.get? ea=some { cls:=.ref C,dict:=some h.objs.size,data:=.fields fs }:=by
  rw[<- hh2];exact Heap.get?_update_self _ (hpo _ _ he) rfl
 have e2:=hk2 _ _ (uX hlt) e1
 have e3:h2.Ns h.objs.size (fun _=>none):=⟨_,#[],_,e2,rfl,(fun e he=>absurd he (by simp)),fun _=>rfl⟩
 have e4:=Heap.Ns1.of_empty e3
 unfold Builtin.ObjectAttr.storeTaker? Builtin.ObjectAttr.storeInOwnDict Builtin.ObjectAttr.storeInDict
 repeat (first | (with_reducible refine wpAny_loadPart_at he ?_) | (with_reducible refine wpAny_mroOf_exc hC ?_) | (with_reducible refine wpAny_of_eq hr ?_) | (with_reducible refine hl _ _ _ _ (fun _ _ e=>e) ?_) | (with_reducible refine wpAny_loadPart_at hC ?_) | (rw[hh2];with_reducible refine wpAny_nsSet1 (s:=⟨h2,g,d,t+1,os⟩) e4 fun h' hn2 hs2=>?_) | wp_step)
 obtain⟨oD,esD,epD,hoD,hdD,hcD⟩:=hn2.count (PySem.Within.cons name v (show PySem.Within (fun _=>none) [] from fun y hy=>absurd rfl hy))
 dsimp only
 refine wpAny_loadPart_at hoD ?_
 rw[show oD.data.pastItsLine=none from by rw[hdD];exact pastItsLine_dict (xH hcD (by have:=sizeLine_eq;simp))]
 refine wpAny_pure (wpAny_pure (k h' _ (fun b o n e=>?_) ((hs2.2 _ (xr hlt)).trans he2) hn2))
 exact (hs2.2 b (xr (Heap.lt_size e))).trans (hk2 b o n (hpo b o e))
theorem zaK {Q:Value->Shared->Prop}(T:OwnTail h bmV bm) (hC:h.get? C=some (excClassObj nm q C N bs bm hdct sn sub ab col dd k0 k1 k2 k3 k5 "ValueError.__new__")) (he:h.get? ea=some { cls:=.ref C,dict:=dx,data:=.fields #[.ref t0,.none,.none,.none,.bool false,.none] })
  (k:∀ h' t1,(∀ b o,b≠ea->h.get? b=some o->h'.get? b=some o)->h'.get? ea=some { cls:=.ref C,dict:=dx,data:=.fields #[.ref t1,.none,.none,.none,.bool false,.none] }->Q .none ⟨h',g,d,t,os⟩) :
  wpAny (model prog w) A (call (.builtin "ValueError.__init__") [.ref ea,z]) Q E ⟨h,g,d,t,os⟩:=by
 have F:=PySem.F.excBase_ValueError
 refine wpAny_call ?_
 refine @codeAny_call_builtin prog w A _ _ "ValueError.__init__" _ Builtin.«BaseException.__init__» F.init.plain F.initEntry (wpAny_check_init_subT F T hC he rfl ?_)
 unfold Builtin.«BaseException.__init__»
 have hlt:ea<h.objs.size:=Heap.lt_size he
 have hpo:∀ b o,h.get? b=some o->(h.push { cls:=.type "tuple",data:=.seq [z].toArray }).get? b=some o:=fun b o e=>Heap.get?_push_of_some _ e
 have he2:=hpo _ _ he
 dsimp only
 repeat (first | (with_reducible refine wpAny_field he2 rfl rfl ?_) | (with_reducible refine wpAny_setField he2 rfl (by simp) ?_) | wp_step)
 refine k _ h.objs.size (fun b o n e=>(Heap.get?_update_other _ _ (Ne.symm n)).trans (hpo b o e)) (Heap.get?_update_self _ he2 rfl)
theorem zc9:builtinKind "BaseException.__getattribute__" =some Manifest.AttrKind.slot:=by decide +kernel
theorem zaG:splitId "BaseException.__getattribute__" =some ("BaseException","__getattribute__"):=by decide +kernel
theorem zaF:plainId "BaseException.__getattribute__" =true:=by decide +kernel
theorem YF (x:Value):bindSpecial (.builtin "BaseException.__getattribute__") x=pure (.builtin "BaseException.__getattribute__",[x]):=by rfl
theorem zda{Q:Value->Shared->Prop}{oe od:Obj}{ex:Bool}(KI:K.In h)(T:OwnTail h bmV bm)(hC:h.get? C=some (excClassObj nm q C N bs bm hdct sn sub ab col dd k0 k1 k2 k3 k5 newId))(he:h.get? ea=some oe)(hc:oe.cls=.ref C)(hdx:oe.dict=some dx)(hfd:oe.data=.fields fs)
  (hd:h.get? dx=some od) (hl0:PySem.W.lookIn name od=some (some (.ref a))) (hg:PySem.W.findIn K (.ref C) "__getattribute__" =some (some (.builtin "BaseException.__getattribute__"))) (hga:PySem.W.findIn K (.ref C) "__getattr__" =some none) (hn:PySem.W.findIn K (.ref C) name=some none) (hh:PySem.W.hasDictIn K C=true)
  (k:∀ tk,Q (.ref a) ⟨h,g,d,tk,os⟩) :
  wpAny (model prog w) A (getAttr (.ref ea) name ex) Q E ⟨h,g,d,t,os⟩:=by
 have J:PySem.W.InstAt h ea oe C (some od):=⟨he,hc,by unfold PySem.W.notCls;rw[hfd],by rw[hdx];exact hd⟩
 have hb:(Value.ref C::bm).contains (.type "BaseException")=true:=by
  have:=T.hasType (X:= "BaseException") (b:=true) (by decide +kernel)
  rw[ut,this,Bool.or_true]
 have hin:=Vx (prog:=prog) (w:=w) (h:=h) hC he hc hb
 have l1:=PySem.W.looks_findIn (M:=model prog w) KI hg
 have l2:=PySem.W.looks_findIn (M:=model prog w) KI hga
 have l3:=PySem.W.looks_find (M:=model prog w) KI J (PySem.W.findObj_own hh hn rfl hl0)
 unfold PySem.W.Looks at l1 l2 l3
 have body:∀ (A:Around) tk (Q:PySem.Fin->Shared->Prop) (E:Value->Shared->Prop),Q (.done (.ret (.ref a))) ⟨h,g,d,t+1,os⟩->wpAny (model prog w) A (Builtin.«object.__getattribute__» ⟨[.ref ea,.str name tk],[]⟩) Q E ⟨h,g,d,t+1,os⟩:=fun A tk Q E hq=>by
  unfold Builtin.«object.__getattribute__»
  repeat (first | (with_reducible refine wpAny_loadPart_at he ?_;rw[hc]) | (with_reducible refine l3 _ _ _ _ (fun _ _ e=>e) ?_) | wp_step)
  exact hq
 unfold getAttr getAttrBy getAttrByItsOwn hookBefore callGetattribute boundAndCalled
 repeat (first | (with_reducible refine wpAny_loadPart_at he ?_;rw[hc]) | (with_reducible refine l1 _ _ _ _ (fun _ _ e=>e) ?_) | (with_reducible refine l2 _ _ _ _ (fun _ _ e=>e) ?_) | (with_reducible refine wpAny_of_eq (YF _) ?_) | wp_step)
 rw[show (ex&&onTheHeap (.builtin "BaseException.__getattribute__"))=false from by cases ex<;>rfl,if_neg (by decide)]
 refine wpAny_bind (wpAny_of_eq (YF _) ?_)
 refine wpAny_call ?_
 refine @codeAny_call_builtin prog w A _ _ "BaseException.__getattribute__" _ Builtin.«object.__getattribute__» zaF PySem.F.entry_bexc_ga ?_
 have h1:=@PySem.W.check_slot (model prog w) A.in1
 refine @h1 _ ⟨h,g,d,t+1,os⟩ "BaseException.__getattribute__" "BaseException" "__getattribute__" (.ref ea) [.str name t] [] _ zc9 zaG hin (PySem.F.args_bexc_ga _ _) ?_
 refine body _ _ _ _ ?_
 exact wpAny_pure (k _)
end
variable [Cs]
noncomputable def ExO(C:Addr)(dx:Option Addr)(a:Addr):HO:=.ext fun h=>∃ t,h.get? a=some { cls:=.ref C,dict:=dx,data:=.fields #[.ref t,.none,.none,.none,.bool false,.none] }
theorem yA {h:Heap}{C a t:Addr}(e:h.get? a=some { cls:=.ref C,dict:=dx,data:=.fields #[.ref t,.none,.none,.none,.bool false,.none] }):ObjOk P w H h a (ExO C dx a) :=
 ⟨⟨t,e⟩,⟨_,e⟩,fun _ _ ⟨t1,e1⟩ k=>⟨t1,k _ e1⟩⟩
noncomputable def zcI(K:PySem.W.Frag)(C f:Addr):Bool:=match K.lookup C with
 |some ⟨.type "type",_,.cls cd,sl⟩=>match cd.mro,sl.toList with
  |.ref C'::bm,[_,_,_,_,some (.builtin n),_]=>C'==C&&n== "ValueError.__new__" && !cd.hasDel&&cd.hasDict&&PySem.W.tailIn K bmV bm&&PySem.W.nsOkIn K cd.ns&&PySem.W.nsIn K cd.ns "__init__" ==some (some (.ref f))
  |_,_=>false
 |_=>false
theorem zdo{K:PySem.W.Frag}{h:Heap}(X:K.In h)(n:h.Ns N m)(q:PySem.W.nsIn K N x=some (some v)):m x=some v:=by
 obtain⟨o,es,ep,ho,hd,hk,hm⟩:=n
 have e:=hm x
 unfold nsFind findBy at e
 rw[<- Array.find?_toList]at e
 unfold PySem.W.nsIn at q
 split at q
 ·rename_i c d1 es1 ep1 sl el
  have:=X _ _ el
  rw[ho]at this
  cases this
  cases hd
  split at q
  ·rename_i y z
   rw[z]at e
   cases q
   exact e.symm
  ·split at q<;>cases q
 ·cases q
theorem ZY{K:PySem.W.Frag}{h:Heap}{C f:Addr}(X:K.In h)(q:zcI K C f=true) :
  ∃ bm N nm qn bs sn sub ab col dd k0 k1 k2 k3 k5 mN,h.get? C=some (excClassObj nm qn C N bs bm true sn sub ab col dd k0 k1 k2 k3 k5 "ValueError.__new__")/\h.Ns N mN/\mN "__init__" =some (.ref f)/\OwnTail h bmV bm:=by
 unfold zcI at q
 split at q
 ·rename_i d0 c0 s0 e0
  split at q
  ·rename_i C1 bm z0 z1 z2 z3 n1 z5 e1 e2
   simp only[xa]at q
   obtain⟨⟨⟨⟨⟨⟨q1,q2⟩,q3⟩,q7⟩,q4⟩,q5⟩,q6⟩:=q
   have r1:C1=C:=eq_of_beq q1
   have r2:n1= "ValueError.__new__" :=eq_of_beq q2
   have r3:c0.hasDel=false:=by simpa using q3
   have r6:PySem.W.nsIn K c0.ns "__init__" =some (some (.ref f)):=eq_of_beq q6
   subst r1 r2
   have r5:s0=#[z0,z1,z2,z3,some (.builtin "ValueError.__new__"),z5]:=by
    cases s0 with
    |mk l=>exact congrArg Array.mk e2
   cases c0 with
   |mk a1 a2 a3 a4 a5 a6 a7 a8 a9 a10 a11=>
    dsimp only at e1 r3 q5 r6 q7
    subst e1 r3 r5 q7
    have n:=Heap.Ns.of_isNs (PySem.W.isNs_of_in X q5)
    exact⟨_,_,_,_,_,_,_,_,_,_,_,_,_,_,_,_,X _ _ e0,n,zdo X n r6,PySem.W.tail_of_in X q4⟩
  ·cases q
 ·cases q
noncomputable def Yt (K:PySem.W.Frag) (C f W:Addr) (a:Str):Bool:=zcI K C f&&PySem.W.keepIn K (.ref C)&&PySem.W.isFn K (.ref f)&&(PySem.W.findIn K (.ref C) "__setattr__" ==some (some (.builtin "object.__setattr__")))&&(PySem.W.findIn K (.ref C) a==some none)
 && (PySem.W.findIn K (.ref C) "__getattribute__" ==some (some (.builtin "BaseException.__getattribute__")))&&(PySem.W.findIn K (.ref C) "__getattr__" ==some none)&&PySem.W.hasDictIn K C
 && (PySem.W.typeIn K (.ref W)==some (.type "type"))&&(PySem.W.findIn K (.ref W) "__init__" ==some (some (.builtin "ValueError.__init__")))&&(PySem.W.nsIn K cStatics "thirdparty.any" ==some none)
structure BarK(K:PySem.W.Frag)(C f W:Addr)(a:Str):Prop where
 cls:zcI K C f=true
 kp:PySem.W.keepIn K (.ref C)=true
 fn:PySem.W.isFn K (.ref f)=true
 sa:PySem.W.findIn K (.ref C) "__setattr__" =some (some (.builtin "object.__setattr__"))
 at':PySem.W.findIn K (.ref C) a=some none
 ga:PySem.W.findIn K (.ref C) "__getattribute__" =some (some (.builtin "BaseException.__getattribute__"))
 gh:PySem.W.findIn K (.ref C) "__getattr__" =some none
 hd:PySem.W.hasDictIn K C=true
 wt:PySem.W.typeIn K (.ref W)=some (.type "type")
 wi:PySem.W.findIn K (.ref W) "__init__" =some (some (.builtin "ValueError.__init__"))
 no:PySem.W.nsIn K cStatics "thirdparty.any" =some none
theorem BarK.of{K:PySem.W.Frag}{C f W:Addr}(h:Yt K C f W a=true):BarK K C f W a:=by
 unfold Yt at h
 simp only[xa,beq_iff_eq]at h
 obtain⟨⟨⟨⟨⟨⟨⟨⟨⟨⟨h1,h2⟩,h3⟩,h4⟩,h5⟩,h6⟩,h7⟩,h8⟩,h9⟩,h10⟩,h11⟩:=h
 exact⟨h1,h2,h3,h4,h5,h6,h7,h8,h9,h10,h11⟩
section
variable {X:Cx}{pins:List (Addr×Obj)}{σ:St}{H:Hp}{s:Shared}{C f W ea:Addr}{a:Str}{Q:VK}
theorem zg5 {p1 ap cp:Pos}(B:BarK X.K C f W a) (hg:Gl X wn) (hm:X.mg wn=some (.ref W)) (hdb:(wn==("__debug__" :Str))=false) (h:wpA X (e::es) σ H fun vs H1=>∃ ea z,vs= [.ref ea,.str z]/\H1 ea=some (ExO C none ea)/\Q .non H1)
  (hbase:attributeBase (.Name wn p1) "__init__" X.env (eval (.Name wn p1) X.env)=eval (.Name wn p1) X.env) (hform:methodCallForm ((e::es).length+0) (backTo cp (starEach (e::es) X.env)) (backToKw cp (keywordEach [] X.env))=true) (hline:(ap.endLine==cp.line)=true)
  (he:starEach (e::es) X.env=(false,eval e X.env)::starEach es X.env) (hpl:(backTo cp (starEach es X.env)).any (·.1)=false):wpE X (.Call (.Attribute (.Name wn p1) "__init__" ap) (e::es) [] cp) σ H Q:=fun pins s I=>by
 refine kS hbase hform hline (jG I hg hm ?_ hdb)
 obtain⟨oW,eW,cW⟩:∃ o,X.K.lookup W=some o/\o.cls=.type "type" :=by
  have:=B.wt
  unfold PySem.W.typeIn at this
  simpa using this
 refine Vj (K:=X.K) I.kIn (I.kIn _ _ eW) cW B.wi (PySem.W.looks_opaque I.kIn B.no) fun tk=>?_
 refine PyProof.Rows.callWith_builtin1 (thn (h cp pins _ (I.tok tk)) fun us s1 ⟨vs,H1,I1,r,ea,z,ev,hea,q⟩=>?_) he hpl
 subst ev
 obtain⟨u1,u2,rfl,r1,r2⟩:∃ u1 u2,us= [u1,u2]/\RelV (.ref ea) u1/\RelV (.str z) u2:=by
  cases r with
  |cons r1 t=>cases t with
   |cons r2 t2=>cases t2;exact⟨_,_,rfl,r1,r2⟩
 obtain rfl:u1=Value.ref ea:=r1
 obtain⟨⟨t0,e0⟩,_,_⟩:=(show ObjOk X.prog X.w H1 s1.heap ea (ExO C none ea) from I1.hok ea _ hea)
 obtain⟨bm,N,nm,qn,bs,sn,sub,ab,col,dd,k0,k1,k2,k3,k5,mN,hC,hN,hi,T⟩:=ZY I1.kIn B.cls
 refine zaK (h:=s1.heap) T hC e0 fun h' t1 kk e1=>?_
 refine⟨.non,H1,?_,rfl,q⟩
 have I2:=I1.write (x:=ea) (e:=ea) (o:=ExO C none ea) (h':=h') (t':=s1.toks) (by rw[hea];trivial) (.inl rfl) kk ⟨_,e1⟩ (yA e1)
 have eH:upd H1 ea (ExO C none ea)=H1:=by
  funext b
  by_cases hb:b=ea
  ·subst hb;rw[zk,hea]
  ·rw[zg hb]
 rw[eH]at I2
 exact I2
theorem zdW {Q:Unit->Shared->Prop}(I:Inv X pins σ H s)(B:BarK X.K C f W a)(hea:H ea=some (ExO C none ea))(ry:RelV y u)
  (h:∀ dx s',H dx=none->dx≠ea->Inv X pins σ (upd (upd H dx (.xd [(a,y)])) ea (ExO C (some dx) ea)) s'->Q () s'):wpAny (model X.prog X.w) A (setAttr (.ref ea) a u) Q E s:=by
 obtain⟨⟨t0,e0⟩,_,_⟩:=(show ObjOk X.prog X.w H s.heap ea (ExO C none ea) from I.hok ea _ hea)
 obtain⟨bm,N,nm,qn,bs,sn,sub,ab,col,dd,k0,k1,k2,k3,k5,mN,hC,hN,hi,T⟩:=ZY I.kIn B.cls
 refine zdU (h:=s.heap) I.kIn T hC e0 B.sa B.at' fun h' tk kk e1 hn=>?_
 have hlt:=Heap.lt_size e0
 have nd:s.heap.objs.size≠ea:=uX hlt
 obtain⟨h1,g1,g2⟩:=zbz h' s.heap ea _ e0
 have hx:∀ (H':Hp) (hh:Heap),(∀ o,h'.get? s.heap.objs.size=some o->hh.get? s.heap.objs.size=some o)->ObjOk X.prog X.w H' hh s.heap.objs.size (.xd [(a,y)]):=fun H' hh q=>by
  refine⟨_,hn.at fun o e=>q o e,fun g=>?_⟩
  by_cases hg:g=a
  ·subst hg
   rw[if_pos rfl,xz,beq_self_eq_true]
   exact ry
  ·rw[if_neg hg,xz,beq_eq_false_iff_ne.mpr hg]
   trivial
 have I1:=I.laid (a:=s.heap.objs.size) (o:=.xd [(a,y)]) (h':=h1) (t':=tk) (fun b o e=>by
  by_cases hb:b=ea
  ·subst hb;rw[e]at e0;cases e0;exact g1
  ·exact (g2 b hb).trans (kk b o hb e)) (xh _) (hx _ _ fun o e=>(g2 _ nd).trans e)
 have I2:=I1.write (x:=ea) (e:=ea) (o:=ExO C (some s.heap.objs.size) ea) (h':=h') (t':=tk) (by rw[zg (Ne.symm nd),hea];trivial) (.inl rfl) (fun b o hb e=>(g2 b hb).symm.trans e) ⟨_,e1⟩ (yA e1)
 exact h _ _ (I.hok.fresh (xh _)) nd I2
end
noncomputable def spB(C:Addr)(a:Str):Sp:=fun vs H Q _=>∃ ea l xs,vs= [.ref ea,.ref l]/\H ea=some (ExO C none ea)/\H l=some (.lst xs)/\∀ p dx,H p=none->H dx=none->dx≠p->p≠ea->dx≠ea->Q .non (upd (upd (upd H p (.lst xs)) dx (.xd [(a,.ref p)])) ea (ExO C (some dx) ea))
structure BarT(sc:Scope)(N:List Str)(wn a:Str)(body:List Stmt):Prop where
 ex:∃ sf x z j p1 p2 p3 p4 p5 p6 p7 p8 p9 p10 p11 p12,body= [.Expr (.Call (.Attribute (.Name wn p1) "__init__" p2) [.Name sf p3,.Constant (.str z) j p4] [] p5) p6,.Assign [.Attribute (.Name sf p7) a p8] (.Call (.Name "list" p9) [.Name x p10] [] p11) p12] /\
  (p2.endLine==p5.line)=true/\N[0]?=some sf/\N[1]?=some x/\Vis sc sf/\Vis sc x/\(sf==("__debug__" :Str))=false/\(sf==("__classdict__" :Str))=false/\(x==("__debug__" :Str))=false/\(x==("__classdict__" :Str))=false
 g1:sc.names.lookup wn=some .globalImplicit
 g2:sc.names.lookup ("list" :Str)=some .globalImplicit
 nd:(wn==("__debug__" :Str))=false
section
variable {P:Program}{w:World}{K:PySem.W.Frag}{mg:Str->Option Value}{base:Heap}{k:Nat}{C f W:Addr}{fd:FuncData}{x qual wn a:Str}{st:Stmt}{N ps:List Str}
theorem ze8 (F:Fun K x qual st f fd) (S:qN N ps (defScope st)) (hps:ps.length=2) (B:BarK K C f W a) (T:BarT (defScope st) N wn a (defBody st)) (hw:mg wn=some (.ref W)) (hl:mg "list" =none):FnOk P w K mg base (CX1 P w) (k+1) f fd ps (spB C a):=by
 obtain⟨oc,od,kV,doc,pm,an,cdv,ct,osl,rfl,lk,hcd⟩:=F.ex
 refine zaB lk hcd S (fun vs H Q E ⟨ea,l,xs,e,_⟩=>by rw[e,hps];rfl) fun A outer s H vs Q E hr hsp=>⟨_,qj,?_⟩
 obtain⟨ea,l,xs,rfl,hea,hl1,hq⟩:=hsp
 obtain⟨sf,x,z,j,p1,p2,p3,p4,p5,p6,p7,p8,p9,p10,p11,p12,eb,hline,n0,n1,v0,v1,d0,c0,d1,c1⟩:=T.ex
 rw[eb]
 generalize hX:Zv (CX1 P w) P w K mg base N qual (defScope st) f cdv A outer s H E=X
 have xK:X.K=K:=by rw[<- hX];rfl
 have xN:X.N=N:=by rw[<- hX];rfl
 have xm:X.mg=mg:=by rw[<- hX];rfl
 have xsc:X.env.scope=defScope st:=by rw[<- hX];rfl
 have gw:Gl X wn:=by unfold Gl Env.kindOf;rw[xsc];exact T.g1
 have gl:Gl X "list" :=by unfold Gl Env.kindOf;rw[xsc];exact T.g2
 have B':BarK X.K C f W a:=by rw[xK];exact B
 have s0:(start N [V.ref ea,V.ref l])[0]?=some (some (.ref ea)):=rfl
 have s1:(start N [V.ref ea,V.ref l])[1]?=some (some (.ref l)):=rfl
 have e0:PE X (.Name sf p3) (zb7 0):=qg (by rw[xN];exact n0) (by rw[xsc];exact v0) d0 c0
 have e0':PE X (.Name sf p7) (zb7 0):=qg (by rw[xN];exact n0) (by rw[xsc];exact v0) d0 c0
 have e1:PE X (.Name x p10) (zb7 1):=qg (by rw[xN];exact n1) (by rw[xsc];exact v1) d1 c1
 refine (jv (JC ze rfl) (Zo vJ)).wp ?_
 refine zg5 B' gw (by rw[xm];exact hw) T.nd ?_ rfl rfl hline rfl rfl
 refine (zo e0 (zo (ze (e:=.Constant (.str z) j p4)) pa_nil)).wp ⟨_,s0,?_⟩
 have hz:wpE X (.Constant (.str z) j p4) (start N [V.ref ea,V.ref l]) H fun v H'=>v=.str z/\H'=H:=pe_str.wp ⟨rfl,rfl⟩
 refine hz.mono fun v H' ⟨ev,eH⟩=>?_
 subst ev eH
 refine⟨ea,z,rfl,hea,?_⟩
 intro pins s2 I2
 refine plainObj_wpAny_Assign_Attribute (thn ((ju jA gl (by rw[xm];exact hl) jz (zo e1 pa_nil)).wp (Q:=fun v H1=>∃ p,v=.ref p/\H' p=none/\H1=upd H' p (.lst xs)) ⟨_,s1,l,xs,rfl,.inl (SqL.of hl1),fun p np=>⟨p,rfl,np,rfl⟩⟩ pins s2 I2) fun u s3 ⟨y,H1,I3,ry,p,ey,np,eH⟩=>thn (e0' pins s3 _ H1 (fun v H2=>v=.ref ea/\H2=H1) I3 ⟨_,s0,rfl,rfl⟩) fun ov s4 ⟨v,H2,I4,rv,ev,eH2⟩=>?_) rfl
 subst ey eH ev eH2
 obtain rfl:ov=Value.ref ea:=rv
 have npe:p≠ea:=fun z=>by rw[z,hea]at np;cases np
 refine zdW I4 B' (by rw[zg (Ne.symm npe)];exact hea) ry fun dx s5 hdx hne I5=>?_
 have hdp:dx≠p:=fun z=>by rw[z,zk]at hdx;cases hdx
 rw[zg hdp]at hdx
 exact⟨_,_,I5,hq p dx np hdx hdp npe hne⟩
end
theorem yT {A:Around}{C N:Addr}{bs bm:List Value}{Q:Flow->Shared->Prop}
  (hb:bm.contains (.type "BaseException")=true) (hh:A.handled=none) (h:wpAny M A x (fun v s₁=>∃ e t dx,v=.ref e/\s₁.heap.get? C=some (excClassObj nm q C N bs bm hdct sn sub ab col dd k0 k1 k2 k3 k5 newId) /\
   s₁.heap.get? e=some { cls:=.ref C,dict:=dx,data:=.fields #[.ref t,.none,.none,.none,.bool false,.none] }/\E (.ref e) s₁) E s):wpAny M A (raiseStmt env (some x) none) Q E s:=by
 unfold raiseStmt
 refine wpAny_bind (wpAny_mono h (fun v s₁ ⟨e,t,dx,ev,hC,he,hE⟩=>?_) fun _ _ q=>q)
 subst ev
 obtain⟨h1,g1,d1,t1,o1⟩:=s₁
 dsimp only at hC he
 have g1:(Value.ref C::bm).contains (.type "BaseException")=true:=by rw[ut,hb,Bool.or_true]
 have g2:=tc_notTuple
 unfold excFromValue isExcClass isType raisedInstance setFlight raiseNew
 repeat (first | with_reducible refine wpAny_loadPart_at he ?_ | with_reducible refine wpAny_loadPart_at hC ?_ | (with_reducible refine wpAny_isSubtype_exc hC ?_;rw[g1]) | with_reducible refine wpAny_field he rfl rfl ?_ | (with_reducible refine wpAny_handled ?_;rw[hh]) | wp_step)
 exact hE
noncomputable def rem(H:Hp)(a:Addr):Hp:=fun b=>if b=a then none else H b
theorem wO (h:b≠a):rem H a b=H b:=by unfold rem;rw[if_neg h]
theorem zgj (h:rem H a b=some o):b≠a/\H b=some o:=by
 unfold rem at h
 split at h
 ·cases h
 ·exact⟨‹_›,h⟩
theorem Qr (h:H b=none):rem H a b=none:=by
 unfold rem
 split
 ·rfl
 ·exact h
section
variable {X:Cx}{pins:List (Addr×Obj)}{σ:St}{H:Hp}{s:Shared}{C f W ea:Addr}{a c:Str}{dx:Option Addr}
theorem Inv.aside(I:Inv X pins σ H s)(hea:H ea=some (ExO C dx ea))(hz:X.s₀.heap.objs.size<=ea):Inv X pins σ (rem H ea) { s with heap:=PySem.W.hideAll s.heap [ea] }/\MadeX (PySem.W.hideAll s.heap [ea]) s.heap ea (.ref C) dx:=by
 have kk:∀ b o,b≠ea->s.heap.get? b=some o->(PySem.W.hideAll s.heap [ea]).get? b=some o:=fun b o n e=>PySem.W.hideAll_get _ e (by simpa using n)
 have n0:∀ b o,X.s₀.heap.get? b=some o->b≠ea:=fun b o e z=>absurd (Heap.lt_size e) (uS.mpr (by rw[z];exact hz))
 have nn:∀ b,H b=none->b≠ea:=fun b e z=>by rw[z,hea]at e;cases e
 refine⟨⟨I.ok,I.os,I.bare,⟨fun b o e n hb hx=>kk b o (n0 b o e) (I.base.keep b o e n hb hx),fun b o e n hb hx=>?_,fun b o e n hx=>Qr (I.base.free b o e n hx),fun b o e hx=>?_,fun b xs e=>?_,fun b o u e=>?_,fun b ps e=>?_⟩,?_,fun x c e=>?_,Qr I.free,fun x c e=>Qr (I.freeC x c e),fun p hp=>?_,fun b u e=>?_,I.len⟩,⟨fun b o e=>PySem.W.of_hideAll _ e,PySem.W.hideAll_none _ (.head _),?_⟩⟩
 ·obtain⟨sl,q⟩:=I.base.slot b o e n hb hx
  exact⟨sl,kk b _ (n0 b o e) q⟩
 ·obtain⟨o',q⟩:=I.base.there b o e hx
  exact⟨o',kk b _ (n0 b o e) q⟩
 ·have q:=I.base.tups b xs e
  rw[wO (fun z=>by rw[z,hea]at q;cases q)];exact q
 ·have q:=I.base.frzs b o u e
  rw[wO (fun z=>by rw[z,hea]at q;cases q)];exact q
 ·obtain⟨m,q⟩:=I.base.tbls b ps e
  exact⟨m,by rw[wO (fun z=>by rw[z,hea]at q;cases q)];exact q⟩
 ·obtain⟨m,⟨o,es,ep,ho,r⟩,hl⟩:=I.loc
  refine⟨m,⟨o,es,ep,kk _ _ (nn _ I.free) ho,r⟩,fun i x v e1 e2 e3=>?_⟩
  obtain⟨u,r,l⟩:=hl i x v e1 e2 e3
  refine⟨u,r,?_⟩
  rcases l with l | ⟨k,c,e,o,z,zd⟩
  ·exact .inl l
  ·exact .inr ⟨k,c,e,o,kk _ _ (nn _ (I.freeC x c e)) z,zd⟩
 ·obtain⟨v,o,ho,hd⟩:=I.cell x c e
  exact⟨v,o,kk _ _ (nn _ (I.freeC x c e)) ho,hd⟩
 ·obtain⟨q1,q2,q3⟩:=I.pin p hp
  exact⟨kk _ _ (nn _ q2) q1,Qr q2,q3⟩
 ·obtain⟨hb,e'⟩:=zgj e
  refine (I.hok b u e').stay (fun d v hd q=>kk d v ?_ q) (fun d q=>?_) fun d xs q=>?_
  ·rcases hd with rfl | hd
   ·exact hb
   ·intro z;rw[z,hea]at hd;cases hd
  ·rw[wO (fun z=>by rw[z,hea]at q;cases q)];exact q
  ·rw[wO (fun z=>by rw[z,hea]at q;cases q)];exact q
 ·obtain⟨⟨t,q⟩,_⟩:=(show ObjOk X.prog X.w H s.heap ea (ExO C dx ea) from I.hok ea _ hea)
  exact⟨t,q⟩
theorem KS {fd:FuncData}{ps:List Str}{j:Nat}{np cpos pos:Pos}{e:Expr}{D:qJ}(B:BarK X.K C f W a) (F:FnOk X.prog X.w X.K X.mg X.base (CX1 X.prog X.w) j f fd ps (spB C a)) (hps:ps.length=2) (hr:Room (j+1) X.A) (hb:Binds X.K fd ps []) (hg:Gl X c) (hm:X.mg c=some (.ref C)) (hcalm:X.calm=true) (hdb:(c==("__debug__" :Str))=false) (hst:starEach [e] X.env= [(false,eval e X.env)])
  (h:wpE X e σ H fun v H1=>∃ l xs,v=.ref l/\H1 l=some (.lst xs)/\∀ p d,H1 p=none->H1 d=none->d≠p->∀ pins s,Inv X pins σ (upd (upd H1 p (.lst xs)) d (.xd [(a,.ref p)])) s->∀ h' ea,MadeX s.heap h' ea (.ref C) (some d)->X.xe (.ref ea) { s with heap:=h' }) :
  wpS X (.Raise (some (.Call (.Name c np) [e] [] cpos)) none pos) D σ H:=fun pins s I=>by
 obtain⟨bm,N,nm,qn,bs,sn,sub,ab,col,dd,k0,k1,k2,k3,k5,mN,hC,hN,hi,T⟩:=ZY I.mod.kin B.cls
 rw[arm_exec_Raise]
 refine wpAny_bind (wpAny_standAt ?_)
 refine yT (C:=C) (nm:=nm) (q:=qn) (N:=N) (bs:=bs) (bm:=bm) (hdct:=true) (sn:=sn) (sub:=sub) (ab:=ab) (col:=col) (dd:=dd) (k0:=k0) (k1:=k1) (k2:=k2) (k3:=k3) (k5:=k5) (newId:= "ValueError.__new__") (wx T) (I.ok.hd hcalm) ?_
 refine wpAny_bind (wpAny_Call_Name_kw (jG I hg hm ?_ hdb))
 have hA:wpA X [e] σ H fun vs H1=>∃ l xs,vs= [.ref l]/\H1 l=some (.lst xs)/\∀ p d,H1 p=none->H1 d=none->d≠p->∀ pins s,Inv X pins σ (upd (upd H1 p (.lst xs)) d (.xd [(a,.ref p)])) s->∀ h' ea,MadeX s.heap h' ea (.ref C) (some d)->X.xe (.ref ea) { s with heap:=h' } :=
  (zo ze pa_nil hst).wp (h.mono fun v H' ⟨l,xs,ev,hl,q⟩=>⟨l,xs,by rw[ev],hl,q⟩)
 refine PySem.W.callWith_K (h₀:=X.base) I.ok.mod.kin B.kp (thn (hA cpos pins s I) fun us s1 ⟨vs,H1,I1,r,l,xs,el,hl,q⟩=>⟨I1.kIn,?_⟩) hst rfl
 subst el
 obtain⟨u,rfl,ru⟩:∃ u,us= [u]/\RelV (.ref l) u:=by
  cases r with
  |cons r1 t=>cases t;exact⟨_,rfl,r1⟩
 obtain⟨of,ef,cf⟩:∃ o,X.K.lookup f=some o/\o.cls=.type "function" :=by
  have:=beq_iff_eq.mp B.fn
  unfold PySem.W.typeIn at this
  simpa using this
 refine yk (h:=s1.heap) (g:=s1.gens) (d:=s1.drawn) (t:=s1.toks) (os:=s1.os) PySem.F.excBase_ValueError (T.keeps I1.bk) (I1.bk _ _ hC) (hN.keeps I1.bk) hi (I1.kIn _ _ ef) cf (fun h' ea hme hz=>?_) (by have:=sizeLine_eq;simp;omega)
 obtain⟨t0,he,_⟩:=hme.there
 have fe:H1 ea=none:=I1.hok.fresh hz
 have I2:=I1.laid (a:=ea) (o:=ExO C none ea) (h':=h') (t':=s1.toks) hme.keeps hz (yA he)
 have r2:Vals [V.ref ea,V.ref l] [Value.ref ea,u]:=.cons rfl (.cons ru .nil)
 have hq:spB C a [.ref ea,.ref l] (upd H1 ea (ExO C none ea)) (fun v H2=>v=.non/\∃ p d,H1 p=none/\H1 d=none/\d≠p/\p≠ea/\d≠ea/\H2=upd (upd (upd (upd H1 ea (ExO C none ea)) p (.lst xs)) d (.xd [(a,.ref p)])) ea (ExO C (some d) ea)) E0 :=
  ⟨ea,l,xs,rfl,zk,by rw[zg (fun z=>by rw[z,fe]at hl;cases hl)];exact hl,fun p d n1 n2 n3 n4 n5=>⟨rfl,p,d,by rwa [zg n4]at n1,by rwa [zg n5]at n2,n3,n4,n5,rfl⟩⟩
 have hb':=hb { s1 with heap:=h' } [Value.ref ea,u] I2.kIn (by simp[hps])
 rw[xX]at hb'
 refine wpAny_call (codeAny_mono (F.run _ X.stack { s1 with heap:=h' } _ ⟨[Value.ref ea,u],[]⟩ [Value.ref ea,u] _ _ E0 (hr.make C [u] []) (I2.env0.make C [u] []) hb' r2 hq) fun r s' hq'=>?_)
 cases r with
 |error e=>
  obtain⟨_,_,_,_,_,_,_,_,_,_,_,_,z⟩:=(show CX1 X.prog X.w X.stack _ _ E0 e s' from hq')
  exact z.elim
 |ok fl=>
  cases fl with
  |ret u'=>
   obtain⟨v,H',I3,rv,ev,p,d,n1,n2,n3,n4,n5,eH⟩:=I2.after hq'
   subst ev
   have hea:H' ea=some (ExO C (some d) ea):=by rw[eH];exact zk
   obtain⟨⟨t1,e1⟩,_⟩:=(show ObjOk X.prog X.w H' s'.heap ea (ExO C (some d) ea) from I3.hok ea _ hea)
   refine⟨rv,wpAny_bind (wpAny_standAt (wpAny_pure ⟨ea,t1,some d,rfl,I3.bk _ _ hC,e1,?_⟩))⟩
   obtain⟨I4,m4⟩:=I3.aside hea (xH I1.sz hz)
   have eR:rem H' ea=upd (upd H1 p (.lst xs)) d (.xd [(a,.ref p)]):=by
    rw[eH]
    funext b
    unfold rem upd
    by_cases h1:b=ea
    ·subst h1;rw[if_pos rfl,if_neg (Ne.symm n5),if_neg (Ne.symm n4),fe]
    ·rw[if_neg h1,if_neg h1]
     by_cases h2:b=d
     ·rw[if_pos h2,if_pos h2]
     ·rw[if_neg h2,if_neg h2]
      by_cases h3:b=p
      ·rw[if_pos h3,if_pos h3]
      ·rw[if_neg h3,if_neg h3,if_neg h1]
   rw[eR]at I4
   exact q p d n1 n2 n3 pins _ I4 s'.heap ea m4
  |next=>exact False.elim hq'
  |brk=>exact False.elim hq'
  |cont=>exact False.elim hq'
end
noncomputable abbrev Cx.capt(X:Cx)(n:Str)(ea:Addr)(oe:Obj):Cx:={ X with A:=X.A.mark (some (.ref ea)),calm:=false,xe:=fun _ _=>False,N:=X.N++ [n],pn:=X.pn++ [(ea,oe)] }
section
variable {X:Cx}{pins:List (Addr×Obj)}{σ σ':St}{H:Hp}{s:Shared}{n:Str}{ea:Addr}{oe:Obj}
theorem Cx.Ok.capt(ok:X.Ok):(X.capt n ea oe).Ok :=
 ⟨ok.mod,ok.kind,ok.glob,ok.blt,ok.above,ok.inj,ok.has,ok.cab,(fun z=>by cases z),ok.frames,ok.stk,ok.exf,ok.bs,ok.bsz,ok.noex,ok.exfs,ok.funs,ok.frf⟩
theorem Inv.capt(I:Inv X pins σ H s)(h1:s.heap.get? ea=some oe)(h2:H ea=none)(h3:ea≠X.env.locals)(h4:ea∉X.fs)(h5:∀ v,oe.data≠ .cell v):Inv (X.capt n ea oe) pins (σ++ [none]) H s:=by
 refine⟨I.ok.capt,I.os,I.bare,I.base,?_,I.cell,I.free,I.freeC,fun p hp=>?_,I.hok,by simp[I.len]⟩
 ·obtain⟨m,hm,hl⟩:=I.loc
  refine⟨m,hm,fun i x v e1 e2 e3=>?_⟩
  have hi:i<σ.length:=by
   by_cases q:i<σ.length
   ·exact q
   ·rw[xf (Nat.le_of_not_lt q)]at e2
    have:=xJ e2
    simp at this
  rw[xc hi]at e2
  have e1':(X.N++ [n])[i]?=some x:=e1
  rw[xc (by rw[<- I.len];exact hi)]at e1'
  exact hl i x v e1' e2 e3
 ·have hp':p∈(X.pn++ [(ea,oe)])++pins:=hp
  rw[xM,xM]at hp'
  rcases hp' with (hp | hp) | hp
  ·exact I.pin p (xq _ hp)
  ·rw[uN]at hp
   subst hp
   exact⟨h1,h2,h3,h4,h5⟩
  ·exact I.pin p (xF _ hp)
theorem Inv.uncapt {h':Heap}{t':Nat}(ok:X.Ok)(I:Inv (X.capt n ea oe) pins σ' H s)(hn:n∉X.N)(hm:s.heap.Ns X.env.locals m)(hm':h'.Ns X.env.locals fun x=>if x=n then u else m x)(hs:Heap.SameBut X.env.locals s.heap h'):Inv X pins (σ'.take X.N.length) H { s with heap:=h',toks:=t' }:=by
 have hlen:σ'.length=X.N.length+1:=by have:=I.len;simpa using this
 have hfree:H X.env.locals=none:=I.free
 have hab:X.s₀.heap.objs.size<=X.env.locals:=ok.above
 have n0:∀ b o,X.s₀.heap.get? b=some o->b≠X.env.locals:=fun b o e=>xr (xv (Heap.lt_size e) hab)
 have cne:∀ x c,X.env.cells.lookup x=some c->c≠X.env.locals:=I.cne
 refine⟨ok,I.os,I.bare,⟨fun b o e n hb hx=>(hs.2 b (n0 b o e)).trans (I.base.keep b o e n hb hx),fun b o e n hb hx=>?_,I.base.free,fun b o e hx=>?_,I.base.tups,I.base.frzs,I.base.tbls⟩,⟨_,hm',fun i x v e1 e2 e3=>?_⟩,fun x c e=>?_,I.free,I.freeC,fun p hp=>?_,fun b ob e=>?_,by simp[hlen]⟩
 ·obtain⟨sl,e1⟩:=I.base.slot b o e n hb hx
  exact⟨sl,(hs.2 b (n0 b o e)).trans e1⟩
 ·obtain⟨o',e1⟩:=I.base.there b o e hx
  exact⟨o',(hs.2 b (n0 b o e)).trans e1⟩
 ·obtain⟨m1,hm1,hl⟩:=I.loc
  have hi:i<X.N.length:=(xb.mp e1).1
  rw[xV hi]at e2
  obtain⟨u',r,l⟩:=hl i x v (by show (X.N++ [n])[i]?=some x;rw[xc hi];exact e1) e2 e3
  refine⟨u',r,?_⟩
  have hxn:x≠n:=fun z=>hn (by rw[<- z];exact xJ e1)
  rcases l with ⟨k,e⟩ | ⟨k,c,e,z⟩
  ·refine .inl ⟨k,?_⟩
   show (if x=n then u else m x)=some u'
   rw[if_neg hxn,<- hm1.agree hm x]
   exact e
  ·exact .inr ⟨k,c,e,z.sameBut hs (cne x c e)⟩
 ·obtain⟨v,z⟩:=I.cell x c e
  exact⟨v,z.sameBut hs (cne x c e)⟩
 ·obtain⟨e,n',ne,nf,d⟩:=I.pin p (by show p∈(X.pn++ [(ea,oe)])++pins;rw[xM]at hp |-;exact hp.imp (xq _) id)
  exact⟨(hs.2 p.1 ne).trans e,n',ne,nf,d⟩
 ·refine (I.hok b ob e).stay (fun c v hc q=>(hs.2 c ?_).trans q) (fun _ q=>q) fun _ _ q=>q
  rintro rfl
  rcases hc with z | z
  ·rw[<- z,hfree]at e;cases e
  ·rw[hfree]at z;cases z
theorem ObjOk.here {h:Heap}(x:ObjOk P w H h a o):∃ u,h.get? a=some u:=by
 cases o with
 |lst xs=>obtain⟨_,_,_,_,e⟩:=x;exact⟨_,e⟩
 |tup xs=>obtain⟨_,_,_,_,e,_⟩:=x;exact⟨_,e⟩
 |dK kvs=>obtain⟨_,_,_,_,o,_,_,e,_⟩:=x;exact⟨_,e⟩
 |dT kvs=>obtain⟨_,_,_,_,o,_,_,e,_⟩:=x;exact⟨_,e⟩
 |set S n=>obtain⟨o,_,_,_,e,_⟩:=x;exact⟨_,e⟩
 |ins C dx fs=>obtain⟨_,_,_,e,_⟩:=x;exact⟨_,e⟩
 |own y=>exact x
 |xd fs=>obtain⟨_,⟨_,_,_,e,_⟩,_⟩:=x;exact⟨_,e⟩
 |rng lo hi=>obtain⟨_,_,_,e⟩:=x;exact⟨_,e⟩
 |frz ob u=>obtain⟨e,_⟩:=x;exact⟨_,e⟩
 |tbl ps=>exact⟨_,(show h.get? a=some _ from x)⟩
 |met f y=>exact⟨_,(show h.get? a=some _ from x)⟩
 |ext φ=>obtain⟨_,e,_⟩:=x;exact e
theorem zeA {C f W dx p:Addr}{i:Nat}{Q:VK}{fs:Array Value}(B:BarK X.K C f W a) (hpn:(ea,oe)∈X.pn) (hc:oe.cls=.ref C) (hd:oe.dict=some dx) (hf:oe.data=.fields fs) (hN:X.N[i]?=some n) (hv:Vis X.env.scope n) (hdb:(n==("__debug__" :Str))=false) (hcd:(n==("__classdict__" :Str))=false)
  (hσ:σ[i]?=some (some (.ref ea))) (hH:H dx=some (.xd [(a,.ref p)])) (h:Q (.ref p) H):wpE X (.Attribute (.Name n pe) a q) σ H Q:=fun pins s I=>by
 refine zcH rfl (thn (qg hN hv hdb hcd pins s σ H (fun v H'=>v=.ref ea/\H'=H) I ⟨_,hσ,rfl,rfl⟩) fun u s1 ⟨v,H1,I1,r1,e1,e2⟩=>?_)
 subst e1 e2
 obtain rfl:u=Value.ref ea:=r1
 obtain⟨bm,N,nm,qn,bs,sn,sub,ab,col,dd,k0,k1,k2,k3,k5,mN,hC,hN',hi,T⟩:=ZY I1.kIn B.cls
 obtain⟨mA,hns,hr⟩:=(show ObjOk X.prog X.w H1 s1.heap dx (.xd [(a,.ref p)]) from I1.hok dx _ hH)
 obtain⟨od,ho,hl⟩:=WM hns
 have hra:=hr a
 rw[xz,beq_self_eq_true]at hra
 have hma:mA a=some (.ref p):=by
  cases q:mA a with
  |none=>rw[q]at hra;exact hra.elim
  |some u=>rw[q]at hra;exact congrArg some hra
 refine zda (h:=s1.heap) (g:=s1.gens) (d:=s1.drawn) (t:=s1.toks) (os:=s1.os) I1.kIn T hC (I1.pin _ (xq _ hpn)).1 hc hd hf ho (by rw[hl,hma]) B.ga B.gh B.at' B.hd fun tk=>?_
 exact⟨.ref p,H1,I1.tok tk,rfl,h⟩
theorem kD {C f W dx p:Addr}{a c y z:Str}{e:Value}{D:qJ}{np py pc pa pz pe pq pb hp:Pos}{cj t1 t2:Nat}{v:HC}(u:Up X pins σ H C (some dx) e s) (ok:X.Ok) (hst:X.stack=X.env::X.outer) (hf:X.env.frame=some X.env.locals) (hN:X.N.Nodup) (B:BarK X.K C f W a) (hg:Gl X c) (hm:X.mg c=some (.ref C)) (hdb:(c==("__debug__" :Str))=false)
  (hn:n∉X.N) (hnl:X.env.scope.names.lookup n=some .local) (hn1:(n==("__debug__" :Str))=false) (hn2:(n==("__classdict__" :Str))=false) (i1:X.N[t1]?=some y) (l1:Loc X.env.scope y) (f1:X.fn y=true∨X.env.scope.names.lookup y=some .local) (i2:X.N[t2]?=some z) (l2:Loc X.env.scope z) (f2:X.fn z=true∨X.env.scope.names.lookup z=some .local)
  (hH:H dx=some (.xd [(a,.ref p)])) (hD:D.nx ((σ.set t1 (some v.V)).set t2 (some (.ref p))) H) {E':Value->Shared->Prop} :
  wpAny (model X.prog X.w) X.A (noteFrame e X.env) (fun _ s₂=>wpAny (model X.prog X.w) X.A (setFlight e none) (fun _ s₃=>wpAny (model X.prog X.w) X.A (handleBy e X.env [.ExceptHandler (some (.Name c np)) (some n) [.Assign [.Name y py] (.Constant v.C cj pc) pa,.Assign [.Name z pz] (.Attribute (.Name n pe) a pq) pb] hp]) (SP X pins D) E' s₃) E' s₂) E' s:=by
 obtain⟨ea,fl,B0,rfl,al,inv⟩:=u
 have hfr:X.A.frames=some (X.env::X.outer):=by rw[<- hst];exact ok.frames
 rw[hst]at al
 refine wI hfr hf al fun h4 al4 up4=>Qu al4 fun h5 al5 up5=>?_
 have up5':=up4.trans up5
 have I5:=inv h5 al5.1 up5'
 have Im:=I5.marked (.ref ea)
 refine wpAny_handleBy_cons (codeAny_handlers_test (jG (X:=X.marked (.ref ea)) Im hg hm ?_ hdb)) (by intro q;cases q)
 obtain⟨bm,N,nm,qn,bs,sn,sub,ab,col,dd,k0,k1,k2,k3,k5,mN,gC,gN,gi,T⟩:=ZY I5.kIn B.cls
 obtain⟨_,_,_,ob,_,_,_,_,hob,⟨hobc,_⟩,_⟩:=id al5
 refine VE (h:=h5) (g:=s.gens) (d:=s.drawn) (t:=s.toks) (os:=s.os) gC gC hob hobc (wx T) (b:=true) (by simp) ?_
 refine codeAny_handlers_suite_as (Qu (s:={ s with heap:=h5 }) (fr:=none) al5 fun h6 al6 up6=>?_)
 have up6':=up5'.trans up6
 have I6:=inv h6 al6.1 up6'
 obtain⟨g1,g2,g3,oe,vs,Ta,oT,ts,he,⟨hcls,hdct⟩,hd,h1,hnT,hTe,hT,hdT,h3⟩:=al6
 have hea:H ea=none:=by
  cases q:H ea with
  |none=>rfl
  |some o=>
   have I7:=inv (PySem.W.hideAll h6 [ea]) (fun b o e=>PySem.W.hideAll_get _ (g1 b o e) (by simp;intro z;rw[z,g2]at e;cases e)) (fun b o e hnf=>by
    obtain⟨sl,e1⟩:=up6' b o e hnf
    refine⟨sl,PySem.W.hideAll_get _ e1 ?_⟩
    simp
    intro z
    rw[z,he]at e1
    cases e1
    exact hnf vs hd)
   obtain⟨u,e1⟩:=(I7.hok ea o q).here
   have:(PySem.W.hideAll h6 [ea]).get? ea=none:=PySem.W.hideAll_none _ (.head _)
   rw[this]at e1;cases e1
 have hfrm:∀ b∈frs (X.env::X.outer),b≠ea:=fun b hb zz=>by
  obtain⟨_,o,ho,hdo⟩:=g3.mem hb
  rw[zz,he]at ho
  cases ho
  exact hdo vs hd
 have hL:ea≠X.env.locals:=fun zz=>hfrm X.env.locals (by unfold frs;rw[xD,hf];exact .head _) zz.symm
 have hF:ea∉X.fs:=fun zz=>hfrm ea (by unfold frs at *;rw[xD,hf];exact .tail _ zz) rfl
 have Ic:=I6.capt (n:=n) he hea hL hF (by intro vv;rw[hd];exact fun zz=>nomatch zz)
 have hN':(X.capt n ea oe).N.Nodup:=uq.mpr ⟨hN,xG.mpr ⟨(fun zz=>nomatch zz),.nil⟩,fun b hb b' hb' zz=>by rw[uN]at hb';rw[zz,hb']at hb;exact hn hb⟩
 have hNn:(X.capt n ea oe).N[X.N.length]?=some n:=by show (X.N++ [n])[X.N.length]?=some n;simp
 have lt1:=(xb.mp i1).1
 have lt2:=(xb.mp i2).1
 have hN1:(X.capt n ea oe).N[t1]?=some y:=by show (X.N++ [n])[t1]?=some y;rw[xc lt1];exact i1
 have hN2:(X.capt n ea oe).N[t2]?=some z:=by show (X.N++ [n])[t2]?=some z;rw[xc lt2];exact i2
 have hlen:σ.length=X.N.length:=I6.len
 refine jc (X:=X.capt n ea oe) (v:=.ref ea) Ic hN' hNn (.inl hnl) rfl (fun s2 I2=>?_) (.inr hnl)
 have w:wpB (X.capt n ea oe) [.Assign [.Name y py] (.Constant v.C cj pc) pa,.Assign [.Name z pz] (.Attribute (.Name n pe) a pq) pb] { nx:=fun σ'' H''=>σ''=(((σ++ [none]).set X.N.length (some (.ref ea))).set t1 (some v.V)).set t2 (some (.ref p))/\H''=H,rt:=fun _ _=>False,bk:=fun _ _=>False,ct:=fun _ _=>False } ((σ++ [none]).set X.N.length (some (.ref ea))) H:=by
  refine (jv (QY (X:=X.capt n ea oe) hN' hN1 l1 zhR (by cases v<;>rfl) f1) (Zo (QY (X:=X.capt n ea oe) hN' hN2 l2 ze rfl f2))).wp ?_
  refine zeA (X:=X.capt n ea oe) B (xF _ (.head _)) hcls hdct hd hNn (.inl hnl) hn1 hn2 ?_ hH ⟨rfl,rfl⟩
  rw[xj (xr lt1),xl]
  simp[hlen]
 refine wpAny_mono (w pins s2 I2) (fun fl s3 q=>?_) fun _ _ zz=>zz.elim
 cases fl with
 |next=>
  obtain⟨σ3,H3,I3,e3,eH⟩:=q
  subst e3 eH
  refine wpAny_bind (wpAny_bindName (jc (X:=X.capt n ea oe) (v:=.non) I3 hN' hNn (.inl hnl) rfl (fun s4 I4=>?_) (.inr hnl)))
  obtain⟨m,hm4,hl4⟩:=I4.loc
  obtain⟨u4,_,l4⟩:=hl4 X.N.length n .non hNn (by rw[xl];simp[hlen]) (.inl hnl)
  have hmn:∃ w,m n=some w:=by
   rcases l4 with ⟨_,e⟩ | ⟨k,_⟩
   ·exact⟨_,e⟩
   ·have k':X.env.scope.names.lookup n=some .cell∨X.env.scope.names.lookup n=some .free:=k
    rw[hnl]at k'
    rcases k' with k' | k'<;>cases k'
  obtain⟨w4,hw4⟩:=hmn
  unfold unbindBehindTheSuite
  refine wpAny_onRaise (wpAny_unbindName_local (env:=X.env) (m:=m) hnl hm4 hw4 (by rw[ok.kind];rfl) fun h' uu hn' hs=>?_)
  refine⟨_,_,I4.uncapt (t':=s4.toks) ok hn hm4 hn' hs,?_⟩
  have eσ:((((((σ++ [none]).set X.N.length (some (.ref ea))).set t1 (some v.V)).set t2 (some (.ref p))).set X.N.length (some .non)).take X.N.length)=(σ.set t1 (some v.V)).set t2 (some (.ref p)):=by
   rw[<- hlen]
   simp only[List.take_set,List.take_left']
   rw[List.set_eq_of_length_le (by simp),List.set_eq_of_length_le (l:=σ) (by simp)]
  rw[eσ]
  exact hD
 |brk=>obtain⟨_,_,_,zz⟩:=q;exact zz.elim
 |cont=>obtain⟨_,_,_,zz⟩:=q;exact zz.elim
 |ret u=>obtain⟨_,_,_,_,_,zz⟩:=q;exact zz.elim
end
end L2
namespace L3
open PySem PySem.Spec PyProof.Rows L2
variable [Cs]
structure KnB(P:Program)(w:World)(K:PySem.W.Frag)(mg:Str->Option Value)(base:Heap)(c a:Str)(k:Nat)(C f W:Addr):Prop where
 adr:mg c=some (.ref C)
 bar:BarK K C f W a
 fn:∃ (j:Nat) (fd:FuncData) (ps:List Str),j+1<=k/\ps.length=2/\FnOk P w K mg base (CX1 P w) j f fd ps (spB C a)/\Binds K fd ps []
theorem KnB.mono {K:PySem.W.Frag}{k k':Nat}{C f W:Addr}(B:KnB P w K mg base c a k C f W)(h:k<=k'):KnB P w K mg base c a k' C f W:=⟨B.adr,B.bar,let ⟨j,fd,ps,hj,q⟩:=B.fn;⟨j,fd,ps,xH hj h,q⟩⟩
noncomputable def vM(c a:Str)(m:Nat)(fe:EM FV):SM:=fun Γ=>(fe Γ).bind fun (u,Γ1)=>match derL Γ1 u with
 |some ds=>if m<=Γ1.length then .exc ⟨c,.str a⟩ (Γ1++ [some (.l (ds.map .d))]) else .bad
 |none=>.bad
noncomputable def RzB(X:Cx)(XP:XPT):Prop:=∀ (c a:Str) (Γ:Gv) (F:Fp) (ν:Nu) (σ:St) (H:Hp) (d:Addr) (v:V),XP ⟨c,.str a⟩ Γ F (ν++ [some v]) σ H->H d=some (.xd [(a,v)])->∀ C,X.mg c=some (.ref C)->∀ pins s,Inv X pins σ H s->∀ h' ea,MadeX s.heap h' ea (.ref C) (some d)->X.xe (.ref ea) { s with heap:=h' }
section
variable {X:Cx}{XP:XPT}{mp io:List Nat}{c a x:Str}{C f W:Addr}{k m n:Nat}{e:Expr}{es:List Expr}{fe:EM FV}{np cpos pos p epos:Pos}
theorem Kq (B:KnB X.prog X.w X.K X.mg X.base c a k C f W) (hr:Room k X.A) (hg:Gl X c) (hcalm:X.calm=true) (hdb:(c==("__debug__" :Str))=false) (he:SE X XP mp e fe) (hst:starEach [e] X.env= [(false,eval e X.env)]) (hmp:∀ i∈mp,i<m) (hio:∀ i∈io,i<m) (rz:RzB X XP) :
  SS X XP mp io (.Raise (some (.Call (.Name c np) [e] [] cpos)) none pos) (vM c a m fe):=fun M0 F Γ ν σ H D rs hs hl hp=>by
 obtain⟨j,fd,ps,hj,hps,Fn,hb⟩:=B.fn
 refine KS B.bar Fn hps (hr.mono hj) hb hg B.adr hcalm hdb hst (he M0 F Γ ν σ H _ rs hs ((SPost.seq hs hl hp).mono fun F1 Γ1 H1 u rs1 s1 h1 v hv1=>?_))
 dsimp only at h1
 split at h1
 ·rename_i ds ed
  split at h1
  ·rename_i hm
   obtain⟨l,vs,rfl,el,r⟩:=hv1.list rs1 ed
   refine⟨l,vs,rfl,el,fun q d nq nd ne pins s I h' ea hme=>?_⟩
   obtain⟨r2,s2⟩:=rs1.newO nq r
   have nd':upd H1 q (.lst vs) d=none:=by rw[zg ne];exact nd
   have r3:=r2.same (zB (o:=.xd [(a,.ref q)]) nd')
   have hlen:ν.length=Γ1.length:=rs1.len
   refine rz c a _ _ ν σ _ d (.ref q) (h1 _ _ σ _ r3 (s2.trans (.same (zB nd'))) (fun s' i w e1 e2=>?_) hl fun i hi=>?_) zk C B.adr pins s I h' ea hme
   ·have hi:=hmp i (xJ e1)
    rw[xc (by omega)]at e2
    exact hs s' i w e1 e2
   ·have:=hio i hi
    rw[xc (by omega)]
  ·exact h1.elim
 ·exact h1.elim
noncomputable def VS(io:List Nat)(run:List OV->RF)(fl:EM (List AV))(c a:Str)(j1:Nat)(v:HC)(j2:Nat):SM:=fun Γ=>match fl Γ with
 |.ok (as,Γ1)=>match toArgs Γ1 as with
  |none=>.bad
  |some args=>if (ios as).Nodup then match run args with
   |.ok r outs=>match putBack as outs Γ1 with
    |some Γ2=>.ok (.next,Γ2.take Γ.length)
    |none=>.bad
   |.xp c' a' (.l xs) outs=>match putBack as outs Γ1 with
    |some Γ2=>if c'=c/\a'=a/\j1<(Γ2.take Γ.length).length/\j1∉io/\j2<(Γ2.take Γ.length).length/\j2∉io then .ok (.next,((Γ2.take Γ.length).set j1 (some (.d v.D))).set j2 (some (.l xs))) else .bad
    |none=>.bad
   |_=>.bad
   else .bad
 |_=>.bad
theorem zed {run:List OV->RF}{cj t1 t2 j1 j2:Nat}{v:HC}(B:KnB X.prog X.w X.K X.mg X.base c a k C f W) (kn:Kn X.prog X.w X.K X.mg X.base (CX1 X.prog X.w) x k (spX X.mg n run)) (hr:Room k X.A) (hgx:Gl X x) (hg:Gl X c) (hdb:(c==("__debug__" :Str))=false) (hdx:(x==("__debug__" :Str))=false) (hrun:Ran n run)
  (hl:∀ pins E,SA (X.tried pins E) XP0 mp (e::es) fl) (he:starEach (e::es) X.env=(false,eval e X.env)::starEach es X.env) (hpl:(backTo cpos (starEach es X.env)).any (·.1)=false)
  (hst:X.stack=X.env::X.outer) (hf:X.env.frame=some X.env.locals) (hN:X.N.Nodup) (hmn:mp.Nodup) (hn:en∉X.N) (hnl:X.env.scope.names.lookup en=some .local) (hn1:(en==("__debug__" :Str))=false) (hn2:(en==("__classdict__" :Str))=false)
  (i1:X.N[t1]?=some y) (l1:Loc X.env.scope y) (f1:X.fn y=true∨X.env.scope.names.lookup y=some .local) (m1:mp[t1]?=some j1) (i2:X.N[t2]?=some z) (l2:Loc X.env.scope z) (f2:X.fn z=true∨X.env.scope.names.lookup z=some .local) (m2:mp[t2]?=some j2) :
  SS X XP mp io (.Try [.Expr (.Call (.Name x p) (e::es) [] cpos) epos] [.ExceptHandler (some (.Name c hnp)) (some en) [.Assign [.Name y py] (.Constant v.C cj pc) pa,.Assign [.Name z pz] (.Attribute (.Name en pe) a pq) pb] hp] [] [] pos) (VS io run fl c a j1 v j2):=fun M0 F Γ ν σ H D rs hs hl0 hp0=>by
 refine zg6 fun pins=>(Zo (JC ze rfl)).wp ?_
 refine Wa (X:=X.tried pins _) (E:=fun c' dx H'=>∃ d q,c'=.ref C/\dx=some d/\H' d=some (.xd [(a,.ref q)])/\D.nx ((σ.set t1 (some v.V)).set t2 (some (.ref q))) H') kn hr hgx (fun pins' H1 s1 e' s' I hx=>?_) (hl pins _ M0 F Γ ν σ H _ rs hs ?_) hdx he hpl
 ·refine I.up hx fun c' dx H' ⟨d,q,ec,edx,hd,hD⟩ u=>?_
  subst edx
  obtain⟨ea,fl',B0,rfl,al,inv⟩:=u C ec
  have I0:=inv s'.heap al.1 (.refl _)
  have ok:X.Ok:=⟨I0.ok.mod,I0.ok.kind,I0.ok.glob,I0.ok.blt,I0.ok.above,I0.ok.inj,I0.ok.has,I0.ok.cab,I0.ok.hd,I0.ok.frames,I0.ok.stk,I0.ok.exf,I0.ok.bs,I0.ok.bsz,I0.ok.noex,I0.ok.exfs,I0.ok.funs,I0.ok.frf⟩
  exact kD (X:=X) (pins:=pins) ⟨ea,fl',B0,rfl,al,fun h6 k1 k2=>(inv h6 k1 k2).untried ok⟩ ok hst hf hN B.bar hg B.adr hdb hn hnl hn1 hn2 i1 l1 f1 i2 l2 f2 hd hD
 ·unfold VS at hp0
  generalize fl Γ=ra at hp0
  cases ra with
  |bad=>exact hp0.elim
  |exc x y=>exact hp0.elim
  |ok zz=>
   obtain⟨as,Γ1⟩:=zz
   intro F1 ν1 H1 rs1 hν s1 vs oks
   dsimp only at hp0
   split at hp0
   ·exact hp0.elim
   ·rename_i args ea
    split at hp0
    ·rename_i nd
     have hlv:vs.length=n:=by
      rw[oks.len,<- qD ea]
      refine (hrun args).1 fun zz=>?_
      rw[zz]at hp0;exact hp0.elim
     refine⟨hlv,cM M0 F1 as,cF F1 as,args,wb rs1 oks ea nd,?_⟩
     split at hp0
     ·rename_i r outs er
      rw[er]
      split at hp0
      ·rename_i Γ2 eb
       intro F' v' H' rc sc
       obtain⟨F2,rs2,s2⟩:=Zk (n:=Γ.length) rs1 oks ea nd rc sc eb hν rs.len
       obtain⟨F3,rs3,s3,_⟩:=rs2.dropD
       exact hp0 F3 ν σ H' rs3 ((s1.trans s2).trans s3) hs hl0 fun _ _=>rfl
      ·exact hp0.elim
     ·rename_i c' a' xs outs er
      rw[er]
      split at hp0
      ·rename_i Γ2 eb
       split at hp0
       ·rename_i hh
        obtain⟨rfl,rfl,q1,q2,q3,q4⟩:=hh
        intro C' hC' F' v' dx H' rc sc hdx'
        have hCC:C'=C:=by
         have:=B.adr
         rw[this]at hC'
         cases hC';rfl
        subst hCC
        obtain⟨F2,rs2,s2⟩:=Zk (n:=Γ.length) rs1 oks ea nd rc sc eb hν rs.len
        generalize Γ2.take Γ.length=Γ3 at rs2 hp0 q1 q3
        have hlen:ν.length=Γ3.length:=by have:=rs2.len;simpa using this
        obtain⟨w,ew,qw⟩:=rs2.at' Γ3.length (.l xs) (by rw[xf (xh _)];simp)
        rw[xf (by omega),hlen]at ew
        have evw:v'=w:=by simpa using ew
        subst evw
        obtain⟨q,rfl⟩:∃ q,v'=.ref q:=by
         generalize F2 Γ3.length=Az at qw
         cases qw with
         |l _ _=>exact⟨_,rfl⟩
        refine⟨dx,q,rfl,rfl,hdx',?_⟩
        obtain⟨F4,rs4,s4⟩:=rs2.setD (i:=j1) (d:=v.D) (v:=v.V) (HC.rep v) (by simp;omega)
        rw[uG _ _ q1,uG _ _ (by omega)]at rs4
        obtain⟨F5,rs5,s5⟩:=rs4.move (i:=j2) (by simpa using q3)
        have lt1:=(xb.mp i1).1
        have lt2:=(xb.mp i2).1
        refine hp0 F5 _ _ H' rs5 (((s1.trans s2).trans s4).trans s5) ((hs.set hmn m1 (by rw[hl0];exact lt1)).set hmn m2 (by rw[uh,hl0];exact lt2)) (by simpa using hl0) fun i hi=>?_
        rw[xj (fun zz=>q4 (by rw[zz];exact hi)),xj (fun zz=>q2 (by rw[zz];exact hi))]
       ·exact hp0.elim
      ·exact hp0.elim
     ·exact hp0.elim
    ·exact hp0.elim
end
end L3
namespace L2
open PySem PySem.Spec PyProof.Rows PySem.Builtin PySem.Builtin.Str
variable [Cs]
section
end
section
end
noncomputable def ItK:Bool->Heap->Addr->Addr->Nat->Prop
 |true,h,i,l,k=>h.IsTupleIter i l k
 |false,h,i,l,k=>h.IsListIter i l k
noncomputable def SqK:Bool->Heap->Addr->Array Value->Prop
 |true,h,l,xs=>h.IsTuple l xs
 |false,h,l,xs=>h.IsList l xs
noncomputable def itN:Bool->String
 |true=> "tuple_iterator"
 |false=> "list_iterator"
theorem ItK.obj {h:Heap}(x:ItK tp h i l k):∃ o,h.get? i=some o/\o.cls=.type (itN tp)/\o.data=.fields #[.ref l,.int k 0]:=by
 cases tp<;>exact x
theorem ItK.of{tp:Bool}{h:Heap}{i l:Addr}{k:Nat}(x:∃ o,h.get? i=some o/\o.cls=.type (itN tp)/\o.data=.fields #[.ref l,.int k 0]):ItK tp h i l k:=by
 cases tp<;>exact x
theorem ItK.at {h h':Heap}(x:ItK tp h i l k)(e:∀ o,h.get? i=some o->h'.get? i=some o):ItK tp h' i l k:=by
 obtain⟨o,a,b,c⟩:=x.obj
 exact .of ⟨o,e o a,b,c⟩
theorem SqK.at {h h':Heap}(x:SqK tp h l xs)(e:∀ o,h.get? l=some o->h'.get? l=some o):SqK tp h' l xs:=by
 cases tp
 ·obtain⟨o,a,b⟩:=id x;exact⟨o,e o a,b⟩
 ·obtain⟨o,a,b⟩:=id x;exact⟨o,e o a,b⟩
section
end
section
end
noncomputable def zcZ (w:World) (l:List (Str×Nat×Addr)) (ep:Nat):Obj:={ cls:=.type "dict",data:=.dict (l.map fun p=>(⟨PySem.PyData.keyHash w.params p.1,.str p.1 p.2.1,.ref p.2.2⟩:DictEntry)).toArray ep }
inductive GRows(mg:Str->Option Value):List (Str×Nat×Addr)->List (Str×Str)->Prop
 |nil:GRows mg [] []
 |cons {k f:Str} {t:Nat} {a:Addr} {l kf}:mg f=some (.ref a)->GRows mg l kf->GRows mg ((k,t,a)::l) ((k,f)::kf)
structure GD(w:World)(K:PySem.W.Frag)(mg:Str->Option Value)(x:Str)(kf:List (Str×Str)):Prop where
 ex:∃ (D:Addr) (ep:Nat) (l:List (Str×Nat×Addr)),mg x=some (.ref D)/\(D==sysModules)=false/\K.lookup D=some (zcZ w l ep)/\GRows mg l kf/\(kf.map (·.1)).Nodup
theorem GRows.keys {l:List (Str×Nat×Addr)}{kf:List (Str×Str)}(h:GRows mg l kf):l.map (·.1)=kf.map (·.1):=by
 induction h with
 |nil=>rfl
 |cons _ _ ih=>simp[ih]
theorem GRows.find {kf:List (Str×Str)}(h:GRows mg l kf)(k:Str):match kf.lookup k with
  |some f=>∃ a,mg f=some (.ref a)/\valueAt (l.map fun p=>(p.1,Value.ref p.2.2)) k=some (.ref a)
  |none=>valueAt (l.map fun p=>(p.1,Value.ref p.2.2)) k=none:=by
 induction h with
 |nil=>rfl
 | @cons k' f t a l kf hm hr ih=>
  rw[xz]
  by_cases e:k=k'
  ·subst e
   simp only[beq_self_eq_true]
   exact⟨a,hm,by simp[valueAt]⟩
  ·have e1:(k==k')=false:=by simpa using e
   rw[e1]
   have e2:valueAt (((k',t,a)::l).map fun p=>(p.1,Value.ref p.2.2)) k=valueAt (l.map fun p=>(p.1,Value.ref p.2.2)) k:=by
    unfold valueAt
    rw[xB,List.find?_cons_of_neg (by simpa using Ne.symm e)]
   rw[e2];exact ih
section
end
end L2
namespace L3
open PySem PySem.Spec PyProof.Rows L2
variable [Cs]
section
end
end L3
namespace Tab
open PySem PySem.Spec PyProof.Rows
section
end
section
end
end Tab
namespace L2
open PySem PySem.Spec PyProof.Rows
variable [Cs]
section
end
end L2
namespace L3
open PySem PySem.Spec PyProof.Rows L2
variable [Cs]
section
end
section
variable {M0:Addr->Prop}{F F':Fp}{Γ:Gv}{ν:Nu}{H:Hp}
theorem ORL.two (h:ORL M H vs [o1,o2] A):∃ v1 v2 A1 A2,vs= [v1,v2]/\A=A1++A2/\OR M H v1 o1 A1/\OR M H v2 o2 A2:=by
 cases h with
 |cons q1 h=>
  cases h with
  |cons q2 h=>
   cases h
   exact⟨_,_,_,_,rfl,by rw[xX],q1,q2⟩
theorem RS.unpair (r:RS M0 F (Γ++ [some (.t [o1,o2])]) (ν++ [some v]) H):∃ a v1 v2 F',v=.ref a/\H a=some (.tup [v1,v2])/\RS M0 F' (Γ++ [some o1]++ [some o2]) (ν++ [some v1]++ [some v2]) H/\Stp F H F' H:=by
 have hl:ν.length=Γ.length:=by have:=r.len;simp at this;omega
 obtain⟨w,ew,q⟩:=r.at' Γ.length (.t [o1,o2]) (by rw[xf (xh _)];simp)
 have e1:w=v:=by
  rw[xf (by omega),hl]at ew
  simpa using ew.symm
 subst e1
 generalize hA:F Γ.length=A at q
 cases q with
 |t ea qa=>
  rename_i a vs
  obtain⟨v1,v2,A1,A2,rfl,rfl,q1,q2⟩:=qa.two
  have nA:=r.nd Γ.length
  rw[hA,uq]at nA
  have hz:F (Γ.length+1)= []:=r.emp _ fun o z=>by rw[xy (by simp)]at z;cases z
  have sub:∀ j b,b∈zW (zW F (Γ.length+1) A2) Γ.length A1 j->(j=Γ.length/\b∈A1)∨(j=Γ.length+1/\b∈A2)∨(j≠Γ.length/\b∈F j):=fun j b h=>by
   by_cases hj:j=Γ.length
   ·subst hj;rw[zh]at h;exact .inl ⟨rfl,h⟩
   ·rw[zl hj]at h
    by_cases hj2:j=Γ.length+1
    ·subst hj2;rw[zh]at h;exact .inr (.inl ⟨rfl,h⟩)
    ·rw[zl hj2]at h;exact .inr (.inr ⟨hj,h⟩)
  have own:∀ j b,b∈zW (zW F (Γ.length+1) A2) Γ.length A1 j->∃ k,b∈F k:=fun j b h=>by
   rcases sub j b h with ⟨_,h⟩ | ⟨_,h⟩ | ⟨_,h⟩
   ·exact⟨Γ.length,by rw[hA];exact xq _ h⟩
   ·exact⟨Γ.length,by rw[hA];exact xF _ h⟩
   ·exact⟨j,h⟩
  have s:Stp F H (zW (zW F (Γ.length+1) A2) Γ.length A1) H:=⟨fun b o e n=>⟨e,fun j h=>let ⟨k,hk⟩:=own j b h;n k hk⟩,fun _ _ e=>e,fun _ h=>h⟩
  refine⟨a,v1,v2,_,rfl,ea,⟨r.al0,fun j b h=>let ⟨k,hk⟩:=own j b h;r.dis0 k b hk,fun j=>?_,fun j k b h1 h2=>?_,fun j o e=>?_,fun j h=>?_,by simp[hl]⟩,s⟩
  ·by_cases hj:j=Γ.length
   ·subst hj;rw[zh];exact nA.1
   ·rw[zl hj]
    by_cases hj2:j=Γ.length+1
    ·subst hj2;rw[zh];exact nA.2.1
    ·rw[zl hj2];exact r.nd j
  ·have big:∀ x,x∈A1∨x∈A2->x∈F Γ.length:=fun x hx=>by
    rw[hA];exact xM.mpr hx
   rcases sub j b h1 with ⟨rfl,g1⟩ | ⟨rfl,g1⟩ | ⟨n1,g1⟩<;>rcases sub k b h2 with ⟨rfl,g2⟩ | ⟨rfl,g2⟩ | ⟨n2,g2⟩
   ·rfl
   ·exact absurd rfl (nA.2.2 b g1 b g2)
   ·exact absurd (r.dis _ _ b g2 (big b (.inl g1))) n2
   ·exact absurd rfl (nA.2.2 b g2 b g1)
   ·rfl
   ·exact absurd (r.dis _ _ b g2 (big b (.inr g1))) n2
   ·exact absurd (r.dis _ _ b g1 (big b (.inl g2))) n1
   ·exact absurd (r.dis _ _ b g1 (big b (.inr g2))) n1
   ·exact r.dis j k b g1 g2
  ·by_cases hj:j=Γ.length
   ·subst hj
    rw[xR,xf (xh _)]at e
    have eo:o=o1:=by simpa using e.symm
    subst eo
    refine⟨v1,by rw[xR,<- hl,xf (xh _)];simp,?_⟩
    rw[zh]
    exact q1.go (fun _ _ x=>zw s r.al0 x) s.tups fun _ _=>rfl
   ·by_cases hj2:j=Γ.length+1
    ·subst hj2
     rw[xR,xf (by omega)]at e
     have eo:o=o2:=by simpa using e.symm
     subst eo
     refine⟨v2,by rw[xR,<- hl,xf (by omega)];simp,?_⟩
     rw[zl (by omega),zh]
     exact q2.go (fun _ _ x=>zw s r.al0 x) s.tups fun _ _=>rfl
    ·have hlt:j<Γ.length:=by
      have:=(xb.mp e).1
      simp at this;omega
     rw[xR,xc hlt]at e
     obtain⟨v,ev,q⟩:=r.at' j o (by rw[xc hlt];exact e)
     refine⟨v,by rw[xc (by omega)]at ev;rw[xR,xc (by omega)];exact ev,?_⟩
     rw[zl hj,zl hj2]
     exact q.go (fun _ _ x=>zw s r.al0 x) s.tups fun _ _=>rfl
  ·by_cases hj:j=Γ.length
   ·subst hj
    exact absurd (by rw[xR,xf (xh _)];simp) (h o1)
   ·rw[zl hj]
    by_cases hj2:j=Γ.length+1
    ·subst hj2
     exact absurd (by rw[xR,xf (by omega)];simp) (h o2)
    ·rw[zl hj2]
     refine r.emp j fun o z=>?_
     by_cases hlt:j<Γ.length
     ·rw[xc hlt]at z
      exact h o (by rw[xR,xc hlt];exact z)
     ·rw[xy (by simp;omega)]at z;cases z
end
section
variable {X:Cx}{XP:XPT}{mp io:List Nat}{a e:Expr}{pos:Pos}{fo:EM OV}
noncomputable def YU(io:List Nat)(i j:Nat)(fo:EM OV):SM:=fun Γ=>(fo Γ).bind fun (o,Γ1)=>match o with
 |.t [o1,o2]=>if i<Γ1.length/\j<Γ1.length/\i∉io/\j∉io then .ok (.next,(Γ1.set j (some o2)).set i (some o1)) else .bad
 |_=>.bad
theorem zd9{s t i j:Nat}(hc:X.calm=true)(hN:X.N.Nodup)(hi:X.N[s]?=some x)(hx:Loc X.env.scope x)(hfx:X.fn x=true∨X.env.scope.names.lookup x=some .local)(hj:X.N[t]?=some y)(hy:Loc X.env.scope y)(hfy:X.fn y=true∨X.env.scope.names.lookup y=some .local)
  (hn:mp.Nodup) (hmi:mp[s]?=some i) (hmj:mp[t]?=some j) (hst:s≠t) (h:SO X XP mp e fo) (hsw:swapsWithSole [.Tuple [.Name x px,.Name y py] kt pt] e pos.line X.env=pure false) (hw:swappedStores [.Tuple [.Name x px,.Name y py] kt pt] e X.env=pure none) :
  SS X XP mp io (.Assign [.Tuple [.Name x px,.Name y py] kt pt] e pos) (YU io i j fo):=fun M0 F Γ ν σ H D rs hs hl hp=>by
 refine (vI ze (zbq hc (wM (JB hN hi hx hfx) (wM (JB hN hj hy hfy) pgs_nil)) rfl rfl) hsw hw).wp ?_
 refine h M0 F Γ ν σ H _ rs hs ?_
 unfold YU at hp
 cases q:fo Γ with
 |bad=>rw[q]at hp;exact hp.elim
 |exc z Γ'=>
  rw[q]at hp
  intro F' H' r' s'
  exact hp F' ν σ H' r' s' hs hl fun _ _=>rfl
 |ok z=>
  obtain⟨o,Γ1⟩:=z
  rw[q]at hp
  intro F1 H1 v rs1 s1
  have hp:SPost M0 F ν H XP mp X.N.length io D (match (generalizing:=false) o with
   |.t [o1,o2]=>if i<Γ1.length/\j<Γ1.length/\i∉io/\j∉io then .ok (.next,(Γ1.set j (some o2)).set i (some o1)) else .bad
   |_=>.bad):=hp
  split at hp
  ·rename_i o1 o2
   split at hp
   ·rename_i hh
    obtain⟨h1,h2,h3,h4⟩:=hh
    have hνl:ν.length=Γ1.length:=by have:=rs1.len;simp at this;omega
    obtain⟨a,v1,v2,F2,rfl,ea,r2,s2⟩:=rs1.unpair
    obtain⟨F3,r3,s3⟩:=r2.move (i:=j) (by simp;omega)
    rw[uG _ _ h2,uG _ _ (by omega)]at r3
    obtain⟨F4,r4,s4⟩:=r3.move (i:=i) (by simp;omega)
    have hsl:s<σ.length:=by rw[hl];exact (xb.mp hi).1
    have htl:t<σ.length:=by rw[hl];exact (xb.mp hj).1
    have se:=(hs.set (v:=v2) hn hmj htl).set (v:=v1) hn hmi (by rw[uh];exact hsl)
    rw[List.set_comm _ _ hst.symm]at se
    refine⟨a,[v1,v2],rfl,SqT.of ea,rfl,v1,[v2],rfl,v2,[],rfl,rfl,?_⟩
    refine hp F4 _ _ H1 r4 (((s1.trans s2).trans s3).trans s4) se (by simp[hl]) fun k hk=>?_
    rw[xj (fun z=>h3 (by rw[z];exact hk)),xj (fun z=>h4 (by rw[z];exact hk))]
   ·exact hp.elim
  ·exact hp.elim
end
set_option genSizeOfSpec false
set_option genInjectivity false
mutual
inductive IE where
 |var (s i:Nat)
 |frz (s i:Nat)
 |cint (i:Int)
 |cstr (x:Str)
 |cbool (b:Bool)
 |cnone
 |tup (a:IL)
 |new (n:IN)
 |bin (op:Operator) (a b:IE)
 |cmp (op:CmpOp) (a b:IE)
 |chain (op op':CmpOp) (a b c:IE)
 |not (a:IE)
 |neg (a:IE)
 |and (a b:IE)
 |or (a b:IE)
 |ite (c a b:IE)
 |ix (a b:IE)
 |len (a:IE)
 |int (a:IE)
 |all (a:IE)
 |tuple (a:IE)
 |isi (T:String) (a:IE)
 |min (a b:IE)
 |max (a b:IE)
 |less (a b:IE)
 |call (o:IO)
 |callw (f:Str) (n:Nat) (a:IL)
 |lset (a:IE)
inductive IL where
 |nil
 |cons (e:IE) (a:IL)
inductive IA where
 |nil
 |cons (e:IE) (a:IA)
 |io (s i:Nat) (a:IA)
 |tmp (n:IN)
inductive IN where
 |lst (a:IL)
 |cat (a b:IE)
 |list (e:IE)
 |sorted (e:IE)
 |comp (n k:Nat) (ix:List Nat) (N':List Str) (t:IT) (src:II) (c:IC) (el:IE)
inductive IP where
 |non
 |one (e:IE)
inductive II where
 |list (e:IE)
 |tup (e:IE)
 |range (e:IE)
 |enum (e:IE)
inductive IC where
 |yes
 |one (e:IE)
inductive IO where
 |dat (e:IE)
 |own (n:IN)
 |call (f:Str) (n:Nat) (a:IA)
 |move (s i:Nat)
 |pair (e:IE) (o:IO)
inductive IJ where
 |nil
end
set_option genSizeOfSpec true
set_option genInjectivity true
noncomputable def IN.plain:IN->Bool
 |_=>true
noncomputable abbrev CF:=Str->List OV->RF
noncomputable def fNo:EM Bool:=fun _=>.bad
mutual
noncomputable def IE.ev(cf:CF):IE->EM FV×EM Bool
 |.var _ i=>(fVar i,fTru (fVar i))
 |.frz _ i=>(fFrz i,fTru (fFrz i))
 |.cint i=>(fC (.int i),fTru (fC (.int i)))
 |.cstr x=>(fC (.str x),fTru (fC (.str x)))
 |.cbool b=>(fC (.bool b),fTru (fC (.bool b)))
 |.cnone=>(fC .none,fTru (fC .none))
 |.tup a=>(fTup (a.ev cf),fTru (fTup (a.ev cf)))
 |.new n=>(fNew (n.ev cf),fTru (fNew (n.ev cf)))
 |.bin op a b=>(fBin (binD op) (a.ev cf).1 (b.ev cf).1,fTru (fBin (binD op) (a.ev cf).1 (b.ev cf).1))
 |.cmp op a b=>(fB (fCmp (cmpD op) (a.ev cf).1 (b.ev cf).1),fCmp (cmpD op) (a.ev cf).1 (b.ev cf).1)
 |.chain op op' a b c=>(fB (fChain (cmpD op) (cmpD op') (a.ev cf).1 (b.ev cf).1 (c.ev cf).1),fChain (cmpD op) (cmpD op') (a.ev cf).1 (b.ev cf).1 (c.ev cf).1)
 |.not a=>(fB (fNotT (fTru (a.ev cf).1)),fNotT (a.ev cf).2)
 |.neg a=>(f1 gNeg (a.ev cf).1,fTru (f1 gNeg (a.ev cf).1))
 |.and a b=>(fAndV (a.ev cf).1 (b.ev cf).1,fAndT (a.ev cf).2 (b.ev cf).2)
 |.or a b=>(fOrV (a.ev cf).1 (b.ev cf).1,fOrT (a.ev cf).2 (b.ev cf).2)
 |.ite c a b=>(fIf (c.ev cf).2 (a.ev cf).1 (b.ev cf).1,fNo)
 |.ix a b=>(fIx (a.ev cf).1 (b.ev cf).1,fTru (fIx (a.ev cf).1 (b.ev cf).1))
 |.len a=>(f1 gLen (a.ev cf).1,fTru (f1 gLen (a.ev cf).1))
 |.int a=>(f1 gInt (a.ev cf).1,fTru (f1 gInt (a.ev cf).1))
 |.all a=>(f1 gAll (a.ev cf).1,fTru (f1 gAll (a.ev cf).1))
 |.tuple a=>(fTupC (a.ev cf).1,fTru (fTupC (a.ev cf).1))
 |.isi T a=>(fIsi T (a.ev cf).1,fTru (fIsi T (a.ev cf).1))
 |.min a b=>(f2 gMin (a.ev cf).1 (b.ev cf).1,fTru (f2 gMin (a.ev cf).1 (b.ev cf).1))
 |.max a b=>(f2 gMax (a.ev cf).1 (b.ev cf).1,fTru (f2 gMax (a.ev cf).1 (b.ev cf).1))
 |.less a b=>(Yw (a.ev cf).1 (b.ev cf).1,fTru (Yw (a.ev cf).1 (b.ev cf).1))
 |.call o=>(fOD (o.ev cf),fTru (fOD (o.ev cf)))
 |.callw f n a=>(fCallW (cf f) (a.ev cf),fTru (fCallW (cf f) (a.ev cf)))
 |.lset a=>(Vs (a.ev cf).1,fTru (Vs (a.ev cf).1))
noncomputable def IL.ev(cf:CF):IL->EM (List FV)
 |.nil=>fNil
 |.cons e a=>fCons (e.ev cf).1 (a.ev cf)
noncomputable def IA.ev(cf:CF):IA->EM (List AV)
 |.nil=>aNil
 |.cons e a=>aCons (e.ev cf).1 (a.ev cf)
 |.io _ i a=>aIo i (a.ev cf)
 |.tmp n=>ze5 (n.ev cf)
noncomputable def IN.ev(cf:CF):IN->EM (List PyData)
 |.lst a=>fLst (a.ev cf)
 |.cat a b=>zaw (a.ev cf).1 (b.ev cf).1
 |.list e=>fListC (e.ev cf).1
 |.sorted e=>zay (e.ev cf).1
 |.comp n k _ _ t src c el=>fComp n k t (src.ev cf) (c.ev cf) (el.ev cf).1
noncomputable def IP.ev(cf:CF):IP->EM (Option Int)
 |.non=>zhs
 |.one e=>zhr (e.ev cf).1
noncomputable def II.ev(cf:CF):II->EM (List PyData)
 |.list e=>fSeqL (e.ev cf).1
 |.tup e=>fSeqT (e.ev cf).1
 |.range e=>fRange (e.ev cf).1
 |.enum e=>fEnum (e.ev cf).1
noncomputable def IC.ev(cf:CF):IC->EM Bool
 |.yes=>fYes
 |.one e=>(e.ev cf).2
noncomputable def IO.ev(cf:CF):IO->EM OV
 |.dat e=>fD (e.ev cf).1
 |.own n=>fOwn (n.ev cf)
 |.call f _ a=>fCall (cf f) (a.ev cf)
 |.move _ i=>fMove i
 |.pair e o=>Yz (e.ev cf).1 (o.ev cf)
noncomputable def IJ.ev(cf:CF):IJ->EM (List Str)
 |.nil=>zax
end
structure Wd where
 bi:List Str
 gi:List (Str×Int)
 gs:List (Str×Str)
 fl:List (Str×Nat)
 ex:List Str
 gd:List (Str×List (Str×Str))
 fk:List (Str×Str):= []
 mc:List (Str×Str×Nat):= []
 ml:List (Str×Str×Str×Nat):= []
 br:List (Str×Str):= []
noncomputable def zq:Expr->Bool
 |.Starred .. =>false
 |_=>true
noncomputable def QX:Expr->Bool
 |.UnaryOp .Not _ _=>false
 |.BoolOp .. =>false
 |.IfExp .. =>false
 |.Compare .. =>false
 |_=>true
noncomputable def jt:Expr->Bool
 |.Slice .. =>false
 |_=>true
noncomputable def jI:Expr->Bool
 |.Set .. =>false
 |_=>true
noncomputable def zaN:Expr->Bool
 |.Tuple .. =>true
 |_=>false
noncomputable def vT(sc:Scope)(x:Str):Bool:=decide (sc.names.lookup x=some .local)||decide (sc.names.lookup x=some .cell)||decide (sc.names.lookup x=some .free)
noncomputable def ZN(sc:Scope)(x:Str):Bool:=decide (sc.names.lookup x=some .globalImplicit)
noncomputable def nmB (sc:Scope) (N:List Str) (mp:List Nat) (s i:Nat) (x:Str):Bool:=decide (N[s]?=some x)&&vT sc x&&decide (mp[s]?=some i)&& !(x==("__debug__" :Str))&& !(x==("__classdict__" :Str))
noncomputable def biB(W:Wd)(sc:Scope)(x y:Str):Bool:=decide (x=y)&&ZN sc x&&W.bi.contains x
noncomputable def okO{α:Type}(o:Option α)(f:α->Bool):Bool:=match o with
 |some a=>f a
 |none=>false
theorem za{α:Type}{o:Option α}{f:α->Bool}(h:okO o f=true):∃ a,o=some a/\f a=true:=by
 cases o with
 |none=>cases h
 |some a=>exact⟨a,rfl,h⟩
noncomputable def zL:Expr->Option (Str×Pos)
 |.Name x p=>some (x,p)
 |_=>none
noncomputable def Qw:Expr->Option (Const×Nat×Pos)
 |.Constant c j p=>some (c,j,p)
 |_=>none
noncomputable def zfe:Const->Option Int
 |.int i=>some i
 |_=>none
noncomputable def ky:Const->Option Str
 |.str i=>some i
 |_=>none
noncomputable def Yu:Const->Option Bool
 |.bool i=>some i
 |_=>none
noncomputable def zeK:Const->Bool
 |.none=>true
 |_=>false
noncomputable def W2:Expr->Option (List Expr×Nat×Pos)
 |.Tuple es n p=>some (es,n,p)
 |_=>none
noncomputable def zci:Expr->Option (List Expr×Pos)
 |.List es p=>some (es,p)
 |_=>none
noncomputable def WZ:Expr->Option (Expr×Operator×Expr×Pos)
 |.BinOp x op y p=>some (x,op,y,p)
 |_=>none
noncomputable def Y2:Expr->Option (Expr×List CmpOp×List Expr×Pos)
 |.Compare x ops ys p=>some (x,ops,ys,p)
 |_=>none
noncomputable def zeq:Expr->Option (UnaryOp×Expr×Pos)
 |.UnaryOp op x p=>some (op,x,p)
 |_=>none
noncomputable def zen:Expr->Option (BoolOp×List Expr×Pos)
 |.BoolOp op vs p=>some (op,vs,p)
 |_=>none
noncomputable def zcg:Expr->Option (Expr×Expr×Expr×Pos)
 |.IfExp z x y p=>some (z,x,y,p)
 |_=>none
noncomputable def Y4:Expr->Option (Expr×Expr×Pos)
 |.Subscript x y p=>some (x,y,p)
 |_=>none
noncomputable def Jk:Expr->Option (Expr×List Expr×List Keyword×Pos)
 |.Call f xs ks q=>some (f,xs,ks,q)
 |_=>none
noncomputable def Jj:Expr->Option (Expr×Str×Pos)
 |.Attribute x f p=>some (x,f,p)
 |_=>none
noncomputable def Y3:Expr->Option (Expr×List Comprehension×Scope×Pos)
 |.ListComp elt gens scope p=>some (elt,gens,scope,p)
 |_=>none
theorem zn (h:zL e=some (x,p)):e=.Name x p:=by
 unfold zL at h
 split at h
 ·cases h;rfl
 ·cases h
theorem qE (h:Qw e=some (c,j,p)):e=.Constant c j p:=by
 unfold Qw at h
 split at h
 ·cases h;rfl
 ·cases h
theorem zaj (h:zfe c=some i):c=.int i:=by
 unfold zfe at h
 split at h
 ·cases h;rfl
 ·cases h
theorem Qd (h:ky c=some i):c=.str i:=by
 unfold ky at h
 split at h
 ·cases h;rfl
 ·cases h
theorem Wz (h:Yu c=some i):c=.bool i:=by
 unfold Yu at h
 split at h
 ·cases h;rfl
 ·cases h
theorem kr (h:zeK c=true):c=.none:=by cases c<;>first | rfl | cases h
theorem Zt (h:W2 e=some (es,n,p)):e=.Tuple es n p:=by
 unfold W2 at h
 split at h
 ·cases h;rfl
 ·cases h
theorem KE (h:zci e=some (es,p)):e=.List es p:=by
 unfold zci at h
 split at h
 ·cases h;rfl
 ·cases h
theorem QZ (h:WZ e=some (x,op,y,p)):e=.BinOp x op y p:=by
 unfold WZ at h
 split at h
 ·cases h;rfl
 ·cases h
theorem W0 (h:Y2 e=some (x,ops,ys,p)):e=.Compare x ops ys p:=by
 unfold Y2 at h
 split at h
 ·cases h;rfl
 ·cases h
theorem V4 (h:zeq e=some (op,x,p)):e=.UnaryOp op x p:=by
 unfold zeq at h
 split at h
 ·cases h;rfl
 ·cases h
theorem zce (h:zen e=some (op,vs,p)):e=.BoolOp op vs p:=by
 unfold zen at h
 split at h
 ·cases h;rfl
 ·cases h
theorem KC (h:zcg e=some (z,x,y,p)):e=.IfExp z x y p:=by
 unfold zcg at h
 split at h
 ·cases h;rfl
 ·cases h
theorem W1 (h:Y4 e=some (x,y,p)):e=.Subscript x y p:=by
 unfold Y4 at h
 split at h
 ·cases h;rfl
 ·cases h
theorem Q0 {ks:List Keyword}(h:Jk e=some (f,xs,ks,p)):e=.Call f xs ks p:=by
 unfold Jk at h
 split at h
 ·cases h;rfl
 ·cases h
theorem Zs (h:Jj e=some (x,f,p)):e=.Attribute x f p:=by
 unfold Jj at h
 split at h
 ·cases h;rfl
 ·cases h
theorem KD (h:Y3 e=some (elt,gens,scope,p)):e=.ListComp elt gens scope p:=by
 unfold Y3 at h
 split at h
 ·cases h;rfl
 ·cases h
noncomputable def unN(e:Expr):Option (Str×Pos×List Expr×Pos):=(Jk e).bind fun (f,xs,ks,q)=>match ks with
 |[]=>(zL f).map fun (x,p)=>(x,p,xs,q)
 |_::_=>none
theorem Qx (h:unN e=some (f,p,xs,q)):e=.Call (.Name f p) xs [] q:=by
 unfold unN at h
 cases e1:Jk e with
 |none=>rw[e1]at h;cases h
 |some z=>
  obtain⟨g,ys,ks,q'⟩:=z
  rw[e1]at h
  cases ks with
  |cons _ _=>cases h
  |nil=>
   cases e2:zL g with
   |none=>simp[e2]at h
   |some z=>
    obtain⟨x,p'⟩:=z
    simp[e2]at h
    obtain⟨rfl,rfl,rfl,rfl⟩:=h
    rw[Q0 e1,zn e2]
noncomputable def Jr{α:Type}:List α->Option α
 |[x]=>some x
 |_=>none
theorem qG{α:Type}{l:List α}{x:α}(h:Jr l=some x):l= [x]:=by
 match l,h with
 |[_],h=>cases h;rfl
noncomputable def Wk{α:Type}:List α->Option (α×α)
 |[x,y]=>some (x,y)
 |_=>none
theorem qI{α:Type}{l:List α}{x y:α}(h:Wk l=some (x,y)):l= [x,y]:=by
 match l,h with
 |[_,_],h=>cases h;rfl
noncomputable def un1(e:Expr):Option (Str×Pos×Expr×Pos):=(unN e).bind fun (f,p,xs,q)=>(Jr xs).map fun x=>(f,p,x,q)
theorem zV (h:un1 e=some (f,p,x,q)):e=.Call (.Name f p) [x] [] q:=by
 unfold un1 at h
 cases e1:unN e with
 |none=>rw[e1]at h;cases h
 |some z=>
  obtain⟨g,p',xs,q'⟩:=z
  cases e2:Jr xs with
  |none=>simp[e1,e2]at h
  |some y=>
   simp[e1,e2]at h
   obtain⟨rfl,rfl,rfl,rfl⟩:=h
   rw[Qx e1,qG e2]
noncomputable def un2(e:Expr):Option (Str×Pos×Expr×Expr×Pos):=(unN e).bind fun (f,p,xs,q)=>(Wk xs).map fun (x,y)=>(f,p,x,y,q)
theorem vR (h:un2 e=some (f,p,x,y,q)):e=.Call (.Name f p) [x,y] [] q:=by
 unfold un2 at h
 cases e1:unN e with
 |none=>rw[e1]at h;cases h
 |some z=>
  obtain⟨g,p',xs,q'⟩:=z
  cases e2:Wk xs with
  |none=>simp[e1,e2]at h
  |some y=>
   obtain⟨y1,y2⟩:=y
   simp[e1,e2]at h
   obtain⟨rfl,rfl,rfl,rfl,rfl⟩:=h
   rw[Qx e1,qI e2]
noncomputable def zep(e:Expr):Option (Str×Pos×Str×Pos×List Expr×Pos):=(Jk e).bind fun (f,xs,ks,q)=>match ks with
 |[]=>(Jj f).bind fun (x,m,p2)=>(zL x).map fun (y,p)=>(y,p,m,p2,xs,q)
 |_::_=>none
theorem zcj (h:zep e=some (x,p,f,p2,xs,q)):e=.Call (.Attribute (.Name x p) f p2) xs [] q:=by
 unfold zep at h
 cases e1:Jk e with
 |none=>rw[e1]at h;cases h
 |some z=>
  obtain⟨g,ys,ks,q'⟩:=z
  rw[e1]at h
  cases ks with
  |cons _ _=>cases h
  |nil=>
   cases e2:Jj g with
   |none=>simp[e2]at h
   |some z=>
    obtain⟨y,m,p3⟩:=z
    cases e3:zL y with
    |none=>simp[e2,e3]at h
    |some z=>
     obtain⟨y',p'⟩:=z
     simp[e2,e3]at h
     obtain⟨rfl,rfl,rfl,rfl,rfl,rfl⟩:=h
     rw[Q0 e1,Zs e2,zn e3]
noncomputable def Ya(e:Expr):Option (Str×Str×Str×Expr×Expr×Pos×Pos×Pos×Pos×Pos×Pos×Pos):=(un1 e).bind fun (f,p1,b,q1)=>(WZ b).bind fun (x,op,y,pb)=>(un1 x).bind fun (g,p2,x',q2)=>(un1 y).bind fun (h,p3,y',q3)=>match op with
 |.Sub=>some (f,g,h,x',y',p1,p2,p3,q1,q2,q3,pb)
 |_=>none
theorem Yb (hh:Ya e=some (f,g,h,x,y,p1,p2,p3,q1,q2,q3,pb)):e=.Call (.Name f p1) [.BinOp (.Call (.Name g p2) [x] [] q2) .Sub (.Call (.Name h p3) [y] [] q3) pb] [] q1:=by
 unfold Ya at hh
 cases e1:un1 e with
 |none=>rw[e1]at hh;cases hh
 |some z1=>
  obtain⟨a1,a2,a3,a4⟩:=z1
  cases e2:WZ a3 with
  |none=>simp[e1,e2]at hh
  |some z2=>
   obtain⟨b1,b2,b3,b4⟩:=z2
   cases e3:un1 b1 with
   |none=>simp[e1,e2,e3]at hh
   |some z3=>
    obtain⟨c1,c2,c3,c4⟩:=z3
    cases e4:un1 b3 with
    |none=>simp[e1,e2,e3,e4]at hh
    |some z4=>
     obtain⟨d1,d2,d3,d4⟩:=z4
     cases b2 with
     |Sub=>
      simp[e1,e2,e3,e4]at hh
      obtain⟨rfl,rfl,rfl,rfl,rfl,rfl,rfl,rfl,rfl,rfl,rfl,rfl⟩:=hh
      rw[zV e1,QZ e2,zV e3,zV e4]
     |_=>simp[e1,e2,e3,e4]at hh
noncomputable def zgY(e:Expr):Option (Expr×Expr×Expr×List Expr×Scope×Pos):=(Y3 e).bind fun (elt,gens,scope,p)=>(Jr gens).bind fun g=>if g.is_async=0 then some (elt,g.target,g.iter,g.ifs,scope,p) else none
theorem zch (h:zgY e=some (elt,tg,iter,ifs,scope,p)):e=.ListComp elt [⟨tg,iter,ifs,0⟩] scope p:=by
 unfold zgY at h
 cases e1:Y3 e with
 |none=>rw[e1]at h;cases h
 |some z=>
  obtain⟨a1,a2,a3,a4⟩:=z
  cases e2:Jr a2 with
  |none=>simp[e1,e2]at h
  |some g=>
   obtain⟨g1,g2,g3,g4⟩:=g
   by_cases hz:g4=0
   ·subst hz
    simp[e1,e2]at h
    obtain⟨rfl,rfl,rfl,rfl,rfl,rfl⟩:=h
    rw[KD e1,qG e2]
   ·simp[e1,e2,hz]at h
noncomputable def Y1(op:BoolOp)(e:Expr):Option (Expr×Expr):=(zen e).bind fun (o,vs,p)=>if o=op then (match vs with
 |x::y:: []=>some (x,y)
 |x::y::z::r=>some (x,.BoolOp op (y::z::r) p)
 |_=>none) else none
theorem WY (h:Y1 op e=some (x,z)):(∃ p,e=.BoolOp op [x,z] p)∨∃ y w r p,e=.BoolOp op (x::y::w::r) p/\z=.BoolOp op (y::w::r) p:=by
 unfold Y1 at h
 cases e1:zen e with
 |none=>rw[e1]at h;cases h
 |some q=>
  obtain⟨o,vs,p⟩:=q
  rw[zce e1]
  by_cases ho:o=op
  ·subst ho
   match vs with
   |[]=>simp[e1]at h
   |[_]=>simp[e1]at h
   |[a,b]=>
    simp[e1]at h
    obtain⟨rfl,rfl⟩:=h
    exact .inl ⟨p,rfl⟩
   |a::b::c::r=>
    simp[e1]at h
    obtain⟨rfl,rfl⟩:=h
    exact .inr ⟨b,c,r,p,rfl,rfl⟩
  ·simp[e1,ho]at h
mutual
noncomputable def va(sc:Scope)(N:List Str)(mp:List Nat)(lo:Nat):IT->Expr->Bool
 |.nm s i,.Name x _=>decide (N[s]?=some x)&&decide (mp[s]?=some i)&&decide (lo<=i)&&(decide (sc.names.lookup x=some .local)||decide (sc.names.lookup x=some .cell))
 |.tp ts,.Tuple es _ _=>WD sc N mp lo ts es
 |_,_=>false
noncomputable def WD(sc:Scope)(N:List Str)(mp:List Nat)(lo:Nat):ITs->List Expr->Bool
 |.nil,[]=>true
 |.cons t ts,e::es=>zq e&&va sc N mp lo t e&&WD sc N mp lo ts es
 |_,_=>false
end
noncomputable def zgZ(e:Expr):Option (Expr×Str×Pos×List Expr×Pos):=(Jk e).bind fun (f,xs,ks,q)=>match ks with
 |[]=>(Jj f).map fun (x,m,p2)=>(x,m,p2,xs,q)
 |_::_=>none
theorem zck (h:zgZ e=some (o,m,p2,xs,q)):e=.Call (.Attribute o m p2) xs [] q:=by
 unfold zgZ at h
 cases e1:Jk e with
 |none=>rw[e1]at h;cases h
 |some w=>
  obtain⟨f,ys,ks,q'⟩:=w
  rw[e1]at h
  cases ks with
  |cons _ _=>cases h
  |nil=>
   cases e2:Jj f with
   |none=>simp[e2]at h
   |some w=>
    obtain⟨x,m',p2'⟩:=w
    simp[e2]at h
    obtain⟨rfl,rfl,rfl,rfl,rfl⟩:=h
    rw[Q0 e1,Zs e2]
mutual
noncomputable def IE.chk(W:Wd)(sc:Scope)(N:List Str)(mp:List Nat)(m:Nat):IE->Expr->Bool
 |.var s i,e=>okO (zL e) fun x=>nmB sc N mp s i x.1
 |.frz s i,e=>okO (zL e) fun x=>nmB sc N mp s i x.1
 |.cint i,e=>okO (Qw e) fun c=>okO (zfe c.1) fun j=>decide (i=j)
 |.cstr x,e=>okO (Qw e) fun c=>okO (ky c.1) fun y=>decide (x=y)
 |.cbool b,e=>okO (Qw e) fun c=>okO (Yu c.1) fun y=>decide (b=y)
 |.cnone,e=>okO (Qw e) fun c=>zeK c.1
 |.tup a,e=>okO (W2 e) fun es=>a.chk W sc N mp m es.1
 |.new n,e=>QX e&&n.chk W sc N mp m e
 |.bin op a b,e=>okO (WZ e) fun z=>decide (op=z.2.1)&&a.chk W sc N mp m z.1&&b.chk W sc N mp m z.2.2.1
 |.cmp op a b,e=>okO (Y2 e) fun z=>okO (Jr z.2.1) fun op'=>okO (Jr z.2.2.1) fun y=>decide (op=op')&&jI y&&a.chk W sc N mp m z.1&&b.chk W sc N mp m y
 |.chain op1 op2 a b c,e=>okO (Y2 e) fun z=>okO (Wk z.2.1) fun o=>okO (Wk z.2.2.1) fun y=>decide (op1=o.1)&&decide (op2=o.2)&&jI y.2&&a.chk W sc N mp m z.1&&b.chk W sc N mp m y.1&&c.chk W sc N mp m y.2
 |.not a,e=>okO (zeq e) fun z=>decide (z.1=.Not)&&a.chk W sc N mp m z.2.1
 |.neg a,e=>okO (zeq e) fun z=>decide (z.1=.USub)&&a.chk W sc N mp m z.2.1
 |.and a b,e=>okO (Y1 .And e) fun z=>a.chk W sc N mp m z.1&&b.chk W sc N mp m z.2
 |.or a b,e=>okO (Y1 .Or e) fun z=>a.chk W sc N mp m z.1&&b.chk W sc N mp m z.2
 |.ite c a b,e=>okO (zcg e) fun z=>c.chk W sc N mp m z.1&&a.chk W sc N mp m z.2.1&&b.chk W sc N mp m z.2.2.1
 |.ix a b,e=>okO (Y4 e) fun z=>jt z.2.1&&a.chk W sc N mp m z.1&&b.chk W sc N mp m z.2.1
 |.len a,e=>match un1 e with
  |some (f,_,x,_)=>biB W sc f "len" &&zq x&&a.chk W sc N mp m x
  |none=>false
 |.int a,e=>match un1 e with
  |some (f,_,x,_)=>biB W sc f "int" &&zq x&&a.chk W sc N mp m x
  |none=>false
 |.all a,e=>match un1 e with
  |some (f,_,x,_)=>biB W sc f "all" &&zq x&&a.chk W sc N mp m x
  |none=>false
 |.tuple a,e=>match un1 e with
  |some (f,_,x,_)=>biB W sc f "tuple" &&zq x&&a.chk W sc N mp m x
  |none=>false
 |.isi T a,e=>match un2 e with
  |some (f,_,x,y,_)=>biB W sc f "isinstance" &&zq x&&(T== "int" ||T== "bool" ||T== "list" ||T== "tuple" ||T== "str")&&okO (zL y) (fun z=>biB W sc z.1 (Str.ofString T))&&a.chk W sc N mp m x
  |none=>false
 |.min a b,e=>match un2 e with
  |some (f,_,x,y,_)=>biB W sc f "min" &&zq x&&zq y&&a.chk W sc N mp m x&&b.chk W sc N mp m y
  |none=>false
 |.max a b,e=>match un2 e with
  |some (f,_,x,y,_)=>biB W sc f "max" &&zq x&&zq y&&a.chk W sc N mp m x&&b.chk W sc N mp m y
  |none=>false
 |.less a b,e=>match Ya e with
  |some (f,g,h,x,y,_)=>biB W sc f "len" &&biB W sc g "set" &&biB W sc h "set" &&zq x&&zq y&&a.chk W sc N mp m x&&b.chk W sc N mp m y
  |none=>false
 |.call o,e=>QX e&&o.chk W sc N mp m e
 |.callw f n a,e=>match unN e with
  |some (g,_,xs,_)=>decide (f=g)&&ZN sc f&&W.fl.contains (f,n)&& !(f==("__debug__" :Str))&& !xs.isEmpty&&xs.all zq&&a.chk W sc N mp m xs
  |none=>false
 |.lset a,e=>match un1 e with
  |some (f,_,x,_)=>match un1 x with
   |some (g,_,y,_)=>biB W sc f "len" &&biB W sc g "set" &&zq y&&a.chk W sc N mp m y
   |none=>false
  |none=>false
noncomputable def IL.chk(W:Wd)(sc:Scope)(N:List Str)(mp:List Nat)(m:Nat):IL->List Expr->Bool
 |.nil,[]=>true
 |.cons e a,x::xs=>zq x&&e.chk W sc N mp m x&&a.chk W sc N mp m xs
 |_,_=>false
noncomputable def IA.chk(W:Wd)(sc:Scope)(N:List Str)(mp:List Nat)(m:Nat):IA->List Expr->Bool
 |.nil,[]=>true
 |.cons e a,x::xs=>zq x&&e.chk W sc N mp m x&&a.chk W sc N mp m xs
 |.io s i a,x::xs=>okO (zL x) (fun z=>nmB sc N mp s i z.1)&&a.chk W sc N mp m xs
 |.tmp n,[x]=>zq x&&n.chk W sc N mp m x
 |_,_=>false
noncomputable def IN.chk(W:Wd)(sc:Scope)(N:List Str)(mp:List Nat)(m:Nat):IN->Expr->Bool
 |.lst a,e=>okO (zci e) fun z=>a.chk W sc N mp m z.1
 |.cat a b,e=>okO (WZ e) fun z=>decide (z.2.1=.Add)&&a.chk W sc N mp m z.1&&b.chk W sc N mp m z.2.2.1
 |.list e,y=>match un1 y with
  |some (f,_,x,_)=>biB W sc f "list" &&zq x&&e.chk W sc N mp m x
  |none=>false
 |.sorted e,y=>match un1 y with
  |some (f,_,x,_)=>biB W sc f "sorted" &&zq x&&e.chk W sc N mp m x
  |none=>false
 |.comp n k ix N' t src c el,e=>match zgY e with
  |some (elt,tg,iter,ifs,scope,_)=>decide (n=m)&&zan sc N scope N' k ix&&decide (mpC mp n k ix).Nodup&&ix.all (fun i=>match mp[i]? with
   |some j=>decide (j<n)
   |none=>false)&&jI iter&&src.chk W sc N mp m iter tg&&va scope N' (mpC mp n k ix) n t tg&&c.chk W scope N' (mpC mp n k ix) (n+k) ifs&&el.chk W scope N' (mpC mp n k ix) (n+k) elt
  |none=>false
noncomputable def IP.chk(W:Wd)(sc:Scope)(N:List Str)(mp:List Nat)(m:Nat):IP->Option Expr->Bool
 |.non,none=>true
 |.one e,some x=>e.chk W sc N mp m x
 |_,_=>false
noncomputable def II.chk(W:Wd)(sc:Scope)(N:List Str)(mp:List Nat)(m:Nat):II->Expr->Expr->Bool
 |.list e,x,_=>e.chk W sc N mp m x
 |.tup e,x,_=>e.chk W sc N mp m x
 |.range e,y,_=>match un1 y with
  |some (f,_,x,_)=>biB W sc f "range" &&zq x&&e.chk W sc N mp m x
  |none=>false
 |.enum e,y,tg=>match un1 y with
  |some (f,_,x,_)=>zaN tg&&biB W sc f "enumerate" &&zq x&&e.chk W sc N mp m x
  |none=>false
noncomputable def IC.chk(W:Wd)(sc:Scope)(N:List Str)(mp:List Nat)(m:Nat):IC->List Expr->Bool
 |.yes,[]=>true
 |.one e,[x]=>e.chk W sc N mp m x
 |_,_=>false
noncomputable def IO.chk(W:Wd)(sc:Scope)(N:List Str)(mp:List Nat)(m:Nat):IO->Expr->Bool
 |.dat e,x=>e.chk W sc N mp m x
 |.own n,x=>n.chk W sc N mp m x
 |.call f n a,e=>match unN e with
  |some (g,_,xs,_)=>decide (f=g)&&ZN sc f&&W.fl.contains (f,n)&& !(f==("__debug__" :Str))&&xs.all zq&&a.chk W sc N mp m xs
  |none=>false
 |.move s i,e=>okO (zL e) fun x=>nmB sc N mp s i x.1
 |.pair a o,e=>okO (W2 e) fun z=>okO (Wk z.1) fun x=>zq x.1&&zq x.2&&a.chk W sc N mp m x.1&&o.chk W sc N mp m x.2
noncomputable def IJ.chk(W:Wd)(sc:Scope)(N:List Str)(mp:List Nat)(m:Nat):IJ->List Expr->Bool
 |.nil,[]=>true
 |_,_=>false
end
structure XSc(X:Cx)(sc:Scope)(N:List Str):Prop where
 hN:X.N=N
 vis:∀ x,vT sc x=true->Vis X.env.scope x
 loc:∀ x,sc.names.lookup x=some .local->X.env.scope.names.lookup x=some .local
 cel:∀ x,sc.names.lookup x=some .cell->X.env.scope.names.lookup x=some .cell/\X.fn x=true
 fre:∀ x,sc.names.lookup x=some .free->X.env.scope.names.lookup x=some .cell∨X.env.scope.names.lookup x=some .free
 glo:∀ x,ZN sc x=true->Gl X x
structure XW(X:Cx)(XP:XPT)(cf:CF)(W:Wd)(k:Nat):Prop where
 bi:∀ x,W.bi.contains x=true->X.mg x=none
 gi:∀ x i,W.gi.contains (x,i)=true->∃ t,X.mg x=some (.int i t)
 gs:∀ x i,W.gs.contains (x,i)=true->∃ t,X.mg x=some (.str i t)
 fn:∀ x n,W.fl.contains (x,n)=true->Kn X.prog X.w X.K X.mg X.base (CX1 X.prog X.w) x k (spX X.mg n (cf x))/\Ran n (cf x)
 rm:Room k X.A
 hk:1<=k
 calm:X.calm=true
 ex:∀ x,W.ex.contains x=true->∃ C,X.mg x=some (.ref C)/\PySem.W.excIn X.K C bmV "ValueError.__new__" =true
 mr:∀ x C y C2,W.ex.contains x=true->X.mg x=some (.ref C)->W.ex.contains y=true->X.mg y=some (.ref C2)->(mroIn X.K C).contains (.ref C2)=decide (x=y)
 gd:∀ x kf,W.gd.contains (x,kf)=true->GD X.w X.K X.mg x kf
 fk:∀ c f,W.fk.contains (c,f)=true->FldK X c f
 mc:∀ c q n,W.mc.contains (c,q,n)=true->X.mg c=some (.ref (Cs.adr c))/\(∃ j,j+1<=k/\KnI X.prog X.w X.K X.mg X.base (CX1 X.prog X.w) (Cs.adr c) j (spX X.mg n (cf q)))/\Ran n (cf q)
 ml:∀ c m q n,W.ml.contains (c,m,q,n)=true->KnM X.prog X.w X.K X.mg X.base (CX1 X.prog X.w) (Cs.adr c) m k (spX X.mg n (cf q))/\Ran n (cf q)
 px:PxOk X XP
 sk:Sk X
 br:∀ c a,W.br.contains (c,a)=true->∃ C f A,KnB X.prog X.w X.K X.mg X.base c a k C f A
theorem zu (h:zq e=true):starEach (e::es) env=(false,eval e env)::starEach es env:=by
 cases e<;>first | rfl | (simp[zq]at h)
theorem wX{es:List Expr}:es.all zq=true->(starEach es env).any (·.1)=false:=by
 induction es with
 |nil=>intro;rfl
 |cons e es ih=>
  intro h
  rw[uw,xa]at h
  rw[zu h.1,ug,ih h.2];rfl
theorem jy :∀ {l:List (Bool×Sem Value)},l.any (·.1)=false->(backTo pos l).any (·.1)=false
 |[],_=>rfl
 | (b,t)::r,h=>by
  rw[ug,Bool.or_eq_false_iff]at h
  show ((b,_)::backTo pos r).any (·.1)=false
  rw[ug,jy h.2]
  have hb:b=false:=h.1
  rw[hb];rfl
theorem yR (h:jt e=true):W5 e:=fun o i=>by
 cases e<;>first | rfl | (simp[jt]at h)
theorem QM (h:jI e=true)(x:Value):foldedSetIterable e env x=pure x:=by
 cases e<;>first | rfl | (simp[jI]at h)
theorem wF (op:CmpOp)(h:jI e=true):behindInMarks op e=false:=by
 cases e<;>first | rfl | (simp[jI]at h)
theorem WL (op op':CmpOp)(h:jI e=true):lastMarks [op,op'] [b,e]=false:=wF op' h
theorem Zg{x y:Str}(h:(!(x==y))=true):(x==y)=false:=by simpa using h
section
variable {X:Cx}{XP:XPT}{cf:CF}{W:Wd}{k:Nat}{sc:Scope}{N:List Str}{mp:List Nat}{m:Nat}
theorem wG (S:XSc X sc N)(h:nmB sc N mp s i x=true):NmK X mp s i x:=by
 unfold nmB at h
 simp only[xa,decide_eq_true_eq]at h
 obtain⟨⟨⟨⟨h1,h2⟩,h3⟩,h4⟩,h5⟩:=h
 exact⟨by rw[S.hN];exact h1,S.vis x h2,h3,Zg h4,Zg h5⟩
theorem ql (S:XSc X sc N) (T:XW X XP cf W k) (h:biB W sc x y=true) (hb:bootBuiltins y=some v) (hn:y≠ "__name__") (hd:(y==("__debug__" :Str))=false):BiK X x v:=by
 unfold biB at h
 simp only[xa,decide_eq_true_eq]at h
 obtain⟨⟨h1,h2⟩,h3⟩:=h
 subst h1
 exact⟨S.glo x h2,T.bi x h3,hb,hn,hd⟩
theorem Jd{f:Str->NameKind->NameKind}:∀ {names:List (Str×NameKind)}{x:Str},(names.map fun (n,k)=>(n,f n k)).lookup x=(names.lookup x).map (f x)
 |[],_=>rfl
 | (n,k)::r,x=>by
  rw[xB]
  cases hx:x==n with
  |true=>rw[xz,xz,hx];rw[eq_of_beq hx];rfl
  |false=>rw[xz,xz,hx];exact Jd
theorem qv{scope:Scope}{env:Env}:(relabel scope env).names.lookup x=(scope.names.lookup x).map fun k=>if (k==.free&&env.scope.kind==ScopeKind.function&&env.kindOf x==some NameKind.cell) then .cell else k:=by
 unfold relabel
 have e:(scope.names.map fun (n,k)=>if (k==NameKind.free&&env.scope.kind==ScopeKind.function&&env.kindOf n==some NameKind.cell) then (n,NameKind.cell) else (n,k)) =
   scope.names.map fun (n,k)=>(n,(fun n k=>if (k==NameKind.free&&env.scope.kind==ScopeKind.function&&env.kindOf n==some NameKind.cell) then NameKind.cell else k) n k):=by
  apply List.map_congr_left
  rintro⟨n,k⟩ _
  dsimp only
  split<;>rfl
 rw[e]
 exact Jd (f:=fun n k=>if (k==NameKind.free&&env.scope.kind==ScopeKind.function&&env.kindOf n==some NameKind.cell) then NameKind.cell else k)
theorem XSc.comp (S:CSc psc N scope N' k ix)(cl:List (Str×Addr))(C:Addr)(s2:Shared)(H2:Hp)(fp:List Addr):XSc (X.comp N' scope cl C s2 H2 fp) scope N' where
 hN:=rfl
 vis x h:=by
  unfold vT at h
  simp only[xO,decide_eq_true_eq]at h
  show Vis (relabel scope X.env) x
  unfold Vis
  rw[qv]
  rcases h with (h | h) | h
  ·rw[h];exact .inl rfl
  ·rw[h];exact .inr (.inl rfl)
  ·rw[h]
   simp only[uW]
   split
   ·exact .inr (.inl rfl)
   ·exact .inr (.inr rfl)
 loc x h:=by
  show (relabel scope X.env).names.lookup x=_
  rw[qv,h];rfl
 cel x h:=by
  refine⟨?_,decide_eq_true h⟩
  show (relabel scope X.env).names.lookup x=_
  rw[qv,h];rfl
 fre x h:=by
  show (relabel scope X.env).names.lookup x=_∨(relabel scope X.env).names.lookup x=_
  rw[qv,h]
  simp only[uW]
  split
  ·exact .inl rfl
  ·exact .inr rfl
 glo x h:=by
  unfold ZN at h
  simp only[decide_eq_true_eq]at h
  show (relabel scope X.env).names.lookup x=_
  rw[qv,h];rfl
theorem XW.comp(T:XW X XP cf W k){C:Addr}(c:Cat X σ C s2 H2 fp):XW (X.comp N' scope cl C s2 H2 fp) (XPc XP σ) cf W k:=⟨T.bi,T.gi,T.gs,T.fn,T.rm,T.hk,T.calm,T.ex,T.mr,T.gd,fun c f h=>⟨(T.fk c f h).cl,(T.fk c f h).no⟩,T.mc,T.ml,zdG T.px T.sk c,T.sk,T.br⟩
theorem zft (S:XSc X sc N)(h:CSc sc N scope N' k ix):CSc X.env.scope X.N scope N' k ix :=
 ⟨h.kind,h.cel,h.loc,fun y hy e=>by
  rcases h.fre y hy e with z | z
  ·exact .inl (S.cel _ z).1
  ·exact S.fre _ z,h.len,h.nd,fun j i e=>by
  rw[S.hN];exact h.cap j i e⟩
theorem Room.at1(T:XW X XP cf W k):Room 1 X.A:=T.rm.mono T.hk
theorem Room.atk(T:XW X XP cf W k):Room k X.A:=T.rm
theorem yh{es:List Expr}:(assignEach es env).length=es.length:=by
 induction es with
 |nil=>rfl
 |cons e es ih=>cases e<;>simp[assignEach,ih]
theorem Q7 (h:zq e=true):assignEach (e::es) env=(false,assign e env)::assignEach es env:=by
 cases e<;>first | rfl | (simp[zq]at h)
mutual
theorem JD{kp:Nat->Prop}{lo:Nat}(S:XSc X sc N)(hN:N.Nodup)(hn:mp.Nodup)(hc:X.calm=true)(hk:∀ i,lo<=i->¬ kp i):∀ (t:IT) (e:Expr),va sc N mp lo t e=true->SG X mp kp e t
  |.nm s i,e,h=>by
   cases e with
   |Name x p=>
    simp only[va,xa,xO,decide_eq_true_eq]at h
    obtain⟨⟨⟨h1,h2⟩,h3⟩,h4⟩:=h
    refine zdX (by rw[S.hN];exact hN) hn (by rw[S.hN];exact h1) h2 (hk i h3) ?_ ?_
    · rcases h4 with h4 | h4
      · exact .inl (S.loc x h4)
      · exact .inr (S.cel x h4).1
    · rcases h4 with h4 | h4
      · exact .inr (S.loc x h4)
      · exact .inl (S.cel x h4).2
   |_=>simp[va]at h
  |.tp ts,e,h=>by
   cases e with
   |Tuple es n p=>
    simp only[va]at h
    obtain⟨h1,h2,h3⟩:=VZ S hN hn hc hk ts es h
    exact zgC hc h1 (by rw[yh];exact h2) h3
   |_=>simp[va]at h
theorem VZ{kp:Nat->Prop}{lo:Nat}(S:XSc X sc N)(hN:N.Nodup)(hn:mp.Nodup)(hc:X.calm=true)(hk:∀ i,lo<=i->¬ kp i):∀ (ts:ITs) (es:List Expr),WD sc N mp lo ts es=true->SGs X mp kp es ts/\ts.len=es.length/\(assignEach es X.env).findIdx? (·.1)=none
  |.nil,[],h=>⟨zdY,rfl,rfl⟩
  |.cons t ts,e::es,h=>by
    simp only[WD,xa]at h
    obtain⟨⟨h1,h2⟩,h3⟩:=h
    have ih1:=JD S hN hn hc hk t e h2
    obtain⟨i1,i2,i3⟩:=VZ S hN hn hc hk ts es h3
    refine⟨zbR ih1 i1 (by rw[Q7 h1];rfl),by rw[ITs.len,i2];rfl,?_⟩
    rw[Q7 h1,List.findIdx?_cons]
    simp[i3]
  |.nil,_::_,h=>by simp[WD]at h
  |.cons ..,[],h=>by simp[WD]at h
end
noncomputable def KZ(X:Cx)(XP:XPT)(mp:List Nat)(e:Expr)(f:EM (List PyData)):Prop:=∀ elt gens scope pos,e=.ListComp elt gens scope pos->∃ tg iter ifs N' k ix,gens= [⟨tg,iter,ifs,0⟩]/\CSc X.env.scope X.N scope N' k ix/\(∀ x,foldedSetIterable iter X.env x=pure x) /\
 SNt XP mp (WX k ix (wpI X tg iter) (gU X N' scope tg) (fU X N' scope ifs) (eU X N' scope elt)) f
theorem vC {mp:List Nat}(h:∀ elt gens scope pos,e≠ .ListComp elt gens scope pos):KZ X XP mp e f:=fun a b c d q=>absurd q (h a b c d)
theorem Kb{e:Expr}(h:QX e=true)(whole:Sem Value):isTrue e env whole=(do let v<-whole;standAt e.pos;holding [v] (truthy v)):=by
 cases e<;>first | rfl | (simp[QX]at h;done) | skip
 rename_i op x p
 cases op<;>first | rfl | (simp[QX]at h)
theorem qA {mp:List Nat}(h:SE X XP mp e fa)(hp:QX e=true):SE X XP mp e fa/\ST X XP mp e (fTru fa):=⟨h,zb2 h (Kb hp)⟩
theorem V0 {mp:List Nat}(h:ST X XP mp (.BoolOp op vs p) t):SW X XP mp (.BoolOp op vs p) t:=fun M0 F Γ ν σ H Q rs hs hp whole pins s I=>h M0 F Γ ν σ H Q rs hs hp pins s I
theorem W9:bootBuiltins "sorted" =some (.builtin "sorted"):=by decide +kernel
theorem Va:bootBuiltins "range" =some (.type "range"):=by decide +kernel
theorem Qz:bootBuiltins "len" =some (.builtin "len"):=by decide +kernel
theorem km:bootBuiltins "min" =some (.builtin "min"):=by decide +kernel
theorem kl:bootBuiltins "max" =some (.builtin "max"):=by decide +kernel
theorem kq:bootBuiltins "str" =some (.type "str"):=by decide +kernel
theorem kj:bootBuiltins "isinstance" =some (.builtin "isinstance"):=by decide +kernel
noncomputable abbrev QE(cf:CF)(W:Wd)(a:IE):Prop:=∀ (X:Cx) (XP:XPT) (k:Nat) (sc:Scope) (N:List Str) (mp:List Nat) (m:Nat),XSc X sc N->XW X XP cf W k->∀ (e:Expr),a.chk W sc N mp m e=true->SE X XP mp e (a.ev cf).1/\ST X XP mp e (a.ev cf).2
noncomputable abbrev QL(cf:CF)(W:Wd)(a:IL):Prop:=∀ (X:Cx) (XP:XPT) (k:Nat) (sc:Scope) (N:List Str) (mp:List Nat) (m:Nat),XSc X sc N->XW X XP cf W k->∀ (e:List Expr),a.chk W sc N mp m e=true->SL X XP mp e (a.ev cf)
noncomputable abbrev QA(cf:CF)(W:Wd)(a:IA):Prop:=∀ (X:Cx) (XP:XPT) (k:Nat) (sc:Scope) (N:List Str) (mp:List Nat) (m:Nat),XSc X sc N->XW X XP cf W k->∀ (e:List Expr),a.chk W sc N mp m e=true->SA X XP mp e (a.ev cf)
noncomputable abbrev QN(cf:CF)(W:Wd)(a:IN):Prop:=∀ (X:Cx) (XP:XPT) (k:Nat) (sc:Scope) (N:List Str) (mp:List Nat) (m:Nat),XSc X sc N->XW X XP cf W k->∀ (e:Expr),a.chk W sc N mp m e=true->SN X XP mp e (a.ev cf)/\(a.plain=true->KZ X XP mp e (a.ev cf))
noncomputable abbrev QP(cf:CF)(W:Wd)(a:IP):Prop:=∀ (X:Cx) (XP:XPT) (k:Nat) (sc:Scope) (N:List Str) (mp:List Nat) (m:Nat),XSc X sc N->XW X XP cf W k->∀ (e:Option Expr),a.chk W sc N mp m e=true->SOp X XP mp e (a.ev cf)
noncomputable abbrev QI(cf:CF)(W:Wd)(a:II):Prop:=∀ (X:Cx) (XP:XPT) (k:Nat) (sc:Scope) (N:List Str) (mp:List Nat) (m:Nat),XSc X sc N->XW X XP cf W k->∀ (tg e:Expr),a.chk W sc N mp m e tg=true->SI X XP mp tg e (a.ev cf)
noncomputable abbrev QC(cf:CF)(W:Wd)(a:IC):Prop:=∀ (X:Cx) (XP:XPT) (k:Nat) (sc:Scope) (N:List Str) (mp:List Nat) (m:Nat),XSc X sc N->XW X XP cf W k->∀ (e:List Expr),a.chk W sc N mp m e=true->SF X XP mp e (a.ev cf)
noncomputable abbrev QO(cf:CF)(W:Wd)(a:IO):Prop:=∀ (X:Cx) (XP:XPT) (k:Nat) (sc:Scope) (N:List Str) (mp:List Nat) (m:Nat),XSc X sc N->XW X XP cf W k->∀ (e:Expr),a.chk W sc N mp m e=true->SO X XP mp e (a.ev cf)
noncomputable abbrev QJ(cf:CF)(W:Wd)(a:IJ):Prop:=∀ (X:Cx) (XP:XPT) (k:Nat) (sc:Scope) (N:List Str) (mp:List Nat) (m:Nat),XSc X sc N->XW X XP cf W k->∀ (e:List Expr),a.chk W sc N mp m e=true->SJ X XP mp e (a.ev cf)
theorem J1 {W:Wd}(s i:Nat):QE cf W (.var s i):=by
 intro X XP k sc N mp m S T e g0
 obtain⟨⟨x,p⟩,eu,h⟩:=za g0
 clear g0
 cases zn eu
 have n:=wG S h
 exact qA (zgy n.hN n.hv n.hm n.hd n.hcd) rfl
theorem JQ {W:Wd}(s i:Nat):QE cf W (.frz s i):=by
 intro X XP k sc N mp m S T e g0
 obtain⟨⟨x,p⟩,eu,h⟩:=za g0
 clear g0
 cases zn eu
 have n:=wG S h
 exact qA (zgs n.hN n.hv n.hm n.hd n.hcd) rfl
theorem Z1 {W:Wd}(i:Int):QE cf W (.cint i):=by
 intro X XP k sc N mp m S T e g0
 obtain⟨⟨c,j,p⟩,eu,h⟩:=za g0
 clear g0
 cases qE eu
 obtain⟨z,ez,h⟩:=za h
 cases zaj ez
 cases of_decide_eq_true h
 exact qA zgt rfl
theorem Z2 {W:Wd}(i:Str):QE cf W (.cstr i):=by
 intro X XP k sc N mp m S T e g0
 obtain⟨⟨c,j,p⟩,eu,h⟩:=za g0
 clear g0
 cases qE eu
 obtain⟨z,ez,h⟩:=za h
 cases Qd ez
 cases of_decide_eq_true h
 exact qA zgw rfl
theorem jU {W:Wd}(i:Bool):QE cf W (.cbool i):=by
 intro X XP k sc N mp m S T e g0
 obtain⟨⟨c,j,p⟩,eu,h⟩:=za g0
 clear g0
 cases qE eu
 obtain⟨z,ez,h⟩:=za h
 cases Wz ez
 cases of_decide_eq_true h
 exact qA zdN rfl
theorem jW {W:Wd}  :QE cf W (.cnone):=by
 intro X XP k sc N mp m S T e g0
 obtain⟨⟨c,j,p⟩,eu,h⟩:=za g0
 clear g0
 cases qE eu
 cases kr h
 exact qA zdS rfl
theorem J0 {W:Wd}(a:IL)(ih_a:QL cf W a):QE cf W (.tup a):=by
 intro X XP k sc N mp m S T e g0
 obtain⟨⟨es,j,p⟩,eu,h⟩:=za g0
 clear g0
 cases Zt eu
 exact qA (zgx (ih_a _ _ _ _ _ _ _ S T es h)) rfl
theorem JY {W:Wd}(n:IN)(ih_n:QN cf W n):QE cf W (.new n):=by
 intro X XP k sc N mp m S T e h
 replace h:=xQ.mp h
 try simp only[xa]at h
 exact qA (SN.se (ih_n _ _ _ _ _ _ _ S T e h.2).1) h.1
theorem JO {W:Wd}(op:Operator)(a b:IE)(ih_a:QE cf W a)(ih_b:QE cf W b):QE cf W (.bin op a b):=by
 intro X XP k sc N mp m S T e g0
 obtain⟨⟨x,op',y,p⟩,eu,h⟩:=za g0
 clear g0
 cases QZ eu
 simp only[xa,decide_eq_true_eq]at h
 obtain⟨⟨h1,h2⟩,h3⟩:=h
 subst h1
 exact qA (zgq (zfa op) (ih_a _ _ _ _ _ _ _ S T x h2).1 (ih_b _ _ _ _ _ _ _ S T y h3).1) rfl
theorem JP {W:Wd}(op:CmpOp)(a b:IE)(ih_a:QE cf W a)(ih_b:QE cf W b):QE cf W (.cmp op a b):=by
 intro X XP k sc N mp m S T e g0
 obtain⟨⟨x,ops,ys,p⟩,eu,g1⟩:=za g0
 clear g0
 cases W0 eu
 obtain⟨op',eo,h⟩:=za g1
 clear g1
 cases qG eo
 obtain⟨y,ey,h⟩:=za h
 cases qG ey
 simp only[xa,decide_eq_true_eq]at h
 obtain⟨⟨⟨h1,h2⟩,h3⟩,h4⟩:=h
 subst h1
 have ha:=(ih_a _ XP _ _ _ _ _ S T x h3).1
 have hb:=(ih_b _ XP _ _ _ _ _ S T y h4).1
 exact⟨zgr (QF (Room.at1 T) op) ha hb (wF op h2),zgP (QF (Room.at1 T) op) ha hb (wF op h2)⟩
theorem jV {W:Wd}(op1 op2:CmpOp)(a b c:IE)(ih_a:QE cf W a)(ih_b:QE cf W b)(ih_c:QE cf W c):QE cf W (.chain op1 op2 a b c):=by
 intro X XP k sc N mp m S T e g0
 obtain⟨⟨x,ops,ys,p⟩,eu,g1⟩:=za g0
 clear g0
 cases W0 eu
 obtain⟨⟨o1,o2⟩,eo,h⟩:=za g1
 clear g1
 cases qI eo
 obtain⟨⟨y,z⟩,ey,h⟩:=za h
 cases qI ey
 simp only[xa,decide_eq_true_eq]at h
 obtain⟨⟨⟨⟨⟨h1,h2⟩,h3⟩,h4⟩,h5⟩,h6⟩:=h
 subst h1 h2
 have ha:=(ih_a _ XP _ _ _ _ _ S T x h4).1
 have hb:=(ih_b _ XP _ _ _ _ _ S T y h5).1
 have hc:=(ih_c _ XP _ _ _ _ _ S T z h6).1
 exact⟨zbK (QF (Room.at1 T) op1) (QF (Room.at1 T) op2) ha hb hc (WL op1 op2 h3),zb1 (QF (Room.at1 T) op1) (QF (Room.at1 T) op2) ha hb hc (WL op1 op2 h3)⟩
theorem JZ {W:Wd}(a:IE)(ih_a:QE cf W a):QE cf W (.not a):=by
 intro X XP k sc N mp m S T e g0
 obtain⟨⟨op,x,p⟩,eu,h⟩:=za g0
 clear g0
 cases V4 eu
 simp only[xa,decide_eq_true_eq]at h
 cases h.1
 have hh:=ih_a _ XP _ _ _ _ _ S T x h.2
 exact⟨zgv hh.1,zgQ hh.2⟩
theorem JX {W:Wd}(a:IE)(ih_a:QE cf W a):QE cf W (.neg a):=by
 intro X XP k sc N mp m S T e g0
 obtain⟨⟨op,x,p⟩,eu,h⟩:=za g0
 clear g0
 cases V4 eu
 simp only[xa,decide_eq_true_eq]at h
 cases h.1
 exact qA (zgu (ih_a _ _ _ _ _ _ _ S T x h.2).1) rfl
theorem JN {W:Wd}(a b:IE)(ih_a:QE cf W a)(ih_b:QE cf W b):QE cf W (.and a b):=by
 intro X XP k sc N mp m S T e g0
 obtain⟨⟨x,z⟩,eu,h⟩:=za g0
 clear g0
 rw[xa]at h
 have ha:=ih_a _ XP _ _ _ _ _ S T x h.1
 have hb:=ih_b _ XP _ _ _ _ _ S T z h.2
 rcases WY eu with ⟨p,rfl⟩ | ⟨y,w,r,p,rfl,rfl⟩
 ·exact⟨zbI ha.1 (zbL hb.1),(zb6 ha.2 (zeg hb.2)).st⟩
 ·exact⟨zbI ha.1 hb.1,(zb6 ha.2 (V0 hb.2)).st⟩
theorem Vd {W:Wd}(a b:IE)(ih_a:QE cf W a)(ih_b:QE cf W b):QE cf W (.or a b):=by
 intro X XP k sc N mp m S T e g0
 obtain⟨⟨x,z⟩,eu,h⟩:=za g0
 clear g0
 rw[xa]at h
 have ha:=ih_a _ XP _ _ _ _ _ S T x h.1
 have hb:=ih_b _ XP _ _ _ _ _ S T z h.2
 rcases WY eu with ⟨p,rfl⟩ | ⟨y,w,r,p,rfl,rfl⟩
 ·exact⟨zeU ha.1 (zbL hb.1),(zeW ha.2 (zeh hb.2)).st⟩
 ·exact⟨zeU ha.1 hb.1,(zeW ha.2 (V0 hb.2)).st⟩
theorem JT {W:Wd}(c a b:IE)(ih_c:QE cf W c)(ih_a:QE cf W a)(ih_b:QE cf W b):QE cf W (.ite c a b):=by
 intro X XP k sc N mp m S T e g0
 obtain⟨⟨z,x,y,p⟩,eu,h⟩:=za g0
 clear g0
 cases KC eu
 simp only[xa]at h
 obtain⟨⟨h1,h2⟩,h3⟩:=h
 exact⟨zh2 (ih_c _ _ _ _ _ _ _ S T z h1).2 (ih_a _ _ _ _ _ _ _ S T x h2).1 (ih_b _ _ _ _ _ _ _ S T y h3).1,fun M0 F Γ ν σ H Q rs hs hp=>hp.elim⟩
theorem Vc {W:Wd}(a b:IE)(ih_a:QE cf W a)(ih_b:QE cf W b):QE cf W (.ix a b):=by
 intro X XP k sc N mp m S T e g0
 obtain⟨⟨x,y,p⟩,eu,h⟩:=za g0
 clear g0
 cases W1 eu
 simp only[xa]at h
 obtain⟨⟨h1,h2⟩,h3⟩:=h
 exact qA (zh3 (ih_a _ _ _ _ _ _ _ S T x h2).1 (ih_b _ _ _ _ _ _ _ S T y h3).1 (yR h1)) rfl
theorem JU {W:Wd}(a:IE)(ih_a:QE cf W a):QE cf W (.len a):=by
 intro X XP k sc N mp m S T e h
 conv at h=>lhs;whnf
 split at h
 ·rename_i f p x q eu
  cases zV eu
  simp only[xa]at h
  obtain⟨⟨h1,h2⟩,h3⟩:=h
  exact qA (zeT zfs (ql S T h1 Qz (by decide) (by decide)) (ih_a _ _ _ _ _ _ _ S T x h3).1 (zu h2)) rfl
 ·cases h
theorem JR {W:Wd}(a:IE)(ih_a:QE cf W a):QE cf W (.int a):=by
 intro X XP k sc N mp m S T e h
 conv at h=>lhs;whnf
 split at h
 ·rename_i f p x q eu
  cases zV eu
  simp only[xa]at h
  obtain⟨⟨h1,h2⟩,h3⟩:=h
  exact qA (zh4 zfr (ql S T h1 Wy (by decide) (by decide)) (ih_a _ _ _ _ _ _ _ S T x h3).1 (zu h2)) rfl
 ·cases h
theorem JM {W:Wd}(a:IE)(ih_a:QE cf W a):QE cf W (.all a):=by
 intro X XP k sc N mp m S T e h
 conv at h=>lhs;whnf
 split at h
 ·rename_i f p x q eu
  cases zV eu
  simp only[xa]at h
  obtain⟨⟨h1,h2⟩,h3⟩:=h
  exact qA (zeT (zfq T.calm) (ql S T h1 ki (by decide) (by decide)) (ih_a _ _ _ _ _ _ _ S T x h3).1 (zu h2)) rfl
 ·cases h
theorem jX {W:Wd}(a:IE)(ih_a:QE cf W a):QE cf W (.tuple a):=by
 intro X XP k sc N mp m S T e h
 conv at h=>lhs;whnf
 split at h
 ·rename_i f p x q eu
  cases zV eu
  simp only[xa]at h
  obtain⟨⟨h1,h2⟩,h3⟩:=h
  exact qA (zbM (ql S T h1 Q9 (by decide) (by decide)) (ih_a _ _ _ _ _ _ _ S T x h3).1 (zu h2)) rfl
 ·cases h
theorem JS {W:Wd}(TT:String)(a:IE)(ih_a:QE cf W a):QE cf W (.isi TT a):=by
 intro X XP k sc N mp m S T e h
 conv at h=>lhs;whnf
 split at h
 ·rename_i f p x y q eu
  cases vR eu
  simp only[xa,xO,beq_iff_eq]at h
  obtain⟨⟨⟨⟨h1,h2⟩,h3⟩,h4⟩,h5⟩:=h
  obtain⟨⟨y,p2⟩,ey,h4⟩:=za h4
  cases zn ey
  have B:=ql S T h1 kj (by decide) (by decide)
  have ha:=(ih_a _ XP _ _ _ _ _ S T x h5).1
  rcases h3 with (((rfl | rfl) | rfl) | rfl) | rfl
  ·exact qA (wT B (ql S T h4 Wy (by decide) (by decide)) ha (zu h2)) rfl
  ·exact qA (wT B (ql S T h4 yj (by decide) (by decide)) ha (zu h2)) rfl
  ·exact qA (wT B (ql S T h4 jz (by decide) (by decide)) ha (zu h2)) rfl
  ·exact qA (wT B (ql S T h4 Q9 (by decide) (by decide)) ha (zu h2)) rfl
  ·exact qA (wT B (ql S T h4 kq (by decide) (by decide)) ha (zu h2)) rfl
 ·cases h
theorem JW {W:Wd}(a b:IE)(ih_a:QE cf W a)(ih_b:QE cf W b):QE cf W (.min a b):=by
 intro X XP k sc N mp m S T e h
 conv at h=>lhs;whnf
 split at h
 ·rename_i f p x y q eu
  cases vR eu
  simp only[xa]at h
  obtain⟨⟨⟨⟨h1,h2⟩,h3⟩,h4⟩,h5⟩:=h
  exact qA (zdR T.calm (ql S T h1 km (by decide) (by decide)) (ih_a _ _ _ _ _ _ _ S T x h4).1 (ih_b _ _ _ _ _ _ _ S T y h5).1 (zu h2) (zu h3)) rfl
 ·cases h
theorem JV {W:Wd}(a b:IE)(ih_a:QE cf W a)(ih_b:QE cf W b):QE cf W (.max a b):=by
 intro X XP k sc N mp m S T e h
 conv at h=>lhs;whnf
 split at h
 ·rename_i f p x y q eu
  cases vR eu
  simp only[xa]at h
  obtain⟨⟨⟨⟨h1,h2⟩,h3⟩,h4⟩,h5⟩:=h
  exact qA (zdQ T.calm (ql S T h1 kl (by decide) (by decide)) (ih_a _ _ _ _ _ _ _ S T x h4).1 (ih_b _ _ _ _ _ _ _ S T y h5).1 (zu h2) (zu h3)) rfl
 ·cases h
theorem Z3 {W:Wd}(a b:IE)(ih_a:QE cf W a)(ih_b:QE cf W b):QE cf W (.less a b):=by
 intro X XP k sc N mp m S T e h
 conv at h=>lhs;whnf
 split at h
 ·rename_i f g h2 x y rest eu
  obtain⟨p1,p2,p3,q1,q2,q3,pb⟩:=rest
  cases Yb eu
  simp only[xa]at h
  obtain⟨⟨⟨⟨⟨⟨h1,h2'⟩,h3⟩,h4⟩,h5⟩,h6⟩,h7⟩:=h
  have nm:∀ {z t:Str},biB W sc z t=true->z=t:=fun {z t} hz=>by
   unfold biB at hz
   simp only[xa,decide_eq_true_eq]at hz
   exact hz.1.1
  have B1:=ql S T h1 Qz (by decide) (by decide)
  have B2:=ql S T h2' L2.boot_setW (by decide) (by decide)
  have e1:=nm h1
  have e2:=nm h2'
  have e3:=nm h3
  subst e1 e2 e3
  exact qA (zdO T.calm B1.gl B1.mg B2.gl B2.mg (ih_a _ _ _ _ _ _ _ S T x h6).1 (ih_b _ _ _ _ _ _ _ S T y h7).1 (zu h4) (zu h5)) rfl
 ·cases h
theorem Z0 {W:Wd}(o:IO)(ih_o:QO cf W o):QE cf W (.call o):=by
 intro X XP k sc N mp m S T e h
 replace h:=xQ.mp h
 try simp only[xa]at h
 exact qA (ih_o _ _ _ _ _ _ _ S T e h.2).se h.1
theorem jT {W:Wd}(g:Str)(n:Nat)(a:IL)(ih_a:QL cf W a):QE cf W (.callw g n a):=by
 intro X XP k sc N mp m S T e h
 conv at h=>lhs;whnf
 split at h
 ·rename_i f p xs q eu
  cases Qx eu
  simp only[xa,decide_eq_true_eq]at h
  obtain⟨⟨⟨⟨⟨⟨h1,h2⟩,h3⟩,h4⟩,h0⟩,h5⟩,h6⟩:=h
  subst h1
  obtain⟨kn,hrun⟩:=T.fn _ _ h3
  obtain⟨x,xs,rfl⟩:∃ y ys,xs=y::ys:=by
   cases xs with
   |nil=>cases h0
   |cons y ys=>exact⟨y,ys,rfl⟩
  rw[uw,xa]at h5
  exact qA (zbJ T.px kn (Room.atk T) (S.glo _ h2) hrun (ih_a _ _ _ _ _ _ _ S T (x::xs) h6) (Zg h4) (zu h5.1) (jy (wX h5.2))) rfl
 ·cases h
theorem J6 {W:Wd}(a:IL)(ih_a:QL cf W a):QN cf W (.lst a):=by
 intro X XP k sc N mp m S T e g0
 obtain⟨⟨es,p⟩,eu,h⟩:=za g0
 clear g0
 cases KE eu
 exact⟨zgH (ih_a _ _ _ _ _ _ _ S T es h),fun _=>vC (fun _ _ _ _ q=>nomatch q)⟩
theorem J5 {W:Wd}(a b:IE)(ih_a:QE cf W a)(ih_b:QE cf W b):QN cf W (.cat a b):=by
 intro X XP k sc N mp m S T e g0
 obtain⟨⟨x,op,y,p⟩,eu,h⟩:=za g0
 clear g0
 cases QZ eu
 simp only[xa,decide_eq_true_eq]at h
 obtain⟨⟨h0,h1⟩,h2⟩:=h
 cases h0
 exact⟨zgG (ih_a _ _ _ _ _ _ _ S T x h1).1 (ih_b _ _ _ _ _ _ _ S T y h2).1,fun _=>vC (fun _ _ _ _ q=>nomatch q)⟩
theorem Z9 {W:Wd}(a:IE)(ih_a:QE cf W a):QN cf W (.list a):=by
 intro X XP k sc N mp m S T e h
 conv at h=>lhs;whnf
 split at h
 ·rename_i f p x q eu
  cases zV eu
  simp only[xa]at h
  obtain⟨⟨h1,h2⟩,h3⟩:=h
  exact⟨zd3 (ql S T h1 jz (by decide) (by decide)) (ih_a _ _ _ _ _ _ _ S T x h3).1 (zu h2),fun _=>vC (fun _ _ _ _ q=>nomatch q)⟩
 ·cases h
theorem jq {W:Wd}(a:IE)(ih_a:QE cf W a):QN cf W (.sorted a):=by
 intro X XP k sc N mp m S T e h
 conv at h=>lhs;whnf
 split at h
 ·rename_i f p x q eu
  cases zV eu
  simp only[xa]at h
  obtain⟨⟨h1,h2⟩,h3⟩:=h
  exact⟨Km (ql S T h1 W9 (by decide) (by decide)) (ih_a _ _ _ _ _ _ _ S T x h3).1 (zu h2),fun _=>vC (fun _ _ _ _ q=>nomatch q)⟩
 ·cases h
theorem Z8 {W:Wd}(n kk:Nat)(ix:List Nat)(N':List Str)(t:IT)(src:II)(c:IC)(el:IE)(ih_src:QI cf W src)(ih_c:QC cf W c)(ih_el:QE cf W el):QN cf W (.comp n kk ix N' t src c el):=by
 intro X XP k sc N mp m S T e h
 conv at h=>lhs;whnf
 split at h
 ·rename_i elt tg iter ifs scope p eu
  cases zch eu
  simp only[xa,decide_eq_true_eq]at h
  obtain⟨⟨⟨⟨⟨⟨⟨⟨h1,h3⟩,h4⟩,h5⟩,h6⟩,h7⟩,h8⟩,h9⟩,h10⟩:=h
  subst h1
  have C0:CSc sc N scope N' kk ix:=CSc.of h3
  have C1:=zft S C0
  have hm:∀ j i:Nat,ix[j]?=some i->∃ m,mp[i]?=some m/\m<n:=fun j i e=>by
   have:=xA.mp h5 i (xJ e)
   split at this
   ·rename_i q eq;exact⟨q,eq,by simpa using this⟩
   ·cases this
  have hi:=ih_src _ XP _ _ _ _ _ S T tg iter h7
  have hg:∀ σ cl C s2 H2 fp,Cat X σ C s2 H2 fp->SG (X.comp N' scope cl C s2 H2 fp) (mpC mp n kk ix) (·<n) tg t:=fun σ cl C s2 H2 fp cat=>JD (XSc.comp C0 cl C s2 H2 fp) C0.nd h4 T.calm (fun i h=>by omega) t tg h8
  have hc:∀ σ cl C s2 H2 fp,Cat X σ C s2 H2 fp->SF (X.comp N' scope cl C s2 H2 fp) (XPc XP σ) (mpC mp n kk ix) ifs (c.ev cf):=fun σ cl C s2 H2 fp cat=>ih_c _ _ _ _ _ _ _ (XSc.comp C0 cl C s2 H2 fp) (T.comp cat) ifs h9
  have he:∀ σ cl C s2 H2 fp,Cat X σ C s2 H2 fp->SE (X.comp N' scope cl C s2 H2 fp) (XPc XP σ) (mpC mp n kk ix) elt (el.ev cf).1:=fun σ cl C s2 H2 fp cat=>(ih_el _ _ _ _ _ _ _ (XSc.comp C0 cl C s2 H2 fp) (T.comp cat) elt h10).1
  refine⟨zd2 T.calm C1 hm hi hg hc he (QM h6),fun _ a b c' d q=>?_⟩
  cases q
  exact⟨tg,iter,ifs,N',kk,ix,rfl,C1,QM h6,VX C1 hm hi hg hc he⟩
 ·cases h
theorem Z6 {W:Wd}(a:IE)(ih_a:QE cf W a):QI cf W (.list a):=by
 intro X XP k sc N mp m S T tg e h
 exact zd0 (ih_a _ _ _ _ _ _ _ S T e h).1
theorem J2 {W:Wd}(a:IE)(ih_a:QE cf W a):QI cf W (.tup a):=by
 intro X XP k sc N mp m S T tg e h
 exact zgD (ih_a _ _ _ _ _ _ _ S T e h).1
theorem jY {W:Wd}(a:IE)(ih_a:QE cf W a):QI cf W (.range a):=by
 intro X XP k sc N mp m S T tg e h
 conv at h=>lhs;whnf
 split at h
 ·rename_i f p x q eu
  cases zV eu
  simp only[xa]at h
  obtain⟨⟨h1,h2⟩,h3⟩:=h
  have ef:f= "range" :=by
   unfold biB at h1
   simp only[xa,decide_eq_true_eq]at h1
   exact h1.1.1
  exact zbS (ql S T h1 Va (by decide) (by decide)) ef (ih_a _ _ _ _ _ _ _ S T x h3).1 (zu h2)
 ·cases h
theorem Z5 {W:Wd}(a:IE)(ih_a:QE cf W a):QI cf W (.enum a):=by
 intro X XP k sc N mp m S T tg e h
 conv at h=>lhs;whnf
 split at h
 ·rename_i f p x q eu
  cases zV eu
  simp only[xa]at h
  obtain⟨⟨⟨h0,h1⟩,h2⟩,h3⟩:=h
  have ef:f= "enumerate" :=by
   unfold biB at h1
   simp only[xa,decide_eq_true_eq]at h1
   exact h1.1.1
  cases tg with
  |Tuple es x1 pt=>exact zdZ (ql S T h1 L2.boot_enumW (by decide) (by decide)) ef (ih_a _ _ _ _ _ _ _ S T x h3).1 (zu h2)
  |_=>simp[zaN]at h0
 ·cases h
theorem J7 {W:Wd}(a:IE)(ih_a:QE cf W a):QO cf W (.dat a):=by
 intro X XP k sc N mp m S T e h
 exact (ih_a _ _ _ _ _ _ _ S T e h).1.so
theorem J8 {W:Wd}(n:IN)(ih_n:QN cf W n):QO cf W (.own n):=by
 intro X XP k sc N mp m S T e h
 exact (ih_n _ _ _ _ _ _ _ S T e h).1.so
theorem Qa {W:Wd}(g:Str)(n:Nat)(a:IA)(ih_a:QA cf W a):QO cf W (.call g n a):=by
 intro X XP k sc N mp m S T e h
 conv at h=>lhs;whnf
 split at h
 ·rename_i f p xs q eu
  cases Qx eu
  simp only[xa,decide_eq_true_eq]at h
  obtain⟨⟨⟨⟨⟨h1,h2⟩,h3⟩,h4⟩,h5⟩,h6⟩:=h
  subst h1
  obtain⟨kn,hrun⟩:=T.fn _ _ h3
  cases xs with
  |nil=>
   cases a with
   |nil=>exact zbV T.px kn (Room.atk T) (S.glo _ h2) hrun (Zg h4)
   |cons _ _=>cases h6
   |io _ _ _=>cases h6
   |tmp _=>cases h6
  |cons x xs=>
   rw[uw,xa]at h5
   exact zd4 T.px kn (Room.atk T) (S.glo _ h2) hrun (ih_a _ _ _ _ _ _ _ S T (x::xs) h6) (Zg h4) (zu h5.1) (jy (wX h5.2))
 ·cases h
theorem Qb {W:Wd}(s i:Nat):QO cf W (.move s i):=by
 intro X XP k sc N mp m S T e g0
 obtain⟨⟨x,p⟩,eu,h⟩:=za g0
 clear g0
 cases zn eu
 have n:=wG S h
 exact zd5 n.hN n.hv n.hm n.hd n.hcd
theorem Z4 {W:Wd}(a:IE)(ih_a:QE cf W a):QE cf W (.lset a):=by
 intro X XP k sc N mp m S T e h
 conv at h=>lhs;whnf
 split at h
 ·rename_i f p x q eu
  split at h
  ·rename_i g p2 y q2 eu2
   cases zV eu
   cases zV eu2
   simp only[xa]at h
   obtain⟨⟨⟨h1,h2⟩,h3⟩,h4⟩:=h
   have ef:f= "len" :=by
    unfold biB at h1
    simp only[xa,decide_eq_true_eq]at h1
    exact h1.1.1
   have eg:g= "set" :=by
    unfold biB at h2
    simp only[xa,decide_eq_true_eq]at h2
    exact h2.1.1
   subst ef eg
   have B1:=ql S T h1 Qz (by decide) (by decide)
   have B2:=ql S T h2 boot_setW (by decide) (by decide)
   exact qA (zdP T.calm B1.gl B1.mg B2.gl B2.mg (ih_a _ _ _ _ _ _ _ S T y h4).1 (zu h3)) rfl
  ·cases h
 ·cases h
theorem J4 {W:Wd}:QL cf W .nil:=by
 intro X XP k sc N mp m S T es h
 cases es with
 |nil=>exact zgF
 |cons _ _=>cases h
theorem Z7 {W:Wd}(e:IE)(a:IL)(ih_e:QE cf W e)(ih_a:QL cf W a):QL cf W (.cons e a):=by
 intro X XP k sc N mp m S T es h
 cases es with
 |nil=>cases h
 |cons x xs=>
  replace h:=xQ.mp h
  try simp only[xa]at h
  obtain⟨⟨h1,h2⟩,h3⟩:=h
  exact zd1 (ih_e _ _ _ _ _ _ _ S T x h2).1 (ih_a _ _ _ _ _ _ _ S T xs h3) (zu h1)
theorem JH {W:Wd}:QA cf W .nil:=by
 intro X XP k sc N mp m S T es h
 cases es with
 |nil=>exact zgm
 |cons _ _=>cases h
theorem ZZ {W:Wd}(e:IE)(a:IA)(ih_e:QE cf W e)(ih_a:QA cf W a):QA cf W (.cons e a):=by
 intro X XP k sc N mp m S T es h
 cases es with
 |nil=>cases h
 |cons x xs=>
  replace h:=xQ.mp h
  try simp only[xa]at h
  obtain⟨⟨h1,h2⟩,h3⟩:=h
  exact zdK (ih_e _ _ _ _ _ _ _ S T x h2).1 (ih_a _ _ _ _ _ _ _ S T xs h3) (zu h1)
theorem Vb {W:Wd}(s i:Nat)(a:IA)(ih_a:QA cf W a):QA cf W (.io s i a):=by
 intro X XP k sc N mp m S T es h
 cases es with
 |nil=>cases h
 |cons e xs=>
  replace h:=xQ.mp h
  try simp only[xa]at h
  obtain⟨⟨x,p⟩,eu,h1⟩:=za h.1
  cases zn eu
  have n:=wG S h1
  exact zh1 n.hN n.hv n.hm n.hd n.hcd (ih_a _ _ _ _ _ _ _ S T xs h.2) rfl
theorem JJ {W:Wd}(n:IN)(ih_n:QN cf W n):QA cf W (.tmp n):=by
 intro X XP k sc N mp m S T es h
 match es,h with
 |[],h=>nomatch h
 |[x],h=>
  replace h:=xQ.mp h
  try simp only[xa]at h
  exact zgn (ih_n _ _ _ _ _ _ _ S T x h.2).1 (zu h.1)
 |_::_::_,h=>nomatch h
theorem J9 {W:Wd}:QP cf W .non:=by
 intro X XP k sc N mp m S T e h
 cases e with
 |none=>exact zd6
 |some _=>cases h
theorem wa {W:Wd}(a:IE)(ih_a:QE cf W a):QP cf W (.one a):=by
 intro X XP k sc N mp m S T e h
 cases e with
 |none=>cases h
 |some x=>exact zd8 (ih_a _ _ _ _ _ _ _ S T x h).1
theorem JL {W:Wd}:QC cf W .yes:=by
 intro X XP k sc N mp m S T es h
 cases es with
 |nil=>exact zgA
 |cons _ _=>cases h
theorem JK {W:Wd}(a:IE)(ih_a:QE cf W a):QC cf W (.one a):=by
 intro X XP k sc N mp m S T es h
 match es,h with
 |[],h=>nomatch h
 |[x],h=>exact zgB (ih_a _ _ _ _ _ _ _ S T x h).2
 |_::_::_,h=>nomatch h
theorem J3 {W:Wd}:QJ cf W .nil:=by
 intro X XP k sc N mp m S T e h
 cases e with
 |nil=>exact zgE
 |cons _ _=>exact Bool.noConfusion (show false=true from h)
theorem Qc {W:Wd}(a:IE)(o:IO)(ih_a:QE cf W a)(ih_o:QO cf W o):QO cf W (.pair a o):=by
 intro X XP k sc N mp m S T e g0
 obtain⟨⟨es,kk,p⟩,eu,g1⟩:=za g0
 clear g0
 cases Zt eu
 obtain⟨⟨x,y⟩,ez,h⟩:=za g1
 clear g1
 cases qI ez
 simp only[xa]at h
 obtain⟨⟨⟨h1,h2⟩,h3⟩,h4⟩:=h
 exact zd7 (ih_a _ XP _ _ _ _ _ S T x h3).1 (ih_o _ XP _ _ _ _ _ S T y h4) (zu h1) (zu h2)
theorem ZC(cf:CF)(W:Wd)(a:IE):QE cf W a:=IE.rec (motive_1:=QE cf W) (motive_2:=QL cf W) (motive_3:=QA cf W) (motive_4:=QN cf W) (motive_5:=QP cf W) (motive_6:=QI cf W) (motive_7:=QC cf W) (motive_8:=QO cf W) (motive_9:=QJ cf W) J1 JQ Z1 Z2 jU jW J0 JY JO JP jV JZ JX JN Vd JT Vc JU JR JM jX JS JW JV Z3 Z0 jT Z4 J4 Z7 JH ZZ Vb JJ J6 J5 Z9 jq Z8 J9 wa Z6 J2 jY Z5 JL JK J7 J8 Qa Qb Qc J3 a
theorem zh6(cf:CF)(W:Wd)(a:IA):QA cf W a:=IA.rec (motive_1:=QE cf W) (motive_2:=QL cf W) (motive_3:=QA cf W) (motive_4:=QN cf W) (motive_5:=QP cf W) (motive_6:=QI cf W) (motive_7:=QC cf W) (motive_8:=QO cf W) (motive_9:=QJ cf W) J1 JQ Z1 Z2 jU jW J0 JY JO JP jV JZ JX JN Vd JT Vc JU JR JM jX JS JW JV Z3 Z0 jT Z4 J4 Z7 JH ZZ Vb JJ J6 J5 Z9 jq Z8 J9 wa Z6 J2 jY Z5 JL JK J7 J8 Qa Qb Qc J3 a
theorem zh8(cf:CF)(W:Wd)(a:IN):QN cf W a:=IN.rec (motive_1:=QE cf W) (motive_2:=QL cf W) (motive_3:=QA cf W) (motive_4:=QN cf W) (motive_5:=QP cf W) (motive_6:=QI cf W) (motive_7:=QC cf W) (motive_8:=QO cf W) (motive_9:=QJ cf W) J1 JQ Z1 Z2 jU jW J0 JY JO JP jV JZ JX JN Vd JT Vc JU JR JM jX JS JW JV Z3 Z0 jT Z4 J4 Z7 JH ZZ Vb JJ J6 J5 Z9 jq Z8 J9 wa Z6 J2 jY Z5 JL JK J7 J8 Qa Qb Qc J3 a
theorem zh7(cf:CF)(W:Wd)(a:II):QI cf W a:=II.rec (motive_1:=QE cf W) (motive_2:=QL cf W) (motive_3:=QA cf W) (motive_4:=QN cf W) (motive_5:=QP cf W) (motive_6:=QI cf W) (motive_7:=QC cf W) (motive_8:=QO cf W) (motive_9:=QJ cf W) J1 JQ Z1 Z2 jU jW J0 JY JO JP jV JZ JX JN Vd JT Vc JU JR JM jX JS JW JV Z3 Z0 jT Z4 J4 Z7 JH ZZ Vb JJ J6 J5 Z9 jq Z8 J9 wa Z6 J2 jY Z5 JL JK J7 J8 Qa Qb Qc J3 a
theorem zbU(cf:CF)(W:Wd)(a:IO):QO cf W a:=IO.rec (motive_1:=QE cf W) (motive_2:=QL cf W) (motive_3:=QA cf W) (motive_4:=QN cf W) (motive_5:=QP cf W) (motive_6:=QI cf W) (motive_7:=QC cf W) (motive_8:=QO cf W) (motive_9:=QJ cf W) J1 JQ Z1 Z2 jU jW J0 JY JO JP jV JZ JX JN Vd JT Vc JU JR JM jX JS JW JV Z3 Z0 jT Z4 J4 Z7 JH ZZ Vb JJ J6 J5 Z9 jq Z8 J9 wa Z6 J2 jY Z5 JL JK J7 J8 Qa Qb Qc J3 a
end
mutual
/-- what may stand in a try -/
inductive IQ where
 |asg (s i:Nat) (o:IO)
 |expr (e:IE)
 |ite (c:IE) (a b:IQs)
inductive IQs where
 |nil
 |cons (q:IQ) (b:IQs)
end
set_option genSizeOfSpec false
set_option genInjectivity false
mutual
inductive IS where
 |pass
 |bad
 |asg (s i:Nat) (o:IO)
 |asgT (t:IT) (e:IE)
 |expr (e:IE)
 |ite (c:IE) (a b:IB)
 |loop (t:IT) (src:II) (b:IB)
 |wh (n:Nat) (c:IE) (b:IB)
 |ret (o:IO)
 |app (s i:Nat) (e:IE)
 |set (s i:Nat) (ie ve:IE)
 |raise (x:Str)
 |raiseB (c a:Str) (n:Nat) (e:IE)
 |tryB (f:Str) (n:Nat) (z:IA) (c a:Str) (t j:Nat) (v:HC) (u k:Nat)
 |aug (s i:Nat) (e:IE)
 |star (s i t j:Nat) (e:IE)
 |asgP (s i t j:Nat) (o:IO)
inductive IB where
 |nil
 |cons (s:IS) (b:IB)
end
set_option genSizeOfSpec true
set_option genInjectivity true
mutual
noncomputable def IQ.ex(cf:CF)(io:List Nat):IQ->SM
 |.asg _ i o=>sAsg io i (o.ev cf)
 |.expr e=>sExpr (e.ev cf).1
 |.ite c a b=>sIf (c.ev cf).2 (a.ex cf io) (b.ex cf io)
noncomputable def IQs.ex(cf:CF)(io:List Nat):IQs->SM
 |.nil=>sNext
 |.cons s .nil=>s.ex cf io
 |.cons s b=>sSeq (s.ex cf io) (b.ex cf io)
end
mutual
noncomputable def IS.ex(cf:CF)(io:List Nat):IS->SM
 |.pass=>sNext
 |.bad=>zh0
 |.asg _ i o=>sAsg io i (o.ev cf)
 |.asgT t e=>sAsgT t (e.ev cf).1
 |.expr e=>sExpr (e.ev cf).1
 |.ite c a b=>sIf (c.ev cf).2 (a.ex cf io) (b.ex cf io)
 |.loop t src b=>sFor t (src.ev cf) (b.ex cf io)
 |.wh n c b=>yW n (c.ev cf).2 (b.ex cf io)
 |.ret o=>sRet (o.ev cf)
 |.app _ i e=>sApp i (e.ev cf).1
 |.set _ i ie ve=>sSet i (ie.ev cf).1 (ve.ev cf).1
 |.raise x=>vL x
 |.raiseB c a n e=>vM c a n (e.ev cf).1
 |.tryB f _ z c a _ j v _ k=>VS io (cf f) (z.ev cf) c a j v k
 |.aug _ i e=>zdJ i (e.ev cf).1
 |.star _ i _ j e=>zbF io i j (e.ev cf).1
 |.asgP _ i _ j o=>YU io i j (o.ev cf)
noncomputable def IB.ex(cf:CF)(io:List Nat):IB->SM
 |.nil=>sNext
 |.cons s .nil=>s.ex cf io
 |.cons s b=>sSeq (s.ex cf io) (b.ex cf io)
end
noncomputable def Jv:IO->Option IN
 |.own n=>some n
 |.dat (.new n)=>some n
 |_=>none
noncomputable def zab(o:IO):Expr->Bool
 |.ListComp .. =>okO (Jv o) IN.plain
 |.SetComp .. =>false
 |.DictComp .. =>false
 |_=>true
noncomputable def Yc:Stmt->Option Pos
 |.Pass p=>some p
 |_=>none
noncomputable def Zh:Stmt->Option (Expr×Pos)
 |.Expr x p=>some (x,p)
 |_=>none
noncomputable def zet:Stmt->Option (Expr×List Stmt×List Stmt×Pos)
 |.If x xs ys p=>some (x,xs,ys,p)
 |_=>none
noncomputable def zcn:Stmt->Option (Expr×Expr×List Stmt×List Stmt×Pos)
 |.For tg it b e p=>some (tg,it,b,e,p)
 |_=>none
noncomputable def vS:Stmt->Option (Expr×List Stmt×List Stmt×Pos)
 |.While x b e p=>some (x,b,e,p)
 |_=>none
noncomputable def zcp:Stmt->Option (Option Expr×Pos)
 |.Return x p=>some (x,p)
 |_=>none
noncomputable def Y5:Stmt->Option (List Expr×Expr×Pos)
 |.Assign ts e p=>some (ts,e,p)
 |_=>none
theorem Yd (h:Yc e=some p):e=.Pass p:=by
 unfold Yc at h
 split at h
 ·cases h;rfl
 ·cases h
theorem jN (h:Zh e=some (x,p)):e=.Expr x p:=by
 unfold Zh at h
 split at h
 ·cases h;rfl
 ·cases h
theorem zco (h:zet e=some (x,xs,ys,p)):e=.If x xs ys p:=by
 unfold zet at h
 split at h
 ·cases h;rfl
 ·cases h
theorem KM (h:zcn e=some (x,y,xs,ys,p)):e=.For x y xs ys p:=by
 unfold zcn at h
 split at h
 ·cases h;rfl
 ·cases h
theorem V5 (h:vS e=some (x,xs,ys,p)):e=.While x xs ys p:=by
 unfold vS at h
 split at h
 ·cases h;rfl
 ·cases h
theorem KN (h:zcp e=some (x,p)):e=.Return x p:=by
 unfold zcp at h
 split at h
 ·cases h;rfl
 ·cases h
theorem KJ (h:Y5 e=some (ts,x,p)):e=.Assign ts x p:=by
 unfold Y5 at h
 split at h
 ·cases h;rfl
 ·cases h
noncomputable def zcd(s:Stmt):Option (Str×Pos×Str×Pos×List Expr×Pos×Pos):=(Zh s).bind fun (e,q2)=>(zep e).map fun (x,p,f,p2,xs,q)=>(x,p,f,p2,xs,q,q2)
theorem KA{st:Stmt}(h:zcd st=some (x,p,f,p2,xs,q,q2)):st=.Expr (.Call (.Attribute (.Name x p) f p2) xs [] q) q2:=by
 unfold zcd at h
 cases e1:Zh st with
 |none=>rw[e1]at h;cases h
 |some z=>
  obtain⟨e,q3⟩:=z
  cases e2:zep e with
  |none=>simp[e1,e2]at h
  |some z=>
   obtain⟨a1,a2,a3,a4,a5,a6⟩:=z
   simp[e1,e2]at h
   obtain⟨rfl,rfl,rfl,rfl,rfl,rfl,rfl⟩:=h
   rw[jN e1,zcj e2]
noncomputable def ZD(s:Stmt):Option (Expr×Expr×Pos):=(Y5 s).bind fun (ts,e,q)=>(Jr ts).map fun t=>(t,e,q)
theorem qr{st:Stmt}(h:ZD st=some (t,e,q)):st=.Assign [t] e q:=by
 unfold ZD at h
 cases e1:Y5 st with
 |none=>rw[e1]at h;cases h
 |some z=>
  obtain⟨ts,e',q'⟩:=z
  cases e2:Jr ts with
  |none=>simp[e1,e2]at h
  |some t'=>
   simp[e1,e2]at h
   obtain⟨rfl,rfl,rfl⟩:=h
   rw[KJ e1,qG e2]
noncomputable def JE:Stmt->Option (Option Expr×Option Expr×Pos)
 |.Raise x y p=>some (x,y,p)
 |_=>none
noncomputable def zcq:Stmt->Option (List Stmt×List ExceptHandler×List Stmt×List Stmt×Pos)
 |.Try b h e f p=>some (b,h,e,f,p)
 |_=>none
theorem Jl (h:JE e=some (x,y,p)):e=.Raise x y p:=by
 unfold JE at h
 split at h
 ·cases h;rfl
 ·cases h
theorem KO (h:zcq e=some (b,h1,e1,f,p)):e=.Try b h1 e1 f p:=by
 unfold zcq at h
 split at h
 ·cases h;rfl
 ·cases h
noncomputable def wE(sc:Scope)(x:Str):Bool:=decide (sc.names.lookup x=some .local)||decide (sc.names.lookup x=some .cell)
noncomputable def zfv (W:Wd) (sc:Scope) (x:Str):Bool:=ZN sc x&&W.ex.contains x&& !(x==("__debug__" :Str))
noncomputable def zcf:ExceptHandler->Option (Expr×Str×Stmt×Stmt×Pos)
 |.ExceptHandler (some e) (some n) [s,t] p=>some (e,n,s,t,p)
 |_=>none
theorem KB (h:zcf hd=some (e,n,s,t,p)):hd=.ExceptHandler (some e) (some n) [s,t] p:=by
 unfold zcf at h
 split at h
 ·cases h;rfl
 ·cases h
noncomputable def hcB:HC->Const->Bool
 |.s z,c=>okO (ky c) fun y=>decide (z=y)
 |.b b,c=>okO (Yu c) fun y=>decide (b=y)
theorem zfF{v:HC}(h:hcB v c=true):c=v.C:=by
 cases v with
 |s z=>
  obtain⟨y,e,h⟩:=za h
  rw[Qd e,of_decide_eq_true h];rfl
 |b z=>
  obtain⟨y,e,h⟩:=za h
  rw[Wz e,of_decide_eq_true h];rfl
noncomputable def zfG(sc:Scope)(N:List Str)(mp:List Nat)(t j:Nat)(v:HC)(s:Stmt):Bool:=okO (ZD s) fun a1=>okO (zL a1.1) fun y=>okO (Qw a1.2.1) fun cc=>hcB v cc.1&&decide (N[t]?=some y.1)&&decide (mp[t]?=some j)&&wE sc y.1
noncomputable def zfH(sc:Scope)(N:List Str)(mp:List Nat)(en a:Str)(u k:Nat)(s:Stmt):Bool:=okO (ZD s) fun a2=>okO (zL a2.1) fun w=>decide (N[u]?=some w.1)&&decide (mp[u]?=some k)&&wE sc w.1&&okO (Jj a2.2.1) fun at1=>decide (at1.2.1=a)&&okO (zL at1.1) fun nn=>decide (nn.1=en)
noncomputable def hdB (W:Wd) (sc:Scope) (N:List Str) (mp:List Nat) (c a:Str) (t j:Nat) (v:HC) (u k:Nat) (hd:ExceptHandler):Bool:=okO (zcf hd) fun (ct,en,s1,s2,_)=>okO (zL ct) (fun cn=>decide (cn.1=c))&&ZN sc c&&W.br.contains (c,a)&& !(c==("__debug__" :Str))&& !N.contains en&&decide (sc.names.lookup en=some .local)&& !(en==("__debug__" :Str))&& !(en==("__classdict__" :Str))&&zfG sc N mp t j v s1&&zfH sc N mp en a u k s2
theorem zdb {mp:List Nat}{t j:Nat}{v:HC}(h:zfG sc N mp t j v s=true):∃ y py cj pc pa,s=.Assign [.Name y py] (.Constant v.C cj pc) pa/\N[t]?=some y/\mp[t]?=some j/\wE sc y=true:=by
 obtain⟨⟨tg,v1,pa⟩,e1,g⟩:=za h
 clear h
 cases qr e1
 have gz:=za g
 clear g
 obtain⟨⟨y,py⟩,ey,g⟩:=gz
 cases zn ey
 have gz:=za g
 clear g
 obtain⟨⟨cc,cj,pc⟩,ecc,g⟩:=gz
 cases qE ecc
 simp only[xa,decide_eq_true_eq]at g
 obtain⟨⟨⟨w1,w2⟩,w3⟩,w4⟩:=g
 cases zfF w1
 exact⟨y,py,cj,pc,pa,rfl,w2,w3,w4⟩
theorem zdc {mp:List Nat}{u k:Nat}(h:zfH sc N mp en a u k s=true):∃ z pz pe pq pb,s=.Assign [.Name z pz] (.Attribute (.Name en pe) a pq) pb/\N[u]?=some z/\mp[u]?=some k/\wE sc z=true:=by
 obtain⟨⟨tg,v1,pb⟩,e1,g⟩:=za h
 clear h
 cases qr e1
 have gz:=za g
 clear g
 obtain⟨⟨z,pz⟩,ey,g⟩:=gz
 cases zn ey
 simp only[xa,decide_eq_true_eq]at g
 obtain⟨⟨⟨x1,x2⟩,x3⟩,g⟩:=g
 have gz:=za g
 clear g
 obtain⟨⟨ob,at1,pq⟩,eat,g⟩:=gz
 cases Zs eat
 simp only[xa,decide_eq_true_eq]at g
 obtain⟨z1,g⟩:=g
 subst z1
 have gz:=za g
 clear g
 obtain⟨⟨nn,pe⟩,enn,g⟩:=gz
 cases zn enn
 obtain rfl:nn=en:=of_decide_eq_true g
 exact⟨z,pz,pe,pq,pb,rfl,x1,x2,x3⟩
noncomputable def zcm:Stmt->Option (Expr×Operator×Expr×Pos)
 |.AugAssign t op e p=>some (t,op,e,p)
 |_=>none
noncomputable def zcl:Expr->Option (Expr×Pos)
 |.Starred x p=>some (x,p)
 |_=>none
theorem KL{st:Stmt}(h:zcm st=some (t,op,e,p)):st=.AugAssign t op e p:=by
 unfold zcm at h
 split at h
 ·cases h;rfl
 ·cases h
theorem KF (h:zcl e=some (x,p)):e=.Starred x p:=by
 unfold zcl at h
 split at h
 ·cases h;rfl
 ·cases h
noncomputable def vD:Expr->Bool
 |.ListComp .. =>false
 |.SetComp .. =>false
 |.DictComp .. =>false
 |_=>true
noncomputable def zO:Expr->Bool
 |.Tuple .. =>false
 |.ListComp .. =>false
 |.SetComp .. =>false
 |.DictComp .. =>false
 |_=>true
noncomputable def zcF(W:Wd)(sc:Scope)(N:List Str)(mp:List Nat)(m:Nat)(s i:Nat)(o:IO)(st:Stmt):Bool:=okO (ZD st) fun z=>okO (zL z.1) fun x=>decide (N[s]?=some x.1)&&decide (mp[s]?=some i)&&(decide (sc.names.lookup x.1=some .local)||decide (sc.names.lookup x.1=some .cell))&&zab o z.2.1&&o.chk W sc N mp m z.2.1
mutual
noncomputable def IQ.chk(W:Wd)(sc:Scope)(N:List Str)(mp:List Nat)(m:Nat):IQ->Stmt->Bool
 |.asg s i o,st=>zcF W sc N mp m s i o st
 |.expr e,st=>okO (Zh st) fun z=>zO z.1&&e.chk W sc N mp m z.1
 |.ite c a b,st=>okO (zet st) fun z=>c.chk W sc N mp m z.1&&a.chk W sc N mp m z.2.1&&b.chk W sc N mp m z.2.2.1
noncomputable def IQs.chk(W:Wd)(sc:Scope)(N:List Str)(mp:List Nat)(m:Nat):IQs->List Stmt->Bool
 |.nil,[]=>true
 |.cons s b,x::xs=>s.chk W sc N mp m x&&b.chk W sc N mp m xs
 |_,_=>false
end
mutual
noncomputable def IS.chk(W:Wd)(sc:Scope)(N:List Str)(mp:List Nat)(m np:Nat):IS->Stmt->Bool
 |.pass,st=>okO (Yc st) fun _=>true
 |.bad,_=>true
 |.asg s i o,st=>zcF W sc N mp m s i o st
 |.asgT t e,st=>okO (ZD st) fun z=>zaN z.1&&zO z.2.1&&va sc N mp np t z.1&&e.chk W sc N mp m z.2.1
 |.expr e,st=>okO (Zh st) fun z=>zO z.1&&e.chk W sc N mp m z.1
 |.ite c a b,st=>okO (zet st) fun z=>c.chk W sc N mp m z.1&&a.chk W sc N mp m np z.2.1&&b.chk W sc N mp m np z.2.2.1
 |.loop t src b,st=>okO (zcn st) fun z=>z.2.2.2.1.isEmpty&&jI z.2.1&&va sc N mp np t z.1&&src.chk W sc N mp m z.2.1 z.1&&b.chk W sc N mp m np z.2.2.1
 |.wh _ c b,st=>okO (vS st) fun z=>z.2.2.1.isEmpty&&c.chk W sc N mp m z.1&&b.chk W sc N mp m np z.2.1
 |.ret o,st=>okO (zcp st) fun z=>okO z.1 fun x=>o.chk W sc N mp m x
 |.app s i e,st=>okO (zcd st) fun (x,_,f,p2,xs,q,_)=>okO (Jr xs) fun a=>nmB sc N mp s i x&&decide (f= "append")&&zq a&&(p2.endLine==q.line)&&e.chk W sc N mp m a
 |.set s i ie ve,st=>okO (ZD st) fun z=>okO (Y4 z.1) fun y=>okO (zL y.1) fun x=>nmB sc N mp s i x.1&&jt y.2.1&&vD z.2.1&&ie.chk W sc N mp m y.2.1&&ve.chk W sc N mp m z.2.1
 |.raise x,st=>okO (JE st) fun z=>z.2.1.isNone&&okO z.1 fun e=>okO (un1 e) fun (f,_,a,_)=>decide (f=x)&&zfv W sc x&&okO (Qw a) fun c=>okO (ky c.1) fun _=>true
 |.raiseB c a n e,st=>okO (JE st) fun z=>z.2.1.isNone&&okO z.1 fun ee=>okO (un1 ee) fun (f,_,x,_)=>decide (f=c)&&ZN sc c&&W.br.contains (c,a)&& !(c==("__debug__" :Str))&&zq x&&mp.all (fun i=>decide (i<n))&&decide (np<=n)&&e.chk W sc N mp m x
 |.tryB f n z c a t j v u k,st=>okO (zcq st) fun (body,hds,els,fin,_)=>els.isEmpty&&fin.isEmpty&&okO (Jr body) (fun b=>okO (Zh b) fun x=>okO (unN x.1) fun (g,_,xs,_)=>decide (f=g)&&ZN sc f&&W.fl.contains (f,n)&& !(f==("__debug__" :Str))&& !xs.isEmpty&&xs.all zq&&z.chk W sc N mp m xs)&&okO (Jr hds) (hdB W sc N mp c a t j v u k)
 |.aug s i e,st=>okO (zcm st) fun z=>okO (zL z.1) fun x=>decide (z.2.1=.Add)&&nmB sc N mp s i x.1&&wE sc x.1&&e.chk W sc N mp m z.2.2.1
 |.star s i t j e,st=>okO (ZD st) fun z=>okO (W2 z.1) fun w=>okO (Wk w.1) fun ab=>okO (zL ab.1) fun x=>okO (zcl ab.2) fun c=>okO (zL c.1) fun y=>decide (N[s]?=some x.1)&&decide (mp[s]?=some i)&&wE sc x.1&&decide (N[t]?=some y.1)&&decide (mp[t]?=some j)&&wE sc y.1&&zO z.2.1&&e.chk W sc N mp m z.2.1
 |.asgP s i t j o,st=>okO (ZD st) fun z=>okO (W2 z.1) fun w=>okO (Wk w.1) fun ab=>okO (zL ab.1) fun x=>okO (zL ab.2) fun y=>decide (N[s]?=some x.1)&&decide (mp[s]?=some i)&&wE sc x.1&&decide (N[t]?=some y.1)&&decide (mp[t]?=some j)&&wE sc y.1&&decide (s≠t)&&zO z.2.1&&o.chk W sc N mp m z.2.1
noncomputable def IB.chk(W:Wd)(sc:Scope)(N:List Str)(mp:List Nat)(m np:Nat):IB->List Stmt->Bool
 |.nil,[]=>true
 |.cons s b,x::xs=>s.chk W sc N mp m np x&&b.chk W sc N mp m np xs
 |_,_=>false
end
theorem wZ (h:zO e=true):swapsWith e t l env=pure false:=by
 cases e<;>first | rfl | (simp[zO]at h)
theorem jM (h:zO e=true):swapsWithSole [t] e l env=pure false:=wZ (t:=some t) h
theorem jj (h:zO e=true):swappedStores [t] e env=pure none:=by
 have hm:(match (generalizing:=false) [t],e with
  |[.Tuple ts _ _],.Tuple vs _ _=>some (ts,vs)
  |[.List ts _],.Tuple vs _ _=>some (ts,vs)
  |_,_=>none)=(none:Option (List Expr×List Expr)):=by
  split
  ·simp[zO]at h
  ·simp[zO]at h
  ·rfl
 unfold swappedStores
 split
 ·rename_i q
  exact absurd (q.symm.trans hm) (fun z=>nomatch z)
 ·rfl
theorem WV (h:vD e=true):swapsWithSole [.Subscript x y p] e l env=pure false:=by
 show swapsWith e (some (.Subscript x y p)) l env=pure false
 cases e<;>first | rfl | (simp[vD]at h)
theorem wY :swappedStores [.Subscript x y p] e env=pure none:=by
 cases e<;>rfl
theorem Kx (h:zab o e=true)(hn:∀ a b c d,e≠ .ListComp a b c d)(hn2:∀ a b c d q,e≠ .DictComp a b c d q):swapsWith e (some (.Name x p)) l env=pure false:=by
 cases e with
 |ListComp a b c d=>exact absurd rfl (hn a b c d)
 |SetComp=>simp[zab]at h
 |DictComp a b c d q=>exact absurd rfl (hn2 a b c d q)
 |_=>rfl
theorem yY :∃ b:Bool,swapsWith (.ListComp elt gens scope q) (some (.Name x p)) l env=pure b:=⟨_,rfl⟩
theorem yi (h:jt b=true)(v:Value):assign (.Subscript o b p) env v=(do
  let ov<-holding [v] (eval o env)
  let iv<-holding [v,ov] (eval b env)
  standAt p
  holding [v,ov,iv] (setItem ov iv v)
  release [v,ov,iv] []):=by
 cases b<;>first | rfl | (simp[jt]at h)
variable [Cs]
structure XB(X:Cx)(XP:XPT)(mp io:List Nat)(np:Nat):Prop where
 po:PassesOwn (model X.prog X.w) X.A X.env X.xe
 nd:X.N.Nodup
 mn:mp.Nodup
 io:∀ i∈io,i<np
 rz:zhf X XP
 rb:RzB X XP
 sk:X.stack=X.env::X.outer
 fr:X.env.frame=some X.env.locals
noncomputable abbrev QS(cf:CF)(W:Wd)(a:IS):Prop:=∀ (X:Cx) (XP:XPT) (k:Nat) (sc:Scope) (N:List Str) (mp:List Nat) (m np:Nat) (io:List Nat),XSc X sc N->XW X XP cf W k->XB X XP mp io np->∀ (e:Stmt),a.chk W sc N mp m np e=true->SS X XP mp io e (a.ex cf io)
noncomputable abbrev QB(cf:CF)(W:Wd)(a:IB):Prop:=∀ (X:Cx) (XP:XPT) (k:Nat) (sc:Scope) (N:List Str) (mp:List Nat) (m np:Nat) (io:List Nat),XSc X sc N->XW X XP cf W k->XB X XP mp io np->∀ (e:List Stmt),a.chk W sc N mp m np e=true->SB X XP mp io e (a.ex cf io)
section
variable {cf:CF}{W:Wd}
theorem zcT:QS cf W .pass:=by
 intro X XP k sc N mp m np io S T B e g0
 obtain⟨p,eu,_⟩:=za g0
 clear g0
 cases Yd eu
 exact zeb
theorem zfi:QS cf W .bad:=fun X XP k sc N mp m np io S T B e h=>zgL
theorem v7 (h:Jv o=some n):o=.own n∨o=.dat (.new n):=by
 unfold Jv at h
 split at h<;>first | (cases h;exact .inl rfl) | (cases h;exact .inr rfl) | cases h
theorem ze6{X:Cx}{mp io:List Nat}(s i:Nat)(o:IO)(S:XSc X sc N)(T:XW X XP cf W k)(nd:X.N.Nodup)(mn:mp.Nodup)(st:Stmt)(g0:zcF W sc N mp m s i o st=true):SS X XP mp io st (sAsg io i (o.ev cf)):=by
 unfold zcF at g0
 obtain⟨⟨tx,e,q⟩,eu,g1⟩:=za g0
 clear g0
 cases qr eu
 obtain⟨⟨x,p⟩,ex,h⟩:=za g1
 clear g1
 cases zn ex
 simp only[xa,xO,decide_eq_true_eq]at h
 obtain⟨⟨⟨⟨h1,h2⟩,h3⟩,h4⟩,h5⟩:=h
 have hi:X.N[s]?=some x:=by rw[S.hN];exact h1
 have hx:Loc X.env.scope x:=by
  rcases h3 with h3 | h3
  ·exact .inl (S.loc x h3)
  ·exact .inr (S.cel x h3).1
 have hf:X.fn x=true∨X.env.scope.names.lookup x=some .local:=by
  rcases h3 with h3 | h3
  ·exact .inr (S.loc x h3)
  ·exact .inl (S.cel x h3).2
 have plain:swapsWith e (some (.Name x p)) q.line X.env=pure false->SS X XP mp io (.Assign [.Name x p] e q) (sAsg io i (o.ev cf)):=fun hsw=>
  zgJ nd hi hx hf mn h2 (zbU cf W o _ XP _ _ _ _ _ S T e h5) hsw
 by_cases hl:∃ a b c d,e=.ListComp a b c d
 ·obtain⟨elt,gens,scope,pc,rfl⟩:=hl
  obtain⟨bb,hb⟩:=yY (elt:=elt) (gens:=gens) (scope:=scope) (q:=pc) (x:=x) (p:=p) (l:=q.line) (env:=X.env)
  cases bb with
  |false=>exact plain hb
  |true=>
   obtain⟨n,en,hp⟩:=za (show okO (Jv o) IN.plain=true from h4)
   have go:n.chk W sc N mp m (.ListComp elt gens scope pc)=true->∀ (fo:EM OV),(∀ t,SNt XP mp t (n.ev cf)->SOt XP mp t fo)->SS X XP mp io (.Assign [.Name x p] (.ListComp elt gens scope pc) q) (sAsg io i fo):=fun hn fo hfo=>by
    obtain⟨tg,iter,ifs,N',kk,ix,rfl,C,hfold,hs⟩:=(zh8 cf W n _ XP _ _ _ _ _ S T _ hn).2 hp elt gens scope pc rfl
    exact YY (zdC nd hi hx T.calm C hb hfold hf) mn h2 (xb.mp hi).1 (hfo _ hs)
   rcases v7 en with rfl | rfl
   ·exact go h5 _ fun t ht=>ht.so
   ·exact go (xQ.mp (show IE.chk W sc N mp m (.new n) _=true from h5)).2 _ fun t ht=>ht.sd
 ·by_cases hl2:∃ a b c d q,e=.DictComp a b c d q
  ·obtain⟨kx,vx,gens,scope,pc,rfl⟩:=hl2
   exact Bool.noConfusion (show false=true from h4)
  ·exact plain (Kx h4 (fun a b c d z=>hl ⟨a,b,c,d,z⟩) fun a b c d q z=>hl2 ⟨a,b,c,d,q,z⟩)
theorem zfg(s i:Nat)(o:IO):QS cf W (.asg s i o):=by
 intro X XP k sc N mp m np io S T B st g0
 exact ze6 s i o S T B.nd B.mn st g0
theorem zcQ(t:IT)(e:IE):QS cf W (.asgT t e):=by
 intro X XP k sc N mp m np io S T B st g0
 obtain⟨⟨tx,x,q⟩,eu,h⟩:=za g0
 clear g0
 cases qr eu
 simp only[xa]at h
 obtain⟨⟨⟨h0,h1⟩,h2⟩,h3⟩:=h
 cases tx with
 |Tuple ts n p=>
  have hg:=JD (kp:=(·∈io)) S (by rw[<- S.hN];exact B.nd) B.mn T.calm (fun i hi hm=>absurd (B.io i hm) (by omega)) t _ h2
  exact zbY (ZC cf W e _ XP _ _ _ _ _ S T x h3).1 hg (jM h1) (jj h1) (vI ze vE (jM h1) (jj h1))
 |_=>cases h0
theorem zcR(a:IE):QS cf W (.expr a):=by
 intro X XP k sc N mp m np io S T B e g0
 obtain⟨⟨x,p⟩,eu,h⟩:=za g0
 clear g0
 cases jN eu
 rw[xa]at h
 exact zea (ZC cf W a _ XP _ _ _ _ _ S T x h.2).1 (wZ h.1)
theorem zfk(c:IE)(a b:IB)(ih_a:QB cf W a)(ih_b:QB cf W b):QS cf W (.ite c a b):=by
 intro X XP k sc N mp m np io S T B e g0
 obtain⟨⟨x,xs,ys,p⟩,eu,h⟩:=za g0
 clear g0
 cases zco eu
 simp only[xa]at h
 obtain⟨⟨h1,h2⟩,h3⟩:=h
 exact zh9 (ZC cf W c _ XP _ _ _ _ _ S T x h1).2 (ih_a _ XP _ _ _ _ _ _ _ S T B xs h2) (ih_b _ XP _ _ _ _ _ _ _ S T B ys h3)
theorem zcS(t:IT)(src:II)(b:IB)(ih_b:QB cf W b):QS cf W (.loop t src b):=by
 intro X XP k sc N mp m np io S T B e g0
 obtain⟨⟨tg,iter,body,els,p⟩,eu,h⟩:=za g0
 clear g0
 cases KM eu
 simp only[xa]at h
 obtain⟨⟨⟨⟨h0,h1⟩,h2⟩,h3⟩,h4⟩:=h
 cases els with
 |cons _ _=>cases h0
 |nil=>
  have hg:=JD (kp:=(·∈io)) S (by rw[<- S.hN];exact B.nd) B.mn T.calm (fun i hi hm=>absurd (B.io i hm) (by omega)) t _ h2
  exact zgM B.po T.calm (zh7 cf W src _ XP _ _ _ _ _ S T tg iter h3) hg (ih_b _ XP _ _ _ _ _ _ _ S T B body h4) (QM h1)
theorem zhn(n:Nat)(c:IE)(b:IB)(ih_b:QB cf W b):QS cf W (.wh n c b):=by
 intro X XP k sc N mp m np io S T B e g0
 obtain⟨⟨x,body,els,p⟩,eu,h⟩:=za g0
 clear g0
 cases V5 eu
 simp only[xa]at h
 obtain⟨⟨h0,h1⟩,h2⟩:=h
 cases els with
 |cons _ _=>cases h0
 |nil=>exact zb0 B.po (ZC cf W c _ XP _ _ _ _ _ S T x h1).2 (ih_b _ XP _ _ _ _ _ _ _ S T B body h2)
theorem zfl(o:IO):QS cf W (.ret o):=by
 intro X XP k sc N mp m np io S T B e g0
 obtain⟨⟨x,p⟩,eu,g1⟩:=za g0
 clear g0
 cases KN eu
 obtain⟨y,ey,h⟩:=za g1
 clear g1
 cases ey
 exact zgN (zbU cf W o _ XP _ _ _ _ _ S T y h)
theorem zff(s i:Nat)(e:IE):QS cf W (.app s i e):=by
 intro X XP k sc N mp m np io S T B st g0
 obtain⟨⟨x,p,f,p2,xs,q,q2⟩,eu,g1⟩:=za g0
 clear g0
 cases KA eu
 obtain⟨a,ea,h⟩:=za g1
 clear g1
 cases qG ea
 simp only[xa,decide_eq_true_eq]at h
 obtain⟨⟨⟨⟨h1,h2⟩,h3⟩,h4⟩,h5⟩:=h
 subst h2
 exact zgI (wG S h1) (ZC cf W e _ XP _ _ _ _ _ S T a h5).1 (zu h3) h4
theorem zfm(s i:Nat)(ie ve:IE):QS cf W (.set s i ie ve):=by
 intro X XP k sc N mp m np io S T B st g0
 obtain⟨⟨tx,a,q⟩,eu,g1⟩:=za g0
 clear g0
 cases qr eu
 obtain⟨⟨tn,b,p2⟩,et,g2⟩:=za g1
 clear g1
 cases W1 et
 obtain⟨⟨x,p⟩,ex,h⟩:=za g2
 clear g2
 cases zn ex
 simp only[xa]at h
 obtain⟨⟨⟨⟨h1,h2⟩,h3⟩,h4⟩,h5⟩:=h
 exact zgO (wG S h1) (ZC cf W ie _ XP _ _ _ _ _ S T b h4).1 (ZC cf W ve _ XP _ _ _ _ _ S T a h5).1 (WV h3) wY (fun he hg=>vI he hg (WV h3) wY) (fun ho hi hs=>zga ho hi hs (yi h2))
theorem ZO{X:Cx}(S:XSc X sc N)(h:wE sc x=true):Loc X.env.scope x/\(X.fn x=true∨X.env.scope.names.lookup x=some .local):=by
 unfold wE at h
 simp only[xO,decide_eq_true_eq]at h
 rcases h with h | h
 ·exact⟨.inl (S.loc x h),.inr (S.loc x h)⟩
 ·exact⟨.inr (S.cel x h).1,.inl (S.cel x h).2⟩
theorem zfw (S:XSc X sc N)(T:XW X XP cf W k)(h:zfv W sc x=true):∃ C,Y9 X x C/\W.ex.contains x=true:=by
 unfold zfv at h
 simp only[xa]at h
 obtain⟨⟨h1,h2⟩,h3⟩:=h
 obtain⟨C,e1,e2⟩:=T.ex x h2
 exact⟨C,⟨S.glo x h1,e1,e2,Zg h3⟩,h2⟩
theorem zak(x:Str):QS cf W (.raise x):=by
 intro X XP k sc N mp m np io S T B st g0
 obtain⟨⟨ee,cz,p⟩,eu,g1⟩:=za g0
 clear g0
 cases Jl eu
 simp only[xa]at g1
 obtain⟨g1,g2⟩:=g1
 obtain⟨e,ee1,g3⟩:=za g2
 clear g2
 cases ee1
 obtain⟨⟨f,p1,a,p2⟩,ea,g4⟩:=za g3
 clear g3
 cases zV ea
 simp only[xa,decide_eq_true_eq]at g4
 obtain⟨⟨h1,h2⟩,g5⟩:=g4
 obtain⟨⟨c,j,p3⟩,ec,g6⟩:=za g5
 clear g5
 cases qE ec
 obtain⟨z,ez,_⟩:=za g6
 clear g6
 cases Qd ez
 subst h1
 cases cz with
 |some _=>cases g1
 |none=>
  obtain⟨C,k,_⟩:=zfw S T h2
  exact zbZ k T.calm B.rz
theorem ku(c a:Str)(n:Nat)(e:IE):QS cf W (.raiseB c a n e):=by
 intro X XP k sc N mp m np io S T B st g0
 obtain⟨⟨ee,cz,p⟩,eu,g1⟩:=za g0
 clear g0
 cases Jl eu
 simp only[xa]at g1
 obtain⟨g1,g2⟩:=g1
 obtain⟨e1,ee1,g3⟩:=za g2
 clear g2
 cases ee1
 obtain⟨⟨f,p1,x,p2⟩,ea,g4⟩:=za g3
 clear g3
 cases zV ea
 simp only[xa,decide_eq_true_eq,xA]at g4
 obtain⟨⟨⟨⟨⟨⟨⟨h1,h2⟩,h3⟩,h4⟩,h5⟩,h6⟩,h7⟩,h8⟩:=g4
 subst h1
 cases cz with
 |some _=>cases g1
 |none=>
  obtain⟨C,fa,A,hB⟩:=T.br _ _ h3
  exact Kq hB T.rm (S.glo _ h2) T.calm (Zg h4) (ZC cf W e _ XP _ _ _ _ _ S T x h8).1 (zu h5) h6 (fun i hi=>xv (B.io i hi) h7) B.rb
theorem XW.tried{X:Cx}(T:XW X XP cf W k)(pins:List (Addr×Obj))(E:Value->Shared->Prop)(px:PxOk (X.tried pins E) XP'):XW (X.tried pins E) XP' cf W k:=⟨T.bi,T.gi,T.gs,T.fn,T.rm,T.hk,T.calm,T.ex,T.mr,T.gd,fun c f h=>⟨(T.fk c f h).cl,(T.fk c f h).no⟩,T.mc,T.ml,px,T.sk,T.br⟩
theorem XSc.tried{X:Cx}(S:XSc X sc N)(pins:List (Addr×Obj))(E:Value->Shared->Prop):XSc (X.tried pins E) sc N:=⟨S.hN,S.vis,S.loc,S.cel,S.fre,S.glo⟩
theorem zfI {sc:Scope}{mp:List Nat}(h:hdB W sc N mp c a t j v u k hd=true):∃ en np s1 s2 p,hd=.ExceptHandler (some (.Name c np)) (some en) [s1,s2] p/\ZN sc c=true/\W.br.contains (c,a)=true/\(c==("__debug__" :Str))=false/\en∉N/\sc.names.lookup en=some .local/\(en==("__debug__" :Str))=false/\(en==("__classdict__" :Str))=false/\zfG sc N mp t j v s1=true/\zfH sc N mp en a u k s2=true:=by
 obtain⟨⟨ct,en,s1,s2,p⟩,eA,g⟩:=za h
 clear h
 cases KB eA
 simp only[xa,decide_eq_true_eq]at g
 obtain⟨⟨⟨⟨⟨⟨⟨⟨⟨r1,r2⟩,r3⟩,r4⟩,r5⟩,r6⟩,r7⟩,r8⟩,g1⟩,g2⟩:=g
 have gz:=za r1
 clear r1
 obtain⟨⟨cn,np⟩,ec,r1⟩:=gz
 cases zn ec
 obtain rfl:cn=c:=of_decide_eq_true r1
 exact⟨en,np,s1,s2,p,rfl,r2,r3,Zg r4,by simpa using r5,r6,Zg r7,Zg r8,g1,g2⟩
theorem zcV(f:Str)(n:Nat)(z:IA)(c a:Str)(t j:Nat)(v:HC)(u k:Nat):QS cf W (.tryB f n z c a t j v u k):=by
 intro X XP kk sc N mp m np io S T B st g0
 obtain⟨⟨body,hds,els,fn,p⟩,eu,g1⟩:=za g0
 clear g0
 cases KO eu
 simp only[xa]at g1
 obtain⟨⟨⟨h1,h2⟩,g2⟩,g6⟩:=g1
 cases els with
 |cons _ _=>cases h1
 |nil=>
 cases fn with
 |cons _ _=>cases h2
 |nil=>
 obtain⟨hd,eh,g7⟩:=za g6
 clear g6
 cases qG eh
 obtain⟨en,pn,s1,s2,ph,rfl,r2,r3,r4,r5,r6,r7,r8,k1,k2⟩:=zfI g7
 obtain⟨y,py,cj,pc,pa,rfl,w2,w3,w4⟩:=zdb k1
 obtain⟨y2,pz,pe,pq,pb,rfl,x1,x2,x3⟩:=zdc k2
 obtain⟨b,eb,g3⟩:=za g2
 clear g2
 cases qG eb
 obtain⟨⟨x,px⟩,ex,g4⟩:=za g3
 clear g3
 cases jN ex
 obtain⟨⟨g,p1,xs,p2⟩,en',g5⟩:=za g4
 clear g4
 cases Qx en'
 simp only[xa,decide_eq_true_eq]at g5
 obtain⟨⟨⟨⟨⟨⟨q1,q2⟩,q3⟩,q4⟩,q5⟩,q6⟩,q7⟩:=g5
 subst q1
 cases xs with
 |nil=>cases q5
 |cons x0 xs=>
  obtain⟨kn,hrun⟩:=T.fn _ _ q3
  obtain⟨C,fa,A,hB⟩:=T.br _ _ r3
  obtain⟨l1,f1⟩:=ZO S w4
  obtain⟨l2,f2⟩:=ZO S x3
  rw[uw,xa]at q6
  exact zed hB kn T.rm (S.glo _ q2) (S.glo _ r2) r4 (Zg q4) hrun (fun pins E=>zh6 cf W z _ XP0 _ _ _ _ _ (S.tried pins E) (T.tried pins E YT) (x0::xs) q7) (zu q6.1) (jy (wX q6.2)) B.sk B.fr B.nd B.mn (by rw[S.hN];exact r5) (S.loc _ r6) r7 r8 (by rw[S.hN];exact w2) l1 f1 w3 (by rw[S.hN];exact x1) l2 f2 x2
theorem zgp {mp io:List Nat}{st:Stmt}(h:SS X XP mp io st f):SB X XP mp io [st] f:=fun M0 F Γ ν σ H D rs hs hl hp=>(Zo vJ).wp (h M0 F Γ ν σ H D rs hs hl hp)
theorem zfh(s i:Nat)(e:IE):QS cf W (.aug s i e):=by
 intro X XP k sc N mp m np io S T B st g0
 obtain⟨⟨t,op,v,p⟩,eu,g1⟩:=za g0
 clear g0
 cases KL eu
 obtain⟨⟨x,px⟩,ex,h⟩:=za g1
 clear g1
 cases zn ex
 simp only[xa,decide_eq_true_eq]at h
 obtain⟨⟨⟨h1,h2⟩,h3⟩,h4⟩:=h
 subst h1
 obtain⟨l1,l2⟩:=ZO S h3
 exact zgK (wG S h2) B.nd l1 l2 (ZC cf W e _ XP _ _ _ _ _ S T v h4).1
theorem zcU(s i t j:Nat)(e:IE):QS cf W (.star s i t j e):=by
 intro X XP k sc N mp m np io S T B st g0
 obtain⟨⟨tg,v,p⟩,eu,g1⟩:=za g0
 clear g0
 cases qr eu
 obtain⟨⟨es,kk,p2⟩,et,g2⟩:=za g1
 clear g1
 cases Zt et
 obtain⟨⟨a,b⟩,eab,g3⟩:=za g2
 clear g2
 cases qI eab
 obtain⟨⟨x,px⟩,ex,g4⟩:=za g3
 clear g3
 cases zn ex
 obtain⟨⟨c,pc⟩,ec,g5⟩:=za g4
 clear g4
 cases KF ec
 obtain⟨⟨y,py⟩,ey,h⟩:=za g5
 clear g5
 cases zn ey
 simp only[xa,decide_eq_true_eq]at h
 obtain⟨⟨⟨⟨⟨⟨⟨h1,h2⟩,h3⟩,h4⟩,h5⟩,h6⟩,h7⟩,h8⟩:=h
 obtain⟨l1,l2⟩:=ZO S h3
 obtain⟨l3,l4⟩:=ZO S h6
 exact zec T.calm B.nd B.mn (by rw[S.hN];exact h1) l1 l2 h2 (by rw[S.hN];exact h4) l3 l4 h5 (ZC cf W e _ XP _ _ _ _ _ S T v h8).1 (jM h7) (jj h7)
theorem zfd:QB cf W .nil:=by
 intro X XP k sc N mp m np io S T B e h
 cases e with
 |nil=>exact zgo
 |cons _ _=>exact Bool.noConfusion (show false=true from h)
theorem zcN(s:IS)(b:IB)(ih_s:QS cf W s)(ih_b:QB cf W b):QB cf W (.cons s b):=by
 intro X XP k sc N mp m np io S T B e h
 cases e with
 |nil=>exact Bool.noConfusion (show false=true from h)
 |cons x xs=>
  replace h:=xQ.mp h
  try simp only[xa]at h
  have h1:=ih_s _ XP _ _ _ _ _ _ _ S T B x h.1
  have h2:=ih_b _ XP _ _ _ _ _ _ _ S T B xs h.2
  cases b with
  |nil=>
   cases xs with
   |nil=>exact zgp h1
   |cons _ _=>exact Bool.noConfusion (show false=true from h.2)
  |cons s' b'=>exact zdM h1 h2
theorem zcP(s i t j:Nat)(o:IO):QS cf W (.asgP s i t j o):=by
 intro X XP k sc N mp m np io S T B st g0
 obtain⟨⟨tx,v,q⟩,e1,g1⟩:=za g0
 clear g0
 cases qr e1
 obtain⟨⟨es,kk,pt⟩,e2,g2⟩:=za g1
 clear g1
 cases Zt e2
 obtain⟨⟨a,b⟩,e3,g3⟩:=za g2
 clear g2
 cases qI e3
 obtain⟨⟨x,px⟩,e4,g4⟩:=za g3
 clear g3
 cases zn e4
 obtain⟨⟨y,py⟩,e5,h⟩:=za g4
 clear g4
 cases zn e5
 simp only[xa,decide_eq_true_eq]at h
 obtain⟨⟨⟨⟨⟨⟨⟨⟨h1,h2⟩,h3⟩,h4⟩,h5⟩,h6⟩,h7⟩,h8⟩,h9⟩:=h
 obtain⟨l1,l2⟩:=ZO S h3
 obtain⟨l3,l4⟩:=ZO S h6
 exact zd9 T.calm B.nd (by rw[S.hN];exact h1) l1 l2 (by rw[S.hN];exact h4) l3 l4 B.mn h2 h5 h7 (zbU cf W o _ XP _ _ _ _ _ S T v h9) (jM h8) (jj h8)
theorem zeV(cf:CF)(W:Wd)(a:IB):QB cf W a :=
 IB.rec (motive_1:=QS cf W) (motive_2:=QB cf W) zcT zfi zfg zcQ zcR zfk zcS zhn zfl zff zfm zak ku zcV zfh zcU zcP zfd zcN a
end
inductive Kd where
 |fn
 |me (c m:Str)
 |ini (c:Str)
 deriving DecidableEq
structure DefI where
 name:Str
 st:Stmt
 ps:List Str
 N:List Str
 mask:List Bool
 io:List Nat
 body:IB
 kd:Kd:=.fn
noncomputable def outs:List Bool->Gv->List (Option OV)
 |[],_=> []
 |_::bs,[]=>none::outs bs []
 |b::bs,x::Γ=>(if b then x else none)::outs bs Γ
theorem wK:∀ (bs:List Bool) (Γ:Gv),(outs bs Γ).length=bs.length
 |[],_=>rfl
 |_::bs,[]=>by rw[outs,xn,wK,xn]
 |b::bs,x::Γ=>by rw[outs,xn,wK,xn]
theorem wJ:∀ {bs:List Bool}{Γ:Gv}{j:Nat}{o:OV},(outs bs Γ)[j]?=some (some o)->bs[j]?=some true/\Γ[j]?=some (some o)
 |[],_,_,_,h=>by simp[outs]at h
 |b::bs,[],0,_,h=>by simp[outs]at h
 |b::bs,[],j+1,o,h=>by
  have:=wJ (bs:=bs) (Γ:= []) (j:=j) (o:=o) (by simpa [outs] using h)
  simp at this
 |b::bs,x::Γ,0,o,h=>by
  simp only[outs,List.getElem?_cons_zero,Option.some.injEq]at h
  split at h
  ·rename_i hb;subst h;exact⟨by simp[hb],rfl⟩
  ·cases h
 |b::bs,x::Γ,j+1,o,h=>by
  have:=wJ (bs:=bs) (Γ:=Γ) (j:=j) (o:=o) (by simpa [outs] using h)
  simpa using this
noncomputable def fin(mask:List Bool):R (FL×Gv)->RF
 |.ok (.ret o,Γ)=>.ok o (outs mask Γ)
 |.ok (.next,Γ)=>.ok (.d .none) (outs mask Γ)
 |.exc x Γ=>match x.pay with
  |.none=>.exc x (outs mask Γ)
  |.str a=>match Γ.getLast? with
   |some (some o)=>if mask.length<Γ.length then .xp x.cls a o (outs mask Γ.dropLast) else .bad
   |_=>.bad
  |_=>.bad
 |_=>.bad
noncomputable def DefI.run(d:DefI)(cf:CF)(args:List OV):RF:=if args.length=d.mask.length then fin d.mask (d.body.ex cf d.io (args.map some++List.replicate (d.N.length-d.mask.length) none)) else .bad
theorem DefI.run_lenX{d:DefI}{args:List OV}(h:d.run cf args≠ .bad):args.length=d.mask.length:=by
 unfold DefI.run at h
 split at h
 ·assumption
 ·exact absurd rfl h
theorem DefI.run_pay{d:DefI}{x:Exc}(h:d.run cf args=.exc x o):x.pay=.none:=by
 unfold DefI.run at h
 split at h
 ·generalize d.body.ex cf d.io (args.map some++List.replicate (d.N.length-d.mask.length) none)=r at h
  unfold fin at h
  split at h
  ·cases h
  ·cases h
  ·split at h
   ·rename_i e
    cases h;exact e
   ·split at h
    ·split at h<;>cases h
    ·cases h
   ·cases h
  ·cases h
 ·cases h
theorem DefI.ran(d:DefI)(cf:CF):Ran d.mask.length (d.run cf):=fun _=>⟨DefI.run_lenX,fun _ _=>DefI.run_pay⟩
noncomputable def zi(defs:List DefI):Nat->CF
 |0,_,_=>.bad
 |n+1,x,args=>match defs.find? fun d=>decide (d.name=x) with
  |some d=>d.run (zi defs n) args
  |none=>.bad
section
variable {M0:Addr->Prop}{F:Fp}{Γ:Gv}{ν:Nu}{H:Hp}
theorem RS.outs {mask:List Bool}{us:List V}(r:RS M0 F (Γ++ [some o]) (ν++ [some v]) H)(hu:us.length=mask.length)(hν:∀ j:Nat,mask[j]?=some true->ν[j]?=(us[j]?).map some) :
  ∃ F',RS M0 F' (outs mask Γ++ [some o]) (us.map some++ [some v]) H/\Stp F H F' H:=by
 have hνl:ν.length=Γ.length:=by have:=r.len;simpa using this
 have hjl:∀ j:Nat,mask[j]?=some true->j<Γ.length:=fun j hj=>by
  have h1:j<us.length:=by rw[hu];exact (xb.mp hj).1
  have h2:=hν j hj
  rw[xg h1]at h2
  have:=(xb.mp h2).1
  omega
 let n:=mask.length
 let F':Fp:=fun j=>if j<n then (if mask[j]?=some true then F j else []) else if j=n then F Γ.length else []
 have g1:∀ j,j<n->mask[j]?=some true->F' j=F j:=fun j h1 h2=>by show (if j<n then _ else _)=_;rw[if_pos h1,if_pos h2]
 have g2:∀ j,j<n->mask[j]?≠some true->F' j= []:=fun j h1 h2=>by show (if j<n then _ else _)=_;rw[if_pos h1,if_neg h2]
 have g3:F' n=F Γ.length:=by show (if n<n then _ else _)=_;rw[if_neg (uf _),if_pos rfl]
 have g4:∀ j,n<j->F' j= []:=fun j h=>by show (if j<n then _ else _)=_;rw[if_neg (by omega),if_neg (by omega)]
 have cls:∀ j a,a∈F' j->(j<n/\mask[j]?=some true/\a∈F j)∨(j=n/\a∈F Γ.length):=fun j a h=>by
  by_cases h1:j<n
  ·by_cases h2:mask[j]?=some true
   ·rw[g1 j h1 h2]at h;exact .inl ⟨h1,h2,h⟩
   ·rw[g2 j h1 h2]at h;cases h
  ·by_cases h2:j=n
   ·subst h2;rw[g3]at h;exact .inr ⟨rfl,h⟩
   ·rw[g4 j (by omega)]at h;cases h
 have st:Stp F H F' H:=Zr fun j a h=>by
  rcases cls j a h with ⟨_,_,h⟩ | ⟨_,h⟩
  ·exact⟨_,h⟩
  ·exact⟨_,h⟩
 have hol:(L3.outs mask Γ).length=n:=wK _ _
 refine⟨F',⟨r.al0,fun j a h=>?_,fun j=>?_,fun j k a h1 h2=>?_,fun j p e=>?_,fun j h=>?_,by simp[hol,hu,n]⟩,st⟩
 ·rcases cls j a h with ⟨_,_,h⟩ | ⟨_,h⟩
  ·exact r.dis0 _ a h
  ·exact r.dis0 _ a h
 ·by_cases h1:j<n
  ·by_cases h2:mask[j]?=some true
   ·rw[g1 j h1 h2];exact r.nd _
   ·rw[g2 j h1 h2];exact .nil
  ·by_cases h2:j=n
   ·subst h2;rw[g3];exact r.nd _
   ·rw[g4 j (by omega)];exact .nil
 ·rcases cls j a h1 with ⟨l1,m1,z1⟩ | ⟨rfl,z1⟩
  ·rcases cls k a h2 with ⟨l2,m2,z2⟩ | ⟨rfl,z2⟩
   ·exact r.dis _ _ a z1 z2
   ·have:=r.dis _ _ a z1 z2;have:=hjl _ m1;omega
  ·rcases cls k a h2 with ⟨l2,m2,z2⟩ | ⟨rfl,z2⟩
   ·have:=r.dis _ _ a z1 z2;have:=hjl _ m2;omega
   ·rfl
 ·by_cases hj:j<n
  ·rw[xc (by omega)]at e
   obtain⟨hm,hg⟩:=wJ e
   have hjj:=hjl j hm
   obtain⟨w,ew,q⟩:=r.at' j p (by rw[xc (by omega)];exact hg)
   rw[xc (by omega),hν j hm]at ew
   refine⟨w,?_,?_⟩
   ·rw[xc (by simp[hu];exact hj),xk];exact ew
   ·rw[g1 j hj hm];exact q.go (fun _ _ x=>zw st r.al0 x) st.tups fun _ _=>rfl
  ·have hjn:j=n:=by
    have:=(xb.mp e).1
    simp[hol]at this;omega
   subst hjn
   rw[xf (by omega),hol]at e
   have:o=p:=by simpa using e
   subst this
   obtain⟨w,ew,q⟩:=r.at' Γ.length o (by rw[xf (xh _)];simp)
   rw[xf (by omega),hνl]at ew
   have:v=w:=by simpa using ew
   subst this
   refine⟨v,?_,?_⟩
   ·rw[xf (by simp[hu,n]),xo,hu];simp[n]
   ·rw[g3];exact q.go (fun _ _ x=>zw st r.al0 x) st.tups fun _ _=>rfl
 ·by_cases hj:j<n
  ·by_cases hm:mask[j]?=some true
   ·rw[g1 j hj hm]
    have hjj:=hjl j hm
    refine r.emp j fun p ep=>?_
    rw[xc (by omega)]at ep
    refine h p ?_
    rw[xc (by omega)]
    exact outs_put hm ep
   ·exact g2 j hj hm
  ·by_cases hjn:j=n
   ·subst hjn
    exact absurd (by rw[xf (by omega),hol];simp[n]) (h o)
   ·exact g4 j (by omega)
where
 outs_put:∀ {bs:List Bool} {Γ:Gv} {j:Nat} {o:OV},bs[j]?=some true->Γ[j]?=some (some o)->(L3.outs bs Γ)[j]?=some (some o)
  |[],_,_,_,h,_=>by simp at h
  |b::bs,[],_,_,_,h=>by simp at h
  |b::bs,x::Γ,0,o,h,e=>by
   simp at h e
   subst h e
   simp[L3.outs]
  |b::bs,x::Γ,j+1,o,h,e=>by
   have:=outs_put (bs:=bs) (Γ:=Γ) (j:=j) (o:=o) (by simpa using h) (by simpa using e)
   simpa [L3.outs] using this
end
noncomputable def ZT(N ps:List Str)(sc:Scope):Bool:=decide (sc.kind=.function)&& !sc.isCoroutine&& !sc.isGenerator&&decide N.Nodup&&decide (N.take ps.length=ps)&&ps.all (fun x=>decide (sc.names.lookup x=some .local)||decide (sc.names.lookup x=some .cell))&&sc.names.all (fun y=>decide (y.2≠ .free))
theorem Qt (h:ZT N ps sc=true):qN N ps sc:=by
 unfold ZT at h
 simp only[xa,decide_eq_true_eq,xA,xO,Bool.not_eq_true']at h
 obtain⟨⟨⟨⟨⟨⟨h1,h2⟩,h3⟩,h4⟩,h5⟩,h6⟩,h7⟩:=h
 exact⟨h1,h2,h3,h4,h5,h6,h7⟩
noncomputable def DefI.ok(W:Wd)(d:DefI):Bool:=ZT d.N d.ps (defScope d.st)&&decide (d.ps.length=d.mask.length)&&d.io.all (fun i=>decide (d.mask[i]?=some true))&&(List.range d.mask.length).all (fun j=>decide (d.mask[j]?≠some true)||d.io.contains j)
 && d.body.chk W (defScope d.st) d.N (List.range d.N.length) d.N.length d.mask.length (defBody d.st)
structure WK(P:Program)(w:World)(K:PySem.W.Frag)(mg:Str->Option Value)(base:Heap)(cf:CF)(W:Wd)(k:Nat):Prop where
 bi:∀ x,W.bi.contains x=true->mg x=none
 gi:∀ x i,W.gi.contains (x,i)=true->∃ t,mg x=some (.int i t)
 gs:∀ x i,W.gs.contains (x,i)=true->∃ t,mg x=some (.str i t)
 fn:∀ x n,W.fl.contains (x,n)=true->Kn P w K mg base (CX1 P w) x k (spX mg n (cf x))/\Ran n (cf x)
 ex:∀ x,W.ex.contains x=true->∃ C,mg x=some (.ref C)/\PySem.W.excIn K C bmV "ValueError.__new__" =true
 mr:∀ x C y C2,W.ex.contains x=true->mg x=some (.ref C)->W.ex.contains y=true->mg y=some (.ref C2)->(mroIn K C).contains (.ref C2)=decide (x=y)
 gd:∀ x kf,W.gd.contains (x,kf)=true->GD w K mg x kf
 fk:∀ c f,W.fk.contains (c,f)=true->Cls K (Cs.adr c)/\ZG K (Cs.adr c) f
 mc:∀ c q n,W.mc.contains (c,q,n)=true->mg c=some (.ref (Cs.adr c))/\(∃ j,j+1<=k/\KnI P w K mg base (CX1 P w) (Cs.adr c) j (spX mg n (cf q)))/\Ran n (cf q)
 ml:∀ c m q n,W.ml.contains (c,m,q,n)=true->KnM P w K mg base (CX1 P w) (Cs.adr c) m k (spX mg n (cf q))/\Ran n (cf q)
 br:∀ c a,W.br.contains (c,a)=true->∃ C f A,KnB P w K mg base c a k C f A
noncomputable def Lk(K:PySem.W.Frag)(mg:Str->Option Value)(f:Addr)(nm:Str):Kd->Prop
 |.fn=>mg nm=some (.ref f)
 |.me c m=>Cls K (Cs.adr c)/\ze2 K (Cs.adr c) m f
 |.ini c=>Mk K (Cs.adr c) f/\mg c=some (.ref (Cs.adr c))
structure Dx(K:PySem.W.Frag)(mg:Str->Option Value)(d:DefI):Prop where
 ex:∃ (x:Str) (f:Addr) (fd:FuncData),Fun K x d.name d.st f fd/\Binds K fd d.ps []/\Lk K mg f d.name d.kd
section
variable {P:Program}{w:World}{K:PySem.W.Frag}{mg:Str->Option Value}{base:Heap}{cf:CF}{W:Wd}{k:Nat}
theorem zg7 :XSc (Zv CX0 P w K mg base N x sc f cdv A outer s H E).nox sc N where
 hN:=rfl
 vis x h:=by
  unfold vT at h
  simp only[xO,decide_eq_true_eq]at h
  rcases h with (h | h) | h
  ·exact .inl h
  ·exact .inr (.inl h)
  ·exact .inr (.inr h)
 loc x h:=h
 cel x h:=⟨h,rfl⟩
 fre x h:=.inr h
 glo x h:=by
  unfold ZN at h
  simp only[decide_eq_true_eq]at h
  exact h
theorem zeB :XSc (Zv (CX1 P w) P w K mg base N x sc f cdv A outer s H E) sc N where
 hN:=rfl
 vis x h:=by
  unfold vT at h
  simp only[xO,decide_eq_true_eq]at h
  rcases h with (h | h) | h
  ·exact .inl h
  ·exact .inr (.inl h)
  ·exact .inr (.inr h)
 loc x h:=h
 cel x h:=⟨h,rfl⟩
 fre x h:=.inr h
 glo x h:=by
  unfold ZN at h
  simp only[decide_eq_true_eq]at h
  exact h
theorem zdT :Sees (List.range n) ν ν:=fun s i v e1 e2=>by
 have hs:s<n:=by
  have:=(xb.mp e1).1
  simpa using this
 rw[ux hs]at e1
 cases e1
 exact e2
noncomputable def XPd(mg:Str->Option Value)(E:XK):XPT:=fun x _ _ ν _ H=>∀ C,mg x.cls=some (.ref C)->match x.pay with
 |.none=>E (.ref C) none H
 |.str a=>∀ d v,ν.getLast?=some (some v)->H d=some (.xd [(a,v)])->E (.ref C) (some d) H
 |_=>False
theorem zgh :
  PxOk (Zv (CX1 P w) P w K mg base N x sc f cdv A outer s H E) (XPd mg E):=fun σ pins H1 e s' x Γ F ν C h1 hy h2 u=>Vf u rfl rfl rfl (by have:=h2 C h1;rw[hy]at this;exact this)
theorem YE {st:Stmt}{N ps:List Str}(F:Fun K x qual st f fd)(S:qN N ps (defScope st))(len:∀ vs H Q E,sp vs H Q E->vs.length=ps.length)
  (hbody:∀ (cdv:Value) (A:Around) (outer:List Env) (s:Shared) (H:Hp) (vs:List V) (Q:VK) (E:XK),Room k (A.deeper (envOfC qual (defScope st) s.heap.objs.size f cdv))->sp vs H Q E ->
   wpB (Zv (CX1 P w) P w K mg base N qual (defScope st) f cdv A outer s H E) (defBody st) { nx:=fun _ H'=>Q .non H',rt:=Q } (start N vs) H):FnOk P w K mg base (CX1 P w) (k+1) f fd ps sp:=by
 obtain⟨oc,od,kV,doc,pm,an,cdv,ct,osl,rfl,lk,hcd⟩:=F.ex
 exact zaB lk hcd S len fun A outer s H vs Q E hr hsp=>⟨_,qj,hbody cdv A outer s H vs Q E hr hsp⟩
theorem zhu{d:DefI}(D:Fun K x d.name d.st f fd)(hok:d.ok W=true)(T:WK P w K mg base cf W k)(hk:1<=k):FnOk P w K mg base (CX1 P w) (k+1) f fd d.ps (spX mg d.mask.length (d.run cf)):=by
 unfold DefI.ok at hok
 simp only[xa,decide_eq_true_eq,xA,xO]at hok
 obtain⟨⟨⟨⟨h1,h2⟩,h3⟩,h4⟩,h5⟩:=hok
 have S:=Qt h1
 have hNl:d.mask.length<=d.N.length:=by
  have:=congrArg List.length S.pre
  rw[ud]at this;omega
 refine YE D S (fun vs H Q E h=>by rw[h.1,h2]) fun cdv A outer s H vs Q E hr hsp=>?_
 obtain⟨hv,M0,F,args,rs,hm⟩:=hsp
 have hal:args.length=d.mask.length:=by have:=rs.len;simpa [hv] using this.symm
 have rs1:=rs.ext (d.N.length-d.mask.length)
 have hst:L2.start d.N vs=vs.map some++List.replicate (d.N.length-d.mask.length) none:=by unfold L2.start;rw[hv]
 rw[hst]
 have hsl:(vs.map some++List.replicate (d.N.length-d.mask.length) none:L2.St).length=d.N.length:=by simp[hv];omega
 refine zeV cf W d.body (Zv (CX1 P w) P w K mg base d.N d.name (defScope d.st) f cdv A outer s H E) (XPd mg E) k (defScope d.st) d.N (List.range d.N.length) d.N.length d.mask.length d.io zeB
  ⟨T.bi,T.gi,T.gs,T.fn,hr,hk,rfl,T.ex,T.mr,T.gd,fun c f h=>⟨(T.fk c f h).1,(T.fk c f h).2⟩,T.mc,T.ml,zgh,⟨_,_,_,rfl,rfl,rfl⟩,T.br⟩ ⟨PassesOwn.leaving,S.nd,List.nodup_range,fun i hi=>?_,(fun x Γ F ν σ H' hy h C hC pins s1 I h' ea hm=>Je I rfl rfl rfl hm (by have:=h C hC;rw[hy]at this;exact this)),(fun c a Γ F ν σ H' d v h hd C hC pins s1 I h' ea hm=>Je I rfl rfl rfl hm (h C hC d v (by simp) hd)),rfl,rfl⟩ (defBody d.st) h5 M0 F _ _ _ H _ rs1 zdT hsl ?_
 ·exact (xb.mp (h3 i hi)).1
 ·have back:∀ {F':Fp} {Γ':Gv} {ν':Nu} {o:OV} {v:V} {H':Hp} {G:Prop},RS M0 F' (Γ'++ [some o]) (ν'++ [some v]) H'->(∀ i∈d.io,ν'[i]?=(vs.map some++List.replicate (d.N.length-d.mask.length) none:Nu)[i]?)->Stp F H F' H' ->
    (∀ F',RS M0 F' (outs d.mask Γ'++ [some o]) (vs.map some++ [some v]) H'->Stp F H F' H'->G)->G:=fun {F' Γ' ν' o v H' G} r' hn s' hq=>by
   obtain⟨F2,r2,s2⟩:=r'.outs hv fun j hj=>by
    have hjl:j<d.mask.length:=(xb.mp hj).1
    have hjm:j∈d.io:=by
     rcases h4 j (xL.mpr hjl)with z | z
     ·exact absurd hj z
     ·simpa using z
    rw[hn j hjm,xc (by simp[hv];exact hjl),xk]
   exact hq F2 r2 (s'.trans s2)
  unfold DefI.run at hm
  rw[if_pos hal]at hm
  generalize d.body.ex cf d.io (args.map some++List.replicate (d.N.length-d.mask.length) none)=rr at hm
  cases rr with
  |bad=>exact hm.elim
  |exc x Γ'=>
   intro F' ν' σ' H' r' s' _ _ hn C hC
   unfold fin at hm
   dsimp only at hm
   cases hpay:x.pay with
   |none=>
    rw[hpay]at hm
    exact back (r'.newD .none) hn s' fun F2 r2 s2=>hm C hC F2 H' r2 s2
   |str a=>
    rw[hpay]at hm
    dsimp only at hm
    cases hgl:Γ'.getLast? with
    |none=>rw[hgl]at hm;exact hm.elim
    |some oo=>
     rw[hgl]at hm
     cases oo with
     |none=>exact hm.elim
     |some o=>
      dsimp only at hm
      by_cases hlt:d.mask.length<Γ'.length
      ·rw[if_pos hlt]at hm
       intro dx v hv hdx
       obtain⟨Γ0,rfl⟩:=List.getLast?_eq_some_iff.mp hgl
       obtain⟨ν0,rfl⟩:=List.getLast?_eq_some_iff.mp hv
       rw[List.dropLast_concat]at hm
       have hl2:ν0.length=Γ0.length:=by have:=r'.len;simpa using this
       refine back r' (fun i hi=>?_) s' fun F2 r2 s2=>hm C hC F2 v dx H' r2 s2 hdx
       have hi2:i<d.mask.length:=(xb.mp (h3 i hi)).1
       rw[<- hn i hi,xc (by rw[hl2];simp at hlt;omega)]
      ·rw[if_neg hlt]at hm;exact hm.elim
   |_=>rw[hpay]at hm;exact hm.elim
  |ok z=>
   obtain⟨fl,Γ'⟩:=z
   cases fl with
   |brk=>exact hm.elim
   |cnt=>exact hm.elim
   |next=>
    intro F' ν' σ' H' r' s' hs' hl' hn
    exact back (r'.newD .none) hn s' fun F2 r2 s2=>hm F2 _ H' r2 s2
   |ret o=>
    intro F' ν' v H' r' s' hn
    exact back r' hn s' fun F2 r2 s2=>hm F2 v H' r2 s2
theorem zfz{d:DefI}(D:Fun K x d.name d.st f fd)(hok:d.ok W=true):FnOk P w K mg base (CX1 P w) 1 f fd d.ps (spX mg d.mask.length fun _=>.bad):=by
 unfold DefI.ok at hok
 simp only[xa,decide_eq_true_eq]at hok
 refine YE (k:=0) D (Qt hok.1.1.1.1) (fun vs H Q E h=>by rw[h.1,hok.1.1.1.2]) fun cdv A outer s H vs Q E hr hsp=>?_
 obtain⟨hv,M0,F,args,rs,hm⟩:=hsp
 exact hm.elim
noncomputable def wOk(defs:List DefI)(W:Wd):Bool:=W.fl.all (fun p=>okO (defs.find? fun d=>decide (d.name=p.1)) fun d=>decide (d.mask.length=p.2)&&decide (d.kd=.fn))
 && W.mc.all (fun p=>okO (defs.find? fun d=>decide (d.name=p.2.1)) fun d=>decide (d.mask.length=p.2.2)&&decide (d.kd=.ini p.1))
 && W.ml.all (fun p=>okO (defs.find? fun d=>decide (d.name=p.2.2.1)) fun d=>decide (d.mask.length=p.2.2.2)&&decide (d.kd=.me p.1 p.2.1))
theorem Y8{defs:List DefI}{j:Nat}(hd:∀ d∈defs,Dx K mg d/\d.ok W=true)(hw:wOk defs W=true)(hbi:∀ x,W.bi.contains x=true->mg x=none)
  (hgi:∀ x i,W.gi.contains (x,i)=true->∃ t,mg x=some (.int i t)) (hgs:∀ x i,W.gs.contains (x,i)=true->∃ t,mg x=some (.str i t))
  (hex:∀ x,W.ex.contains x=true->∃ C,mg x=some (.ref C)/\PySem.W.excIn K C bmV "ValueError.__new__" =true) (hmr:∀ x C y C2,W.ex.contains x=true->mg x=some (.ref C)->W.ex.contains y=true->mg y=some (.ref C2)->(mroIn K C).contains (.ref C2)=decide (x=y)) (hgd:∀ x kf,W.gd.contains (x,kf)=true->GD w K mg x kf)
  (hfk:∀ c f,W.fk.contains (c,f)=true->Cls K (Cs.adr c)/\ZG K (Cs.adr c) f)
  (hbr:∀ c a,W.br.contains (c,a)=true->∃ C f A,KnB P w K mg base c a 2 C f A)
  (hF:∀ (d:DefI) (x:Str) (f:Addr) (fd:FuncData),defs.find? (fun e=>decide (e.name=d.name))=some d->Fun K x d.name d.st f fd->d.ok W=true->FnOk P w K mg base (CX1 P w) j f fd d.ps (spX mg d.mask.length (cf d.name))/\Ran d.mask.length (cf d.name)) (hj:j+1<=k) (hk2:2<=k):WK P w K mg base cf W k:=by
 unfold wOk at hw
 simp only[xa,xA]at hw
 obtain⟨⟨w1,w2⟩,w3⟩:=hw
 have get:∀ (x:Str) (n:Nat) (kd:Kd),okO (defs.find? fun d=>decide (d.name=x)) (fun d=>decide (d.mask.length=n)&&decide (d.kd=kd))=true->∃ (d:DefI) (y:Str) (f:Addr) (fd:FuncData),d.name=x/\Fun K y d.name d.st f fd/\Binds K fd d.ps []/\Lk K mg f x kd/\FnOk P w K mg base (CX1 P w) j f fd d.ps (spX mg n (cf x))/\Ran n (cf x):=fun x n kd h=>by
  obtain⟨d,e,h⟩:=za h
  simp only[xa,decide_eq_true_eq]at h
  obtain⟨rfl,rfl⟩:=h
  have hmem:=List.mem_of_find?_eq_some e
  have hnm:d.name=x:=by simpa using List.find?_some e
  subst hnm
  obtain⟨D,ok⟩:=hd d hmem
  obtain⟨y,f,fd,F,hb,lk⟩:=D.ex
  obtain⟨q1,q2⟩:=hF d y f fd e F ok
  exact⟨d,y,f,fd,rfl,F,hb,lk,q1,q2⟩
 refine⟨hbi,hgi,hgs,fun x n h=>?_,hex,hmr,hgd,hfk,fun c q n h=>?_,fun c m q n h=>?_,fun c a h=>(hbr c a h).imp fun _ q=>q.imp fun _ q=>q.imp fun _ q=>q.mono hk2⟩
 ·obtain⟨d,y,f,fd,e,F,hb,lk,q1,q2⟩:=get x n .fn (w1 (x,n) (ul.mp h))
  exact⟨⟨f,fd,d.ps,q1.mono (by omega),lk,F.kp,hb⟩,q2⟩
 ·obtain⟨d,y,f,fd,e,F,hb,lk,q1,q2⟩:=get q n (.ini c) (w2 (c,q,n) (ul.mp h))
  exact⟨lk.2,⟨j,hj,f,fd,d.ps,q1,lk.1,hb⟩,q2⟩
 ·obtain⟨d,y,f,fd,e,F,hb,lk,q1,q2⟩:=get q n (.me c m) (w3 (c,m,q,n) (ul.mp h))
  exact⟨⟨f,fd,d.ps,q1.mono (by omega),lk.1,lk.2,hb⟩,q2⟩
theorem wk_all{defs:List DefI}(hd:∀ d∈defs,Dx K mg d/\d.ok W=true)(hw:wOk defs W=true)(hbi:∀ x,W.bi.contains x=true->mg x=none)
  (hgi:∀ x i,W.gi.contains (x,i)=true->∃ t,mg x=some (.int i t)) (hgs:∀ x i,W.gs.contains (x,i)=true->∃ t,mg x=some (.str i t))
  (hex:∀ x,W.ex.contains x=true->∃ C,mg x=some (.ref C)/\PySem.W.excIn K C bmV "ValueError.__new__" =true) (hmr:∀ x C y C2,W.ex.contains x=true->mg x=some (.ref C)->W.ex.contains y=true->mg y=some (.ref C2)->(mroIn K C).contains (.ref C2)=decide (x=y)) (hgd:∀ x kf,W.gd.contains (x,kf)=true->GD w K mg x kf)
  (hfk:∀ c f,W.fk.contains (c,f)=true->Cls K (Cs.adr c)/\ZG K (Cs.adr c) f) (hbr:∀ c a,W.br.contains (c,a)=true->∃ C f A,KnB P w K mg base c a 2 C f A):∀ n,WK P w K mg base (zi defs n) W (2*n+2)
 |0=>Y8 (j:=1) hd hw hbi hgi hgs hex hmr hgd hfk hbr (fun d x f fd _ F ok=>⟨zfz F ok,fun args=>⟨fun e=>absurd rfl e,fun x o e=>by cases e⟩⟩) (by omega) (by omega)
 |n+1=>Y8 (j:=2*n+2+1) hd hw hbi hgi hgs hex hmr hgd hfk hbr (fun d x f fd e F ok=>by
   have ec:zi defs (n+1) d.name=d.run (zi defs n):=by
    funext args
    rw[zi,e]
   rw[ec]
   exact⟨zhu F ok (wk_all hd hw hbi hgi hgs hex hmr hgd hfk hbr n) (by omega),d.ran _⟩) (by omega) (by omega)
noncomputable def Zu(cells:List Int)(i l t s:Int):OV:=.l [.d (.list (cells.map .int)),.d (.int i),.d (.int l),.d (.int t),.d (.int s)]
theorem law_ok {st:Stmt}{N:List Str}{kb:Nat}{body:IB}(Fn:Fun K "law" "law" st fa fd) (hS:ZT N ["_law_script"] (defScope st)=true) (hkb:Kn P w K mg base CX0 "_law_box" kb (zbX K)) (hkb2:kb<=k) (T:WK P w K mg base cf W k) (hk:1<=k)
  (hb:defBody st=.Assign [.Name x pos'] (.Call (.Name "_law_box" p3) [.Name "_law_script" p2] [] p) pos::rest) (hN0:N[0]?=some ("_law_script" :Str)) (hN1:N[1]?=some x) (hv0:(defScope st).names.lookup ("_law_script" :Str)=some .local) (hx:Loc (defScope st) x) (hg:(defScope st).names.lookup ("_law_box" :Str)=some .globalImplicit)
  (hchk:body.chk W (defScope st) N (List.range N.length) N.length 0 rest=true)
  (hrun:∀ (cells:List Int) (i l t s:Int),0<=i->∃ Γ',body.ex cf [] (none::some (Zu cells i l t s)::List.replicate (N.length-2) none)=.ok (.ret (.d (.bool true)),Γ')):FnOk P w K mg base CX0 (k+1) fa fd ["_law_script"] (YX K):=by
 have S:=Qt hS
 refine Fn.law S fun cdv A outer s H Q E a ns hr hSq hlen kk=>?_
 have hl2:2<=N.length:=by have:=(xb.mp hN1).1;omega
 rw[hb]
 refine zg2 (X:=(Zv CX0 P w K mg base N "law" (defScope st) fa cdv A outer s H E).nox) (N:=N) S.nd hkb (hr.mono hkb2) hSq hlen (fun b σ1 H1 s1 nb hB rs1 l1=>?_) rfl hN0 hN1 (.inl hv0) hx (.inl rfl) hg rfl rfl
 obtain⟨c,cells,i,l,t,sd,B⟩:=hB
 have hσ:σ1[1]?=some (some (.ref b)):=rs1.av 1 (.ref b) (by
  rw[xl]
  simp
  exact hl2)
 have hF:∀ j a,a∈zW (fun _=> []) 1 [b] j->j=1/\a=b:=fun j a h=>by
  by_cases hj:j=1
  ·subst hj;rw[zh]at h;exact⟨rfl,by simpa using h⟩
  ·rw[zl hj]at h;cases h
 have hM:∀ a,MM zE (zW (fun _=> []) 1 [b]) a->a=b:=fun a h=>by
  rcases h with h | ⟨j,h⟩
  ·exact h.elim
  ·exact (hF j a h).2
 have rs:RS zE (zW (fun _=> []) 1 [b]) (none::some (Zu cells i l t sd)::List.replicate (N.length-2) none) (none::some (.ref b)::List.replicate (N.length-2) none) H1:=by
  refine⟨fun a h=>h.elim,fun j a h z=>z,fun j=>?_,fun j k a h1 h2=>by rw[(hF j a h1).1,(hF k a h2).1],fun j o e=>?_,fun j h=>?_,by simp⟩
  ·by_cases hj:j=1
   ·subst hj;rw[zh];exact xG.mpr ⟨(fun z=>nomatch z),.nil⟩
   ·rw[zl hj];exact .nil
  ·match j,e with
   |0,e=>simp at e
   |1,e=>
    have e':Zu cells i l t sd=o:=by simpa using e
    subst e'
    refine⟨.ref b,rfl,?_⟩
    rw[zh]
    refine .l B.hb (.cons (A:= []) (.d (B.hc.less fun a ha _=>hM a ha)) (.cons (A:= []) (.d (.int _)) (.cons (A:= []) (.d (.int _)) (.cons (A:= []) (.d (.int _)) (.cons (A:= []) (.d (.int _)) .nil)))))
   |j+2,e=>
    rw[uz,uz,xU]at e
    split at e<;>cases e
  ·by_cases hj:j=1
   ·subst hj;exact absurd rfl (h (Zu cells i l t sd))
   ·rw[zl hj]
 have sees:Sees (List.range N.length) (none::some (.ref b)::List.replicate (N.length-2) none) σ1:=fun s' j v e1 e2=>by
  have hs:s'<N.length:=by
   have:=(xb.mp e1).1
   simpa using this
  rw[ux hs]at e1
  cases e1
  match s',e2 with
  |0,e2=>simp at e2
  |1,e2=>
   have:V.ref b=v:=by simpa using e2
   subst this;exact hσ
  |j+2,e2=>
   rw[uz,uz,xU]at e2
   split at e2<;>cases e2
 obtain⟨Γ',er⟩:=hrun cells i l t sd B.hi
 refine zeV cf W body (Zv CX0 P w K mg base N "law" (defScope st) fa cdv A outer s H E).nox XP0 k (defScope st) N (List.range N.length) N.length 0 [] zg7 ⟨T.bi,T.gi,T.gs,T.fn,hr,hk,rfl,T.ex,T.mr,T.gd,fun c f h=>⟨(T.fk c f h).1,(T.fk c f h).2⟩,T.mc,T.ml,YT,⟨_,_,_,rfl,rfl,rfl⟩,T.br⟩ ⟨PassesOwn.never,S.nd,List.nodup_range,(fun i hi=>nomatch hi),(fun _ _ _ _ _ _ _ h=>h.elim),(fun _ _ _ _ _ _ _ _ _ h=>h.elim),rfl,rfl⟩ rest hchk zE _ _ _ σ1 H1 _ rs sees l1 ?_
 rw[er]
 intro F' ν' v H' r' s' hn
 obtain⟨w',ew,q⟩:=r'.at' Γ'.length (.d (.bool true)) (by rw[xf (xh _)];simp)
 have hlen:=r'.len
 have hνl:ν'.length=Γ'.length:=by simpa using hlen
 rw[xf (by omega),hνl]at ew
 have:v=w':=by simpa using ew
 subst this
 generalize F' Γ'.length=Az at q
 cases q with
 |d q=>cases q;exact kk H'
end
noncomputable def csOf(mg:Str->Option Value):Cs:=⟨fun x=>match mg x with
 |some (.ref C)=>C
 |_=>0⟩
theorem zcY {C:Addr}(h:mg c=some (.ref C)):(csOf mg).adr c=C:=by
 show (match mg c with
  |some (.ref C)=>C
  |_=>0)=C
 rw[h]
section
variable {K:PySem.W.Frag}{mg:Str->Option Value}{h:Heap}{d:DefI}
theorem zP(hk:d.kd=.fn)(D:Df K mg d.name d.st d.ps): @Dx (csOf mg) K mg d:=by
 obtain⟨f,fd,F,hm,hb⟩:=D.ex
 exact @Dx.mk (csOf mg) _ _ _ ⟨d.name,f,fd,F,hb,by rw[hk];exact hm⟩
structure vW(K:PySem.W.Frag)(c:Str)(C:Addr):Prop where
 n:PySem.W.nsIn K mainGlobals c=some (some (.ref C))
 cl:Cls K C
structure Dm(K:PySem.W.Frag)(q c m:Str)(st:Stmt)(ps:List Str):Prop where
 ex:∃ (C f:Addr) (fd:FuncData),vW K c C/\Fun K m q st f fd/\Binds K fd ps []/\ze2 K C m f
structure Di(K:PySem.W.Frag)(q c:Str)(st:Stmt)(ps:List Str):Prop where
 ex:∃ (C f:Addr) (fd:FuncData),vW K c C/\Fun K "__init__" q st f fd/\Binds K fd ps []/\Mk K C f
theorem Dm.of {st:Stmt}{ps:List Str}{C f:Addr}{kV dc pm cd ct:Value}(o:vW K c C)(a:PySem.W.findIn K (.ref C) m=some (some (.ref f)))(fn:PySem.W.isFn K (.ref f)=true)
  (l:K.lookup f=some ⟨oc,od,.func (PySem.W.fnOf m q (z6 st) (defBody st) (defScope st) .none kV dc pm an cd ct),sl⟩) (e:PySem.W.codeIn K cd q=true) (k:PySem.W.keepIn K (.ref f)=true)
  (hb:∀ (kV doc pm:Value) (an:Option Addr) (cdv ct:Value) (us:List Value),us.length=ps.length->bindArgs (PySem.W.fnOf m q (z6 st) (defBody st) (defScope st) .none kV doc pm an cdv ct) ⟨us,[]⟩=pure (ps.zip us)):Dm K q c m st ps :=
 ⟨C,f,_,o,jD (st:=st) l e k,(jD (st:=st) l e k).binds hb,a,fn,k⟩
theorem Di.of {st:Stmt}{ps:List Str}{C f:Addr}{kV dc pm cd ct:Value}(o:vW K c C) (mk:PySem.W.makesIn K C=true) (a:PySem.W.findIn K (.ref C) "__init__" =some (some (.ref f))) (fn:PySem.W.isFn K (.ref f)=true) (kc:PySem.W.keepIn K (.ref C)=true)
  (l:K.lookup f=some ⟨oc,od,.func (PySem.W.fnOf "__init__" q (z6 st) (defBody st) (defScope st) .none kV dc pm an cd ct),sl⟩) (e:PySem.W.codeIn K cd q=true) (k:PySem.W.keepIn K (.ref f)=true)
  (hb:∀ (kV doc pm:Value) (an:Option Addr) (cdv ct:Value) (us:List Value),us.length=ps.length->bindArgs (PySem.W.fnOf "__init__" q (z6 st) (defBody st) (defScope st) .none kV doc pm an cdv ct) ⟨us,[]⟩=pure (ps.zip us)):Di K q c st ps :=
 ⟨C,f,_,o,jD (st:=st) l e k,(jD (st:=st) l e k).binds hb,mk,a,fn,kc⟩
theorem zht {C:Addr}(X:K.In h)(G:h.Ns mainGlobals mg)(o:vW K c C)(n:ZG K C f):Cls K ((csOf mg).adr c)/\ZG K ((csOf mg).adr c) f:=by
 rw[zcY (PySem.W.mg_of X G o.n)]
 exact⟨o.cl,n⟩
end
end L3
namespace Wx
open PySem L2 L3
scoped instance noCs:L2.Cs:=⟨fun _=>0⟩
noncomputable def p_lacking_1:IC:=(.one (.cmp .Gt (.ix (.var 3 5) (.var 4 1)) (.ix (.var 1 3) (.var 4 1))))
noncomputable def p_lacking_2:IE:=(.var 0 2)
noncomputable def QV:IB:=(.cons (.ret (.own (.comp 2 4 [1] ["at","stain","waxed","wish","dye"] (.tp (.cons (.nm 0 2) (.cons (.tp (.cons (.nm 1 3) (.cons (.nm 2 4) (.cons (.nm 3 5) .nil)))) .nil))) (.enum (.var 0 0)) p_lacking_1 p_lacking_2))) .nil)
noncomputable def p_needed_1:IC:=(.one (.call (.call "lacking" 2 (.cons (.var 1 0) (.cons (.var 0 2) .nil)))))
noncomputable def p_needed_2:IE:=(.var 0 2)
noncomputable def Qo:IB:=(.cons (.ite (.not (.var 0 0)) (.cons (.ret (.own (.lst .nil))) .nil) .nil) (.cons (.asg 1 1 (.dat (.len (.ix (.ix (.var 0 0) (.cint 0)) (.cint 0))))) (.cons (.ret (.own (.comp 2 1 [0] ["dye","bolt"] (.nm 0 2) (.range (.var 1 1)) p_needed_1 p_needed_2))) .nil)))
noncomputable def jS:IB:=(.cons (.ret (.dat (.and (.isi "int" (.var 0 0)) (.not (.isi "bool" (.var 0 0)))))) .nil)
noncomputable def jR:IB:=(.cons (.asg 2 2 (.dat (.bin .Mod (.bin .Add (.bin .Add (.bin .Mult (.var 0 0) (.cint 48271)) (.bin .Mult (.var 1 1) (.cint 69621))) (.cint 12345)) (.cint 2147483647)))) (.cons (.asg 3 3 (.dat (.bin .Mod (.bin .Add (.bin .Add (.bin .Mult (.var 2 2) (.bin .Add (.bin .Mod (.var 2 2) (.cint 65521)) (.cint 7))) (.bin .Mult (.var 1 1) (.cint 40692))) (.bin .Mod (.var 0 0) (.cint 104729))) (.cint 998244353)))) (.cons (.ret (.dat (.bin .FloorDiv (.var 3 3) (.cint 7)))) .nil)))
noncomputable def qz:IB:=(.cons (.set 0 0 (.cint 3) (.bin .Add (.ix (.var 0 0) (.cint 3)) (.cint 1))) (.cons (.ite (.cmp .Gt (.ix (.var 0 0) (.cint 2)) (.cint 0)) (.cons (.asg 2 2 (.dat (.ix (.var 0 0) (.cint 2)))) (.cons (.set 0 0 (.cint 2) (.bin .FloorDiv (.var 2 2) (.var 1 1))) (.cons (.ret (.dat (.bin .Mod (.var 2 2) (.var 1 1)))) .nil))) .nil) (.cons (.ite (.cmp .GtE (.ix (.var 0 0) (.cint 1)) (.len (.ix (.var 0 0) (.cint 0)))) (.cons (.ret (.dat (.bin .Mod (.call (.call "_law_mixed" 2 (.cons (.ix (.var 0 0) (.cint 4)) (.cons (.ix (.var 0 0) (.cint 3)) .nil)))) (.var 1 1)))) .nil) .nil) (.cons (.asg 3 3 (.dat (.ix (.ix (.var 0 0) (.cint 0)) (.ix (.var 0 0) (.cint 1))))) (.cons (.set 0 0 (.cint 1) (.bin .Add (.ix (.var 0 0) (.cint 1)) (.cint 1))) (.cons (.ite (.cmp .Lt (.var 3 3) (.bin .Pow (.cint 10) (.cint 18))) (.cons (.ret (.dat (.bin .Mod (.call (.call "_law_mixed" 2 (.cons (.var 3 3) (.cons (.ix (.var 0 0) (.cint 3)) .nil)))) (.var 1 1)))) .nil) .nil) (.cons (.set 0 0 (.cint 2) (.bin .FloorDiv (.var 3 3) (.var 1 1))) (.cons (.ret (.dat (.bin .Mod (.var 3 3) (.var 1 1)))) .nil))))))))
noncomputable def b_law_lacks_1:IE:=(.tup (.cons (.call (.call "_law_take" 2 (.io 1 0 (.cons (.bin .Add (.var 2 2) (.cint 1)) .nil)))) (.cons (.call (.call "_law_take" 2 (.io 1 0 (.cons (.bin .Add (.var 2 2) (.cint 1)) .nil)))) .nil)))
noncomputable def b_law_lacks_2:IB:=(.cons (.ite (.cmp .Eq (.var 3 3) (.cint 0)) (.cons (.app 7 7 (.cmp .Eq (.call (.call "_law_take" 2 (.io 0 0 (.cons (.cint 2) .nil)))) (.cint 1))) .nil) (.cons (.ite (.cmp .Eq (.var 3 3) (.cint 1)) (.cons (.app 7 7 (.chain .LtE .Lt (.min (.var 8 8) (.var 9 9)) (.var 6 6) (.max (.var 8 8) (.var 9 9)))) .nil) (.cons (.ite (.cmp .Eq (.var 3 3) (.cint 2)) (.cons (.app 7 7 (.cmp .Lt (.var 6 6) (.var 8 8))) .nil) (.cons (.app 7 7 (.cmp .NotEq (.cmp .Lt (.var 6 6) (.var 8 8)) (.cmp .Eq (.var 6 6) (.var 9 9)))) .nil)) .nil)) .nil)) .nil)
noncomputable def b_law_lacks_3:IB:=(.cons (.asg 7 7 (.own (.lst .nil))) (.cons (.loop (.tp (.cons (.nm 8 8) (.cons (.nm 9 9) .nil))) (.list (.var 4 4)) b_law_lacks_2) (.cons (.app 5 5 (.frz 7 7)) .nil)))
noncomputable def jQ:IB:=(.cons (.asg 3 3 (.dat (.call (.call "_law_take" 2 (.io 0 0 (.cons (.cint 4) .nil)))))) (.cons (.asg 4 4 (.dat (.new (.comp 10 1 [0,2] ["_law_dye","_law_box_here","_law_size"] (.nm 0 10) (.range (.var 1 1)) .yes b_law_lacks_1)))) (.cons (.asg 5 5 (.own (.lst .nil))) (.cons (.loop (.nm 6 6) (.range (.var 2 2)) b_law_lacks_3) (.cons (.ret (.move 5 5)) .nil)))))
noncomputable def b_law_cell_1:IB:=(.cons (.asg 7 7 (.dat (.call (.call "_law_take" 2 (.io 0 0 (.cons (.cint 9) .nil)))))) (.cons (.app 4 4 (.var 7 7)) (.cons (.app 5 5 (.bin .Add (.var 7 7) (.int (.var 6 6)))) (.cons (.ite (.and (.cmp .Gt (.var 2 2) (.cint 0)) (.cmp .Eq (.call (.call "_law_take" 2 (.io 0 0 (.cons (.var 2 2) .nil)))) (.cint 0))) (.cons (.set 4 4 (.neg (.cint 1)) (.call (.call "_law_take" 2 (.io 0 0 (.cons (.cint 10) .nil))))) (.cons (.set 5 5 (.neg (.cint 1)) (.call (.call "_law_take" 2 (.io 0 0 (.cons (.cint 10) .nil))))) .nil)) .nil) .nil))))
noncomputable def jx:IB:=(.cons (.asg 4 4 (.own (.lst .nil))) (.cons (.asg 5 5 (.own (.lst .nil))) (.cons (.loop (.nm 6 6) (.list (.var 1 1)) b_law_cell_1) (.cons (.ret (.dat (.tup (.cons (.tuple (.var 4 4)) (.cons (.and (.cmp .Gt (.var 3 3) (.cint 0)) (.cmp .Lt (.call (.call "_law_take" 2 (.io 0 0 (.cons (.cint 5) .nil)))) (.var 3 3))) (.cons (.tuple (.var 5 5)) .nil)))))) .nil))))
noncomputable def b_law_bolt_1:IE:=(.call (.call "_law_cell" 4 (.io 1 0 (.cons (.var 0 6) (.cons (.var 2 3) (.cons (.var 3 4) .nil))))))
noncomputable def ZI:IB:=(.cons (.asg 4 4 (.dat (.call (.call "_law_take" 2 (.io 0 0 (.cons (.cint 4) .nil)))))) (.cons (.asg 5 5 (.dat (.call (.call "_law_lacks" 3 (.io 0 0 (.cons (.var 1 1) (.cons (.var 2 2) .nil))))))) (.cons (.ret (.own (.comp 6 1 [0,3,4] ["_law_row","_law_box_here","_law_loose","_law_wet"] (.nm 0 6) (.list (.var 5 5)) .yes b_law_bolt_1))) .nil)))
noncomputable def jf:IB:=(.cons (.ite (.cmp .Eq (.call (.call "_law_take" 2 (.io 0 0 (.cons (.cint 8) .nil)))) (.cint 0)) (.cons (.ret (.dat (.tup (.cons (.call (.call "_law_take" 2 (.io 0 0 (.cons (.cint 13) .nil)))) (.cons (.call (.call "_law_take" 2 (.io 0 0 (.cons (.cint 41) .nil)))) .nil))))) .nil) .nil) (.cons (.ret (.dat (.tup (.cons (.call (.call "_law_take" 2 (.io 0 0 (.cons (.cint 7) .nil)))) (.cons (.call (.call "_law_take" 2 (.io 0 0 (.cons (.cint 9) .nil)))) .nil))))) .nil))
noncomputable def p_bars_1:IB:=(.cons (.asg 8 8 (.dat (.call (.call "bar_word" 2 (.cons (.bin .Sub (.ix (.var 6 6) (.var 7 7)) (.ix (.var 4 4) (.var 7 7))) (.cons (.ix (.var 1 1) (.var 7 7)) .nil)))))) (.cons (.ite (.cmp .IsNot (.var 8 8) .cnone) (.cons (.app 2 2 (.tup (.cons (.var 8 8) (.cons (.var 3 3) (.cons (.var 7 7) .nil))))) .nil) .nil) .nil))
noncomputable def p_bars_2:IB:=(.cons (.loop (.nm 7 7) (.range (.len (.var 4 4))) p_bars_1) .nil)
noncomputable def yN:IB:=(.cons (.asg 2 2 (.own (.lst .nil))) (.cons (.loop (.tp (.cons (.nm 3 3) (.cons (.tp (.cons (.nm 4 4) (.cons (.nm 5 5) (.cons (.nm 6 6) .nil)))) .nil))) (.enum (.var 0 0)) p_bars_2) (.cons (.ret (.move 2 2)) .nil)))
noncomputable def qC:IB:=(.cons (.ite (.cmp .Lt (.var 0 0) (.cint 0)) (.cons (.ret (.dat (.cstr "spare"))) .nil) .nil) (.cons (.ite (.cmp .Gt (.var 0 0) (.cint 1)) (.cons (.ret (.dat (.cstr "deep"))) .nil) .nil) (.cons (.ite (.and (.cmp .Eq (.var 0 0) (.cint 1)) (.not (.var 1 1))) (.cons (.ret (.dat (.cstr "spent"))) .nil) .nil) (.cons (.ret (.dat .cnone)) .nil))))
noncomputable def b_law_bars_1:IB:=(.cons (.asg 5 5 (.dat (.bin .Sub (.ix (.ix (.ix (.var 0 0) (.var 3 3)) (.cint 2)) (.var 4 4)) (.ix (.ix (.ix (.var 0 0) (.var 3 3)) (.cint 0)) (.var 4 4))))) (.cons (.ite (.cmp .Lt (.var 5 5) (.cint 0)) (.cons (.app 2 2 (.tup (.cons (.cstr "spare") (.cons (.var 3 3) (.cons (.var 4 4) .nil))))) .nil) .nil) (.cons (.ite (.cmp .GtE (.var 5 5) (.cint 2)) (.cons (.app 2 2 (.tup (.cons (.cstr "deep") (.cons (.var 3 3) (.cons (.var 4 4) .nil))))) .nil) .nil) (.cons (.ite (.and (.cmp .Eq (.var 5 5) (.cint 1)) (.not (.ix (.var 1 1) (.var 4 4)))) (.cons (.app 2 2 (.tup (.cons (.cstr "spent") (.cons (.var 3 3) (.cons (.var 4 4) .nil))))) .nil) .nil) .nil))))
noncomputable def b_law_bars_2:IB:=(.cons (.loop (.nm 4 4) (.range (.len (.ix (.ix (.var 0 0) (.var 3 3)) (.cint 0)))) b_law_bars_1) .nil)
noncomputable def ZH:IB:=(.cons (.asg 2 2 (.own (.lst .nil))) (.cons (.loop (.nm 3 3) (.range (.len (.var 0 0))) b_law_bars_2) (.cons (.ret (.move 2 2)) .nil)))
noncomputable def b_law_bars_kind_1:IB:=(.cons (.ite (.or (.not (.isi "tuple" (.var 2 2))) (.or (.cmp .NotEq (.len (.var 2 2)) (.var 1 1)) (.not (.isi "str" (.ix (.var 2 2) (.cint 0)))))) (.cons (.ret (.dat (.cbool false))) .nil) .nil) (.cons (.ite (.or (.not (.call (.call "_law_whole" 1 (.cons (.ix (.var 2 2) (.neg (.cint 1))) .nil)))) (.not (.call (.call "_law_whole" 1 (.cons (.ix (.var 2 2) (.neg (.cint 2))) .nil))))) (.cons (.ret (.dat (.cbool false))) .nil) .nil) .nil))
noncomputable def qK:IB:=(.cons (.ite (.not (.isi "list" (.var 0 0))) (.cons (.ret (.dat (.cbool false))) .nil) .nil) (.cons (.loop (.nm 2 2) (.list (.var 0 0)) b_law_bars_kind_1) (.cons (.ret (.dat (.cbool true))) .nil)))
noncomputable def jJ:IB:=(.cons (.asgT (.tp (.cons (.nm 2 2) (.cons (.nm 3 3) .nil))) (.var 0 0)) (.cons (.asgT (.tp (.cons (.nm 4 4) (.cons (.nm 5 5) .nil))) (.var 1 1)) (.cons (.ite (.cmp .Eq (.var 3 3) (.var 5 5)) (.cons (.ret (.dat (.cmp .Gt (.var 2 2) (.var 4 4)))) .nil) .nil) (.cons (.ret (.dat (.cmp .Eq (.less (.var 3 3) (.var 5 5)) (.cint 0)))) .nil))))
noncomputable def p_lacking_under_wax_1:IC:=(.one (.ix (.ix (.var 1 0) (.var 0 2)) (.cint 1)))
noncomputable def p_lacking_under_wax_2:IE:=(.var 0 2)
noncomputable def qf:IB:=(.cons (.ret (.own (.comp 2 1 [0] ["at","bolt"] (.nm 0 2) (.list (.call (.call "lacking" 2 (.cons (.var 0 0) (.cons (.var 1 1) .nil))))) p_lacking_under_wax_1 p_lacking_under_wax_2))) .nil)
noncomputable def p_with_cells_1:IE:=(.tup (.cons (.var 0 2) (.cons (.call (.call "lacking" 2 (.cons (.var 1 0) (.cons (.var 0 2) .nil)))) .nil)))
noncomputable def jL:IB:=(.cons (.ret (.own (.comp 2 1 [0] ["dye","bolt"] (.nm 0 2) (.list (.new (.sorted (.var 1 1)))) .yes p_with_cells_1))) .nil)
noncomputable def p_stretches_1:IC:=(.one (.cmp .NotIn (.var 0 4) (.var 1 2)))
noncomputable def p_stretches_2:IE:=(.new (.cat (.new (.lst (.cons (.ix (.var 2 1) (.var 0 4)) .nil))) (.call (.call "row_behind" 3 (.cons (.var 2 1) (.cons (.var 1 2) (.cons (.var 0 4) .nil)))))))
noncomputable def j9:IB:=(.cons (.asg 1 1 (.dat (.call (.call "needed" 1 (.cons (.var 0 0) .nil))))) (.cons (.asg 2 2 (.dat (.call (.call "followers" 1 (.cons (.call (.call "places_above" 2 (.cons (.var 0 0) (.cons (.var 1 1) .nil)))) .nil))))) (.cons (.asg 3 3 (.dat (.call (.call "row_behind" 3 (.cons (.var 1 1) (.cons (.var 2 2) (.cons (.len (.var 1 1)) .nil))))))) (.cons (.ret (.own (.cat (.new (.lst (.cons (.var 3 3) .nil))) (.new (.comp 4 1 [2,1] ["at","follower","dyes"] (.nm 0 4) (.range (.len (.var 1 1))) p_stretches_1 p_stretches_2))))) .nil))))
noncomputable def p_places_above_1:IC:=(.one (.call (.call "is_lower" 2 (.cons (.var 2 4) (.cons (.var 1 7) .nil)))))
noncomputable def p_places_above_2:IE:=(.var 0 6)
noncomputable def p_places_above_3:IB:=(.cons (.asg 5 5 (.own (.comp 6 2 [4] ["at","other","one"] (.tp (.cons (.nm 0 6) (.cons (.nm 1 7) .nil))) (.enum (.var 2 2)) p_places_above_1 p_places_above_2))) (.cons (.ite (.not (.call (.call "lacking_under_wax" 2 (.cons (.var 0 0) (.cons (.ix (.var 4 4) (.cint 0)) .nil))))) (.cons (.app 5 5 (.len (.var 2 2))) .nil) .nil) (.cons (.app 3 3 (.frz 5 5)) .nil)))
noncomputable def q8:IB:=(.cons (.asg 2 2 (.dat (.call (.call "with_cells" 2 (.cons (.var 0 0) (.cons (.var 1 1) .nil)))))) (.cons (.asg 3 3 (.own (.lst .nil))) (.cons (.loop (.nm 4 4) (.list (.var 2 2)) p_places_above_3) (.cons (.ret (.own (.cat (.var 3 3) (.new (.lst (.cons (.new (.lst .nil)) .nil)))))) .nil))))
noncomputable def p_followers_1:IE:=.cnone
noncomputable def p_followers_2:IB:=(.cons (.expr (.call (.call "settle" 4 (.cons (.var 2 2) (.cons (.var 0 0) (.io 1 1 (.tmp (.lst .nil)))))))) .nil)
noncomputable def jh:IB:=(.cons (.asg 1 1 (.own (.comp 3 1 [] ["places"] (.nm 0 3) (.list (.var 0 0)) .yes p_followers_1))) (.cons (.loop (.nm 2 2) (.range (.len (.var 0 0))) p_followers_2) (.cons (.ret (.move 1 1)) .nil)))
noncomputable def p_settle_1:IB:=(.cons (.ite (.cmp .NotIn (.var 4 4) (.var 3 3)) (.cons (.app 3 3 (.var 4 4)) (.cons (.ite (.or (.cmp .Is (.ix (.var 2 2) (.var 4 4)) .cnone) (.call (.call "settle" 4 (.cons (.ix (.var 2 2) (.var 4 4)) (.cons (.var 1 1) (.io 2 2 (.io 3 3 .nil))))))) (.cons (.set 2 2 (.var 4 4) (.var 0 0)) (.cons (.ret (.dat (.cbool true))) .nil)) .nil) .nil)) .nil) .nil)
noncomputable def j8:IB:=(.cons (.loop (.nm 4 4) (.list (.ix (.var 1 1) (.var 0 0))) p_settle_1) (.cons (.ret (.dat (.cbool false))) .nil))
noncomputable def p_row_behind_1:IB:=(.cons (.app 3 3 (.ix (.var 0 0) (.var 2 2))) (.cons (.asg 2 2 (.dat (.ix (.var 1 1) (.var 2 2)))) .nil))
noncomputable def jK:IB:=(.cons (.asg 3 3 (.own (.lst .nil))) (.cons (.asg 2 2 (.dat (.ix (.var 1 1) (.var 2 2)))) (.cons (.wh 1000000 (.cmp .IsNot (.var 2 2) .cnone) p_row_behind_1) (.cons (.ret (.move 3 3)) .nil))))
noncomputable def ZJ:IB:=(.cons (.asgT (.tp (.cons (.nm 2 2) (.cons (.nm 3 3) .nil))) (.call (.call "_law_sizes" 1 (.io 0 0 .nil)))) (.cons (.ret (.dat (.tup (.cons (.var 2 2) (.cons (.call (.call "_law_bolt" 4 (.io 0 0 (.cons (.var 2 2) (.cons (.var 3 3) (.cons (.var 1 1) .nil)))))) .nil))))) .nil))
noncomputable def p_with_wax_1:IE:=(.call (.call "has_cell" 2 (.cons (.var 1 0) (.cons (.var 0 2) .nil))))
noncomputable def p_with_wax_2:IE:=(.tup (.cons (.var 1 3) (.cons (.or (.var 2 4) (.cmp .In (.var 0 2) (.var 4 1))) (.cons (.var 3 5) .nil))))
noncomputable def ja:IB:=(.cons (.ite (.not (.all (.new (.comp 2 1 [0] ["at","bolt"] (.nm 0 2) (.tup (.var 1 1)) .yes p_with_wax_1)))) (.cons (.raise "NoCell") .nil) .nil) (.cons (.ite (.cmp .NotEq (.lset (.var 1 1)) (.len (.var 1 1))) (.cons (.raise "Twice") .nil) .nil) (.cons (.ret (.own (.comp 2 4 [1] ["at","stain","waxed","wish","cells"] (.tp (.cons (.nm 0 2) (.cons (.tp (.cons (.nm 1 3) (.cons (.nm 2 4) (.cons (.nm 3 5) .nil)))) .nil))) (.enum (.var 0 0)) .yes p_with_wax_2))) .nil)))
noncomputable def qZ:IB:=(.cons (.ret (.dat (.chain .LtE .Lt (.cint 0) (.var 1 1) (.len (.var 0 0))))) .nil)
noncomputable def p_boiled_1:IE:=(.tup (.cons (.var 0 1) (.cons (.cbool false) (.cons (.var 2 3) .nil))))
noncomputable def wL:IB:=(.cons (.ret (.own (.comp 1 3 [] ["stain","waxed","wish"] (.tp (.cons (.nm 0 1) (.cons (.nm 1 2) (.cons (.nm 2 3) .nil)))) (.list (.var 0 0)) .yes p_boiled_1))) .nil)
noncomputable def p_plan_1:IB:=(.cons (.app 5 5 (.tup (.cons (.cstr "boil") .nil))) (.cons (.aug 5 5 (.call (.call "stretch_moves" 2 (.cons (.var 6 6) (.cons (.var 7 7) .nil))))) .nil))
noncomputable def p_stretch_moves_1:IB:=(.cons (.asg 4 4 (.dat (.call (.call "to_keep_off" 2 (.cons (.var 0 0) (.cons (.var 3 3) .nil)))))) (.cons (.ite (.var 4 4) (.cons (.app 2 2 (.tup (.cons (.cstr "wax") (.cons (.var 4 4) .nil)))) (.cons (.asg 0 0 (.dat (.call (.call "with_wax" 2 (.cons (.var 0 0) (.cons (.var 4 4) .nil)))))) .nil)) .nil) (.cons (.app 2 2 (.tup (.cons (.cstr "dip") (.cons (.var 3 3) .nil)))) .nil)))
noncomputable def qL:IB:=(.cons (.asg 2 2 (.own (.lst .nil))) (.cons (.loop (.nm 3 3) (.list (.var 1 1)) p_stretch_moves_1) (.cons (.ret (.move 2 2)) .nil)))
noncomputable def p_to_keep_off_1:IC:=(.one (.and (.not (.var 2 4)) (.cmp .LtE (.ix (.var 3 5) (.var 4 1)) (.ix (.var 1 3) (.var 4 1)))))
noncomputable def p_to_keep_off_2:IE:=(.var 0 2)
noncomputable def jn:IB:=(.cons (.ret (.dat (.tuple (.new (.comp 2 4 [1] ["at","stain","waxed","wish","dye"] (.tp (.cons (.nm 0 2) (.cons (.tp (.cons (.nm 1 3) (.cons (.nm 2 4) (.cons (.nm 3 5) .nil)))) .nil))) (.enum (.var 0 0)) p_to_keep_off_1 p_to_keep_off_2))))) .nil)
noncomputable def runI(n:Nat)(mask:List Bool)(io:List Nat)(body:IB)(cf:CF)(args:List OV):RF:=if args.length=mask.length then fin mask (body.ex cf io (args.map some++List.replicate (n-mask.length) none)) else .bad
end Wx
local macro_rules
  | `(tactic| simp![$xs,*])=>`(tactic| simp[$xs,*,Wx.runI,L3.fin,L3.outs,L3.IB.ex,L3.IS.ex,L3.IE.ev,L3.IL.ev,L3.IA.ev,L3.IN.ev,L3.IP.ev,L3.II.ev,L3.IC.ev,L3.IO.ev,L3.sSeq,L3.sNext,L3.sAsg,L3.sIf,L3.sRet,L3.sSet,L3.sApp,L3.sFor,L3.sAsgT,L3.sExpr,L3.fVar,L3.fFrz,L3.fC,L3.fBin,L3.fCmp,L3.fB,L3.fTru,L3.fNotT,L3.fAndT,L3.fOrT,L3.fAndV,L3.fOrV,L3.fIf,L3.fIx,L3.f1,L3.f2,L3.fChain,L3.fTup,L3.fLst,L3.fCons,L3.fNil,L3.fNew,L3.fOwn,L3.fOD,L3.fD,L3.fMove,L3.fCall,L3.fCallW,L3.aNil,L3.aCons,L3.aIo,L3.toArg,L3.toArgs,L3.ios,L3.putBack,L3.derf,L3.derS,L3.derSs,L3.derL,L3.leaves,L3.derfs,L3.itemF,L3.binD,L3.cmpD,L3.truD,L3.R.bind,L3.isOwn,L3.fSeqL,L3.fSeqT,L3.fRange,L3.fEnum,L3.fYes,L3.fComp,L3.fListC,L3.fTupC,L3.gLen,L3.lenD,L3.gInt,L3.gAll,L3.gMin,L3.gMax,L3.gNeg,L3.fIsi,L3.isiB,L2.tyD,L3.tgF,L3.tgFs,L2.noL])
namespace Wx
open PySem L2 L3
theorem za9(cf:CF)(a b:Int):∃ r,runI 4 [false,false] [] jR cf [.d (.int a),.d (.int b)]=.ok (.d (.int r)) [none,none]:=by
 simp![jR,OV.view,OV.views,zC,ixN,atI]
 rw[if_pos]
 ·simp[outs]
 ·omega
noncomputable def Yl (cf:CF):Prop:=∀ a b:Int,∃ r,cf "_law_mixed" [.d (.int a),.d (.int b)]=.ok (.d (.int r)) [none,none]
noncomputable def zH(b:OV):Prop:=∃ cells i l t s,0<=i/\b=Zu cells i l t s
noncomputable def K6(b:OV)(n:Int)(x:RF):Prop:=∃ (r:Int) (b':OV),0<=r/\r<n/\zH b'/\x=.ok (.d (.int r)) [some b',none]
theorem zek(cf:CF)(hm:Yl cf)(hb:zH b){n:Int}(h1:1<=n)(h2:n<1073741824):K6 b n (runI 4 [true,false] [0] qz cf [b,.d (.int n)]):=by
 obtain⟨cells,i,l,t,s,hi,rfl⟩:=hb
 have h0:0<n:=by omega
 have hp:((10:Int) ^ 18)=1000000000000000000:=by decide
 by_cases hl:0<l
 ·refine⟨l % n,Zu cells i (l / n) (t+1) s,uK _ (by omega),uB _ h0,⟨_,_,_,_,_,hi,rfl⟩,?_⟩
  simp![qz,Zu,hl,h0,h2,OV.view,OV.views,zC,ixN,atI]
 ·by_cases hc:(cells.length:Int)<=i
  ·obtain⟨r,er⟩:=hm s (t+1)
   refine⟨r % n,Zu cells i l (t+1) s,uK _ (by omega),uB _ h0,⟨_,_,_,_,_,hi,rfl⟩,?_⟩
   simp![qz,Zu,hl,hc,h0,h2,er,OV.view,OV.views,zC,ixN,atI]
  ·have hix:i.toNat<cells.length:=by omega
   have hlt:i<(cells.length:Int):=by omega
   have hg:cells[i.toNat]?=some cells[i.toNat]:=xg hix
   by_cases hs:cells[i.toNat]<1000000000000000000
   ·obtain⟨r,er⟩:=hm cells[i.toNat] (t+1)
    refine⟨r % n,Zu cells (i+1) l (t+1) s,uK _ (by omega),uB _ h0,⟨_,_,_,_,_,by omega,rfl⟩,?_⟩
    simp![qz,Zu,hl,hc,h0,h2,hi,hlt,hg,hs,hp,er,OV.view,OV.views,zC,ixN,atI]
   ·refine⟨cells[i.toNat] % n,Zu cells (i+1) (cells[i.toNat] / n) (t+1) s,uK _ (by omega),uB _ h0,⟨_,_,_,_,_,by omega,rfl⟩,?_⟩
    simp![qz,Zu,hl,hc,h0,h2,hi,hlt,hg,hs,hp,OV.view,OV.views,zC,ixN,atI]
theorem qi (I:List PyData->Gv->Prop)(h0:I [] Γ)
  (hs:∀ pre d post,ds=pre++d::post->∀ Γ,I pre Γ->∃ Γ1 Γ2,tgF t d Γ=some Γ1/\body Γ1=.ok (.next,Γ2)/\I (pre++ [d]) Γ2):∃ Γ',z7 t body ds Γ=.ok (.next,Γ')/\I ds Γ':=by
 suffices H:∀ post pre Γ,ds=pre++post->I pre Γ->∃ Γ',z7 t body post Γ=.ok (.next,Γ')/\I ds Γ' from H ds [] Γ rfl h0
 intro post
 induction post with
 |nil=>intro pre Γ e h;rw[xX]at e;subst e;exact⟨Γ,rfl,h⟩
 |cons d post ih=>
  intro pre Γ e h
  obtain⟨Γ1,Γ2,e1,e2,h2⟩:=hs pre d post e Γ h
  obtain⟨Γ',e3,h3⟩:=ih (pre++ [d]) Γ2 (by rw[e];simp) h2
  exact⟨Γ',by rw[z7,e1];simp only[e2];exact e3,h3⟩
theorem qu{k:Nat}{t:IT}{cond:EM Bool}{elt:EM FV}(I:List PyData->List PyData->Gv->Prop){ds:List PyData}{Γ:Gv}(h0:I [] [] Γ)
  (hs:∀ pre d post,ds=pre++d::post->∀ ys Γ,I pre ys Γ->∃ Γ2 c Γ3,tgF t d (Γ++List.replicate k none)=some Γ2/\cond Γ2=.ok (c,Γ3)/\(c=true->∃ u Γ4 y,elt Γ3=.ok (u,Γ4)/\derS Γ4 u=some y/\I (pre++ [d]) (ys++ [y]) (Γ4.take Γ.length))/\(c=false->I (pre++ [d]) ys (Γ3.take Γ.length))) :
  ∃ ys Γ',Zz k t cond elt ds [] Γ=.ok (ys,Γ')/\I ds ys Γ':=by
 suffices H:∀ post pre ys Γ,ds=pre++post->I pre ys Γ->∃ ys' Γ',Zz k t cond elt post ys Γ=.ok (ys',Γ')/\I ds ys' Γ' from H ds [] [] Γ rfl h0
 intro post
 induction post with
 |nil=>intro pre ys Γ e h;rw[xX]at e;subst e;exact⟨ys,Γ,rfl,h⟩
 |cons d post ih=>
  intro pre ys Γ e h
  obtain⟨Γ2,c,Γ3,e1,e2,ht,hf⟩:=hs pre d post e ys Γ h
  cases c with
  |true=>
   obtain⟨u,Γ4,y,e3,e4,h5⟩:=ht rfl
   obtain⟨ys',Γ',e6,h6⟩:=ih (pre++ [d]) _ _ (by rw[e];simp) h5
   have hit:itL elt Γ3=.ok (y,Γ4):=by simp only[itL,e3,R.bind,e4]
   exact⟨ys',Γ',by unfold Zz;rw[ZA,e1];simp only[e2,hit];exact e6,h6⟩
  |false=>
   obtain⟨ys',Γ',e6,h6⟩:=ih (pre++ [d]) _ _ (by rw[e];simp) (hf rfl)
   exact⟨ys',Γ',by unfold Zz;rw[ZA,e1];simp only[e2];exact e6,h6⟩
theorem qS{k:Nat}{t:IT}{cond:EM Bool}{elt:EM FV}(p:PyData->Bool)(f:PyData->PyData){ds:List PyData}{Γ:Gv}
  (hs:∀ d∈ds,∃ Γ2 Γ3,tgF t d (Γ++List.replicate k none)=some Γ2/\cond Γ2=.ok (p d,Γ3)/\Γ3.take Γ.length=Γ/\(p d=true->∃ u Γ4,elt Γ3=.ok (u,Γ4)/\derS Γ4 u=some (f d)/\Γ4.take Γ.length=Γ)) :
  Zz k t cond elt ds [] Γ=.ok ((ds.filter p).map f,Γ):=by
 obtain⟨ys,Γ',e,hy,rfl⟩:=qu (k:=k) (t:=t) (cond:=cond) (elt:=elt) (fun pre ys Γ'=>ys=(pre.filter p).map f/\Γ'=Γ) (ds:=ds) (Γ:=Γ) ⟨rfl,rfl⟩ (by
  rintro pre d post e ys Γ' ⟨rfl,rfl⟩
  obtain⟨Γ2,Γ3,e1,e2,e3,h⟩:=hs d (by rw[e];simp)
  refine⟨Γ2,p d,Γ3,e1,e2,fun hp=>?_,fun hp=>⟨by simp[xW,hp],e3⟩⟩
  obtain⟨u,Γ4,e4,e5,e6⟩:=h hp
  exact⟨u,Γ4,_,e4,e5,by simp[xW,hp],e6⟩)
 rw[e,hy]
noncomputable def jk (cf:CF):Prop:=∀ b,zH b->∀ n:Int,1<=n->n<1073741824->K6 b n (cf "_law_take" [b,.d (.int n)])
theorem zbT(cf:CF)(ht:jk cf)(hb:zH b):∃ (p n:Int) (b':OV),0<=p/\p<=12/\0<=n/\n<=40/\zH b'/\runI 1 [true] [0] jf cf [b]=.ok (.d (.tuple [.int p,.int n])) [some b']:=by
 obtain⟨r1,b1,h1,h1',hb1,e1⟩:=ht b hb 8 (by decide) (by decide)
 by_cases hr:r1=0
 ·obtain⟨r2,b2,h2,h2',hb2,e2⟩:=ht b1 hb1 13 (by decide) (by decide)
  obtain⟨r3,b3,h3,h3',hb3,e3⟩:=ht b2 hb2 41 (by decide) (by decide)
  refine⟨r2,r3,b3,h2,by omega,h3,by omega,hb3,?_⟩
  simp![jf,e1,e2,e3,hr,lay,PyData.eqv,OV.view,OV.views,zC,ixN,atI]
 ·obtain⟨r2,b2,h2,h2',hb2,e2⟩:=ht b1 hb1 7 (by decide) (by decide)
  obtain⟨r3,b3,h3,h3',hb3,e3⟩:=ht b2 hb2 9 (by decide) (by decide)
  refine⟨r2,r3,b3,h2,by omega,h3,by omega,hb3,?_⟩
  simp![jf,e1,e2,e3,hr,lay,PyData.eqv,OV.view,OV.views,zC,ixN,atI]
theorem Zq{ds pre post:List PyData}(e:ds=pre++d::post):pre.length<ds.length:=by rw[e];simp
theorem Zc{n:Nat}{pre post:List PyData}(e:zM n=pre++d::post):d=.int pre.length/\pre.length<n:=by
 have h:(zM n)[pre.length]?=some d:=by rw[e];simp
 exact⟨(ZS h).2,(ZS h).1⟩
theorem yF(cf:CF)(ht:jk cf){b:OV}(hb:zH b){pots way:Int}{size n:Nat}(hs:size<=1000){o4 o5 o6 o7 o8 o9:Option OV} :
  ∃ (ps:List (Int×Int)) (b':OV),ps.length=n/\zH b'/\Zz 1 (.nm 0 10) fYes (b_law_lacks_1.ev cf).1 (zM n) [] [some b,some (.d (.int pots)),some (.d (.int size)),some (.d (.int way)),o4,o5,o6,o7,o8,o9]=.ok (ps.map fun p=>.tuple [.int p.1,.int p.2],[some b',some (.d (.int pots)),some (.d (.int size)),some (.d (.int way)),o4,o5,o6,o7,o8,o9]):=by
 obtain⟨ys,Γ',e,⟨ps,b',hp,hb',rfl,rfl⟩⟩:=qu (k:=1) (t:=.nm 0 10) (cond:=fYes) (elt:=(b_law_lacks_1.ev cf).1) (ds:=zM n) (Γ:= [some b,some (.d (.int pots)),some (.d (.int size)),some (.d (.int way)),o4,o5,o6,o7,o8,o9])
  (fun pre ys Γ=>∃ (ps:List (Int×Int)) (b':OV),ps.length=pre.length/\zH b'/\ys=ps.map (fun p=>PyData.tuple [.int p.1,.int p.2])/\Γ= [some b',some (.d (.int pots)),some (.d (.int size)),some (.d (.int way)),o4,o5,o6,o7,o8,o9]) ⟨[],b,rfl,hb,rfl,rfl⟩ (by
   rintro pre d post e ys Γ ⟨ps,b1,hp,hb1,rfl,rfl⟩
   obtain⟨r2,b2,h2,h2',hb2,e2⟩:=ht b1 hb1 (size+1) (by omega) (by omega)
   obtain⟨r3,b3,h3,h3',hb3,e3⟩:=ht b2 hb2 (size+1) (by omega) (by omega)
   refine⟨_,true,_,by simp[tgF];rfl,rfl,fun _=>?_,fun z=>nomatch z⟩
   refine⟨.dat (.tuple [.int r2,.int r3]),[some b3,some (.d (.int pots)),some (.d (.int size)),some (.d (.int way)),o4,o5,o6,o7,o8,o9,some (.d d)],_,?_,rfl,ps++ [(r2,r3)],b3,by simp[hp],hb3,by simp,by simp⟩
   simp![b_law_lacks_1,e2,e3,OV.view,OV.views,zC,ixN,atI])
 rw[zy]at hp
 exact⟨ps,b',hp,hb',e⟩
theorem kN(cf:CF)(ht:jk cf)(hb:zH b)(ps:List (Int×Int))(hps:ps.length<=1000) :
  ∃ (bs:List Bool) (b':OV) (o8' o9':Option OV),bs.length=ps.length/\zH b'/\z7 (.tp (.cons (.nm 8 8) (.cons (.nm 9 9) .nil))) (b_law_lacks_2.ex cf [0]) (ps.map fun p=>PyData.tuple [.int p.1,.int p.2]) [some b,some (.d (.int pots)),some (.d (.int size)),some (.d (.int way)),o4,o5,some (.d (.int at_)),some (.l []),o8,o9]
   = .ok (.next,[some b',some (.d (.int pots)),some (.d (.int size)),some (.d (.int way)),o4,o5,some (.d (.int at_)),some (.l (bs.map fun x=>.d (.bool x))),o8',o9']):=by
 obtain⟨Γ',e,⟨bs,b',o8',o9',hl,hb',rfl⟩⟩:=qi (t:=.tp (.cons (.nm 8 8) (.cons (.nm 9 9) .nil))) (body:=b_law_lacks_2.ex cf [0]) (ds:=ps.map fun p=>PyData.tuple [.int p.1,.int p.2]) (Γ:= [some b,some (.d (.int pots)),some (.d (.int size)),some (.d (.int way)),o4,o5,some (.d (.int at_)),some (.l []),o8,o9])
  (fun pre Γ=>∃ (bs:List Bool) (b':OV) (o8' o9':Option OV),bs.length=pre.length/\zH b'/\Γ= [some b',some (.d (.int pots)),some (.d (.int size)),some (.d (.int way)),o4,o5,some (.d (.int at_)),some (.l (bs.map fun x=>.d (.bool x))),o8',o9']) ⟨[],b,o8,o9,rfl,hb,rfl⟩ (by
   rintro pre d post e Γ ⟨bs,b1,o8',o9',hl,hb1,rfl⟩
   have hlt:=Zq e
   rw[xo]at hlt
   obtain⟨p,-,rfl⟩:∃ p∈ps,PyData.tuple [.int p.1,.int p.2]=d:=by
    have:d∈ps.map fun p=>PyData.tuple [.int p.1,.int p.2]:=by rw[e];simp
    exact xI.mp this
   have hsz:bs.length<1000000:=by omega
   have key:∃ (x:Bool) (b2:OV),zH b2/\b_law_lacks_2.ex cf [0] [some b1,some (.d (.int pots)),some (.d (.int size)),some (.d (.int way)),o4,o5,some (.d (.int at_)),some (.l (bs.map fun x=>.d (.bool x))),some (.d (.int p.1)),some (.d (.int p.2))]
     = .ok (.next,[some b2,some (.d (.int pots)),some (.d (.int size)),some (.d (.int way)),o4,o5,some (.d (.int at_)),some (.l ((bs++ [x]).map fun x=>.d (.bool x))),some (.d (.int p.1)),some (.d (.int p.2))]):=by
    by_cases h0:way=0
    ·obtain⟨r2,b2,h2,h2',hb2,e2⟩:=ht b1 hb1 2 (by decide) (by decide)
     refine⟨r2==1,b2,hb2,?_⟩
     simp![b_law_lacks_2,h0,e2,hsz,lay,PyData.eqv,OV.view,OV.views,zC,ixN,atI]
    ·by_cases h1:way=1
     ·refine⟨decide ((if p.2<p.1 then p.2 else p.1)<=(at_:Int))&&decide ((at_:Int)<(if p.2>p.1 then p.2 else p.1)),b1,hb1,?_⟩
      by_cases h3:(if p.2<p.1 then p.2 else p.1)<=(at_:Int)
      ·simp![b_law_lacks_2,h0,h1,h3,hsz,lay,PyData.eqv,OV.view,OV.views,zC,ixN,atI]
      ·simp![b_law_lacks_2,h0,h1,h3,hsz,lay,PyData.eqv,OV.view,OV.views,zC,ixN,atI]
     ·by_cases h2:way=2
      ·refine⟨decide ((at_:Int)<p.1),b1,hb1,?_⟩
       simp![b_law_lacks_2,h0,h1,h2,hsz,lay,PyData.eqv,OV.view,OV.views,zC,ixN,atI]
      ·refine⟨!(decide ((at_:Int)<p.1)==((at_:Int)==p.2)),b1,hb1,?_⟩
       simp![b_law_lacks_2,h0,h1,h2,hsz,lay,PyData.eqv,OV.view,OV.views,zC,ixN,atI]
   obtain⟨x,b2,hb2,ek⟩:=key
   exact⟨_,_,by simp[tgF,tgFs],ek,bs++ [x],b2,_,_,by simp[hl],hb2,rfl⟩)
 refine⟨bs,b',o8',o9',by rw[hl,xo],hb',e⟩
noncomputable def zJ(bs:List Bool):PyData:=.list (bs.map .bool)
theorem V8(bs:List Bool):OV.views (bs.map fun x=>.d (.bool x))=bs.map .bool:=by
 rw[OV.views_map,xP];rfl
noncomputable def Yj(pots size:Nat)(x:RF):Prop:=∃ (rows:List (List Bool)) (b':OV),rows.length=size/\(∀ r∈rows,r.length=pots)/\zH b'/\x=.ok (.l (rows.map fun r=>.d (zJ r))) [some b',none,none]
theorem zaT(cf:CF)(ht:jk cf)(hb:zH b){pots size:Nat}(hp:pots<=1000)(hs:size<=1000):Yj pots size (runI 10 [true,false,false] [0] jQ cf [b,.d (.int pots),.d (.int size)]):=by
 obtain⟨way,b1,h1,h1',hb1,e1⟩:=ht b hb 4 (by decide) (by decide)
 obtain⟨ps,b2,hpl,hb2,e2⟩:=yF cf ht hb1 (pots:=pots) (way:=way) (size:=size) (n:=pots) hs (o4:=none) (o5:=none) (o6:=none) (o7:=none) (o8:=none) (o9:=none)
 obtain⟨Γ',e3,⟨rows,b3,o6,o7,o8,o9,hl,hr,hb3,rfl⟩⟩:=qi (t:=.nm 6 6) (body:=b_law_lacks_3.ex cf [0]) (ds:=zM size) (Γ:= [some b2,some (.d (.int pots)),some (.d (.int size)),some (.d (.int way)),some (.d (.list (ps.map fun p=>.tuple [.int p.1,.int p.2]))),some (.l []),none,none,none,none])
  (fun pre Γ=>∃ (rows:List (List Bool)) (b':OV) (o6 o7 o8 o9:Option OV),rows.length=pre.length/\(∀ r∈rows,r.length=pots)/\zH b'/\Γ= [some b',some (.d (.int pots)),some (.d (.int size)),some (.d (.int way)),some (.d (.list (ps.map fun p=>.tuple [.int p.1,.int p.2]))),some (.l (rows.map fun r=>.d (zJ r))),o6,o7,o8,o9]) ⟨[],b2,_,_,_,_,rfl,(fun _ h=>nomatch h),hb2,rfl⟩ (by
   rintro pre d post e Γ ⟨rows,b3,o6,o7,o8,o9,hl,hr,hb3,rfl⟩
   obtain⟨rfl,hlt⟩:=Zc e
   obtain⟨bs,b4,o8',o9',hbl,hb4,e4⟩:=kN cf ht hb3 (pots:=pots) (way:=way) (size:=size) (at_:=pre.length) ps (by omega) (o4:=some (.d (.list (ps.map fun p=>.tuple [.int p.1,.int p.2])))) (o5:=some (.l (rows.map fun r=>.d (zJ r)))) (o8:=o8) (o9:=o9)
   refine⟨_,[some b4,some (.d (.int pots)),some (.d (.int size)),some (.d (.int way)),some (.d (.list (ps.map fun p=>.tuple [.int p.1,.int p.2]))),some (.l ((rows++ [bs]).map fun r=>.d (zJ r))),some (.d (.int pre.length)),some (.d (zJ bs)),o8',o9'],by simp[tgF];rfl,?_,rows++ [bs],b4,_,_,_,_,by simp[hl],?_,hb4,rfl⟩
   ·have hz:rows.length<1000000:=by omega
    simp![b_law_lacks_3,OV.view,OV.views,zC,ixN,atI]
    rw[e4]
    simp![hz,V8,zJ,OV.view,OV.views,zC,ixN,atI]
   ·intro r h
    rcases xM.mp h with h | h
    ·exact hr r h
    ·have:r=bs:=by simpa using h
     subst this;rw[hbl,hpl])
 rw[zy]at hl
 refine⟨rows,b3,hl,hr,hb3,?_⟩
 have hp1: -1000000<=(pots:Int)/\(pots:Int)<=1000000:=by omega
 have hs1: -1000000<=(size:Int)/\(size:Int)<=1000000:=by omega
 have hp2:pots<=1000000:=by omega
 simp![jQ,e1,e2,e3,hp1,hs1,hp2,zy,OV.view,OV.views,zC,ixN,atI]
theorem zaH{α:Type}(f:Int->α)(xs:List Int)(a:α):(xs.map f++ [a])[xs.length]?=some a:=by
 rw[xf (by simp)];simp
theorem zbQ{α:Type}(f:Int->α)(xs:List Int)(a b:α):(xs.map f++ [a]).set xs.length b=xs.map f++ [b]:=by
 rw[uE _ _ (by simp)];simp
noncomputable def zj(xs:List Int):PyData:=.tuple (xs.map .int)
noncomputable def qm(st:List Int)(w:Bool)(wi:List Int):PyData:=.tuple [zj st,.bool w,zj wi]
noncomputable def In9(xs:List Int):Prop:=∀ x∈xs,0<=x/\x<=9
structure qy(pots:Nat)(st wi:List Int):Prop where
 sl:st.length=pots
 wl:wi.length=pots
 sn:In9 st
 wn:In9 wi
theorem In9.snoc {x:Int}(h:In9 xs)(h1:0<=x)(h2:x<=9):In9 (xs++ [x]):=by
 intro y hy
 rcases xM.mp hy with hy | hy
 ·exact h y hy
 ·have:y=x:=by simpa using hy
  subst this;exact⟨h1,h2⟩
theorem Jc(xs:List Int):leaves (xs.map fun x=>.d (.int x))=some (xs.map .int):=by
 induction xs with
 |nil=>rfl
 |cons x xs ih=>simp[leaves,ih]
noncomputable def KY(pots:Nat)(x:RF):Prop:=∃ (st wi:List Int) (w:Bool) (b':OV),qy pots st wi/\zH b'/\x=.ok (.d (qm st w wi)) [some b',none,none,none]
theorem kE(cf:CF)(ht:jk cf)(hb:zH b)(bs:List Bool)(hl:bs.length<=1000){loose wet:Int}(h0:0<=loose)(h1:loose<=1000) :
  ∃ (st wi:List Int) (b':OV) (o6 o7:Option OV),qy bs.length st wi/\zH b'/\z7 (.nm 6 6) (b_law_cell_1.ex cf [0]) (bs.map .bool) [some b,some (.d (zJ bs)),some (.d (.int loose)),some (.d (.int wet)),some (.l []),some (.l []),none,none]
   = .ok (.next,[some b',some (.d (zJ bs)),some (.d (.int loose)),some (.d (.int wet)),some (.l (st.map fun x=>.d (.int x))),some (.l (wi.map fun x=>.d (.int x))),o6,o7]):=by
 obtain⟨Γ',e,⟨st,wi,b',o6,o7,hc,hb',rfl⟩⟩:=qi (t:=.nm 6 6) (body:=b_law_cell_1.ex cf [0]) (ds:=bs.map .bool) (Γ:= [some b,some (.d (zJ bs)),some (.d (.int loose)),some (.d (.int wet)),some (.l []),some (.l []),none,none])
  (fun pre Γ=>∃ (st wi:List Int) (b':OV) (o6 o7:Option OV),qy pre.length st wi/\zH b'/\Γ= [some b',some (.d (zJ bs)),some (.d (.int loose)),some (.d (.int wet)),some (.l (st.map fun x=>.d (.int x))),some (.l (wi.map fun x=>.d (.int x))),o6,o7]) ⟨[],[],b,_,_,⟨rfl,rfl,(fun _ h=>nomatch h),(fun _ h=>nomatch h)⟩,hb,rfl⟩ (by
   rintro pre d post e Γ ⟨st,wi,b1,o6,o7,hc,hb1,rfl⟩
   have hlt:=Zq e
   rw[xo]at hlt
   obtain⟨x,-,rfl⟩:∃ x∈bs,PyData.bool x=d:=by
    have:d∈bs.map PyData.bool:=by rw[e];simp
    exact xI.mp this
   have hz1:st.length<1000000:=by have:=hc.sl;omega
   have hz2:wi.length<1000000:=by have:=hc.wl;omega
   have hn1:¬ ((st.length:Int)+1<=0):=by omega
   have key:∃ (s1 w1:Int) (b2:OV) (o7':Option OV),0<=s1/\s1<=9/\0<=w1/\w1<=9/\zH b2/\b_law_cell_1.ex cf [0] [some b1,some (.d (zJ bs)),some (.d (.int loose)),some (.d (.int wet)),some (.l (st.map fun x=>.d (.int x))),some (.l (wi.map fun x=>.d (.int x))),some (.d (.bool x)),o7]
     = .ok (.next,[some b2,some (.d (zJ bs)),some (.d (.int loose)),some (.d (.int wet)),some (.l ((st++ [s1]).map fun x=>.d (.int x))),some (.l ((wi++ [w1]).map fun x=>.d (.int x))),some (.d (.bool x)),o7']):=by
    obtain⟨r2,b2,h2,h2',hb2,e2⟩:=ht b1 hb1 9 (by decide) (by decide)
    have hw:0<=r2+(if x then 1 else 0)/\r2+(if x then 1 else 0)<=9:=by split<;>omega
    by_cases hlo:0<loose
    ·obtain⟨r3,b3,h3,h3',hb3,e3⟩:=ht b2 hb2 loose (by omega) (by omega)
     by_cases hr:r3=0
     ·obtain⟨r4,b4,h4,h4',hb4,e4⟩:=ht b3 hb3 10 (by decide) (by decide)
      obtain⟨r5,b5,h5,h5',hb5,e5⟩:=ht b4 hb4 10 (by decide) (by decide)
      refine⟨r4,r5,b5,some (.d (.int r2)),h4,by omega,h5,by omega,hb5,?_⟩
      have a1:(1:Int)<=st.length+1:=by omega
      have a2:(1:Int)<=wi.length+1:=by omega
      have t1:(-1+((st.length:Int)+1)).toNat=st.length:=by omega
      have t2:(-1+((wi.length:Int)+1)).toNat=wi.length:=by omega
      simp![b_law_cell_1,e2,e3,e4,e5,hr,hlo,hz1,hz2,a1,a2,t1,t2,zaH,zbQ,lay,PyData.eqv,OV.view,OV.views,zC,ixN,atI]
     ·refine⟨r2,r2+(if x then 1 else 0),b3,some (.d (.int r2)),h2,by omega,hw.1,hw.2,hb3,?_⟩
      simp![b_law_cell_1,e2,e3,hr,hlo,hz1,hz2,lay,PyData.eqv,OV.view,OV.views,zC,ixN,atI]
    ·refine⟨r2,r2+(if x then 1 else 0),b2,some (.d (.int r2)),h2,by omega,hw.1,hw.2,hb2,?_⟩
     simp![b_law_cell_1,e2,hlo,hz1,hz2,lay,PyData.eqv,OV.view,OV.views,zC,ixN,atI]
   obtain⟨s1,w1,b2,o7',q1,q2,q3,q4,hb2,ek⟩:=key
   exact⟨_,_,by simp[tgF],ek,st++ [s1],wi++ [w1],b2,_,_,⟨by simp[hc.sl],by simp[hc.wl],hc.sn.snoc q1 q2,hc.wn.snoc q3 q4⟩,hb2,rfl⟩)
 rw[xo]at hc
 exact⟨st,wi,b',o6,o7,hc,hb',e⟩
theorem zcW(cf:CF)(ht:jk cf)(hb:zH b)(bs:List Bool)(hl:bs.length<=1000){loose wet:Int}(h0:0<=loose)(h1:loose<=1000):KY bs.length (runI 8 [true,false,false,false] [0] jx cf [b,.d (zJ bs),.d (.int loose),.d (.int wet)]):=by
 obtain⟨st,wi,b1,o6,o7,hc,hb1,e1⟩:=kE cf ht hb bs hl (wet:=wet) h0 h1
 have hz1:st.length<=1000000:=by have:=hc.sl;omega
 have hz2:wi.length<=1000000:=by have:=hc.wl;omega
 by_cases hw:0<wet
 ·obtain⟨r2,b2,h2,h2',hb2,e2⟩:=ht b1 hb1 5 (by decide) (by decide)
  refine⟨st,wi,decide (r2<wet),b2,hc,hb2,?_⟩
  simp![jx,zJ,OV.view,OV.views,zC,ixN,atI]
  simp only[zJ]at e1
  simp![e1,e2,hw,hz1,hz2,Jc,qm,zj,OV.view,OV.views,zC,ixN,atI]
 ·refine⟨st,wi,false,b1,hc,hb1,?_⟩
  simp![jx,zJ,OV.view,OV.views,zC,ixN,atI]
  simp only[zJ]at e1
  simp![e1,hw,hz1,hz2,Jc,qm,zj,OV.view,OV.views,zC,ixN,atI]
noncomputable def Yg (cf:CF):Prop:=∀ b,zH b->∀ (bs:List Bool) (loose wet:Int),bs.length<=1000->0<=loose->loose<=1000->KY bs.length (cf "_law_cell" [b,.d (zJ bs),.d (.int loose),.d (.int wet)])
noncomputable def Yk (cf:CF):Prop:=∀ b,zH b->∀ (pots size:Nat),pots<=1000->size<=1000->Yj pots size (cf "_law_lacks" [b,.d (.int pots),.d (.int size)])
structure Cl where
 st:List Int
 w:Bool
 wi:List Int
noncomputable def Cl.D(c:Cl):PyData:=qm c.st c.w c.wi
noncomputable def KW(pots size:Nat)(x:RF):Prop:=∃ (cs:List Cl) (b':OV),cs.length=size/\(∀ c∈cs,qy pots c.st c.wi)/\zH b'/\x=.ok (.l (cs.map fun c=>.d c.D)) [some b',none,none,none]
theorem zcM(cf:CF)(ht:jk cf)(hlk:Yk cf)(hce:Yg cf){b:OV}(hb:zH b){pots size:Nat}(hp:pots<=1000)(hs:size<=1000){loose:Int}(h0:0<=loose)(h1:loose<=1000) :
  KW pots size (runI 6 [true,false,false,false] [0] ZI cf [b,.d (.int pots),.d (.int size),.d (.int loose)]):=by
 obtain⟨wet,b1,g1,g1',hb1,e1⟩:=ht b hb 4 (by decide) (by decide)
 obtain⟨rows,b2,hl,hr,hb2,e2⟩:=hlk b1 hb1 pots size hp hs
 obtain⟨ys,Γ',e3,⟨cs,b3,hcl,hck,hb3,rfl,rfl⟩⟩:=qu (k:=1) (t:=.nm 0 6) (cond:=fYes) (elt:=(b_law_bolt_1.ev cf).1) (ds:=rows.map zJ) (Γ:= [some b2,some (.d (.int pots)),some (.d (.int size)),some (.d (.int loose)),some (.d (.int wet)),some (.d (.list (rows.map zJ)))])
  (fun pre ys Γ=>∃ (cs:List Cl) (b':OV),cs.length=pre.length/\(∀ c∈cs,qy pots c.st c.wi)/\zH b'/\ys=cs.map Cl.D/\Γ= [some b',some (.d (.int pots)),some (.d (.int size)),some (.d (.int loose)),some (.d (.int wet)),some (.d (.list (rows.map zJ)))]) ⟨[],b2,rfl,(fun _ h=>nomatch h),hb2,rfl,rfl⟩ (by
   rintro pre d post e ys Γ ⟨cs,b3,hcl,hck,hb3,rfl,rfl⟩
   obtain⟨r,hrm,rfl⟩:∃ r∈rows,zJ r=d:=by
    have:d∈rows.map zJ:=by rw[e];simp
    exact xI.mp this
   have hrl:=hr r hrm
   obtain⟨st,wi,w,b4,hc,hb4,e4⟩:=hce b3 hb3 r loose wet (by omega) h0 h1
   rw[hrl]at hc
   refine⟨_,true,_,by simp[tgF];rfl,rfl,fun _=>?_,fun z=>nomatch z⟩
   refine⟨.dat (qm st w wi),[some b4,some (.d (.int pots)),some (.d (.int size)),some (.d (.int loose)),some (.d (.int wet)),some (.d (.list (rows.map zJ))),some (.d (zJ r))],qm st w wi,?_,rfl,cs++ [⟨st,w,wi⟩],b4,by simp[hcl],?_,hb4,by simp[Cl.D],by simp⟩
   ·simp![b_law_bolt_1,e4,OV.view,OV.views,zC,ixN,atI]
   ·intro c h
    rcases xM.mp h with h | h
    ·exact hck c h
    ·have:c=⟨st,w,wi⟩:=by simpa using h
     subst this;exact hc)
 rw[xo]at hcl
 refine⟨cs,b3,by omega,hck,hb3,?_⟩
 have hz:rows.length<=1000000:=by omega
 have hv:OV.views (rows.map fun r=>.d (zJ r))=rows.map zJ:=by rw[OV.views_map,xP];rfl
 simp![ZI,e1,e2,hv,hz,OV.view,OV.views,zC,ixN,atI]
 rw[e3]
 simp[outs]
theorem zA(n:Nat)(i:Int):lay n (.int i)=true:=by cases n<;>rfl
theorem wC(n:Nat)(i:Bool):lay n (.bool i)=true:=by cases n<;>rfl
theorem Qj{n:Nat}(h:∀ x∈xs,lay n x=true):lay (n+1) (.list xs)=true:=by rw[lay];exact xA.mpr h
theorem JA{n:Nat}(h:∀ x∈xs,lay n x=true):lay (n+1) (.tuple xs)=true:=by rw[lay];exact xA.mpr h
theorem VC(n:Nat)(xs:List Nat):lay (n+1) (.list (xs.map fun (i:Nat)=>.int (i:Int)))=true:=Qj fun x h=>by
 obtain⟨i,_,rfl⟩:=xI.mp h
 exact zA _ _
theorem zaX(n:Nat)(c:Cl):lay (n+2) c.D=true:=JA fun x h=>by
 have:x=zj c.st∨x=.bool c.w∨x=zj c.wi:=by simpa using h
 rcases this with rfl | rfl | rfl
 ·exact JA fun x h=>by obtain⟨i,_,rfl⟩:=xI.mp h;exact zA _ _
 ·exact wC _ _
 ·exact JA fun x h=>by obtain⟨i,_,rfl⟩:=xI.mp h;exact zA _ _
theorem zaW(n:Nat)(cs:List Cl):lay (n+3) (.list (cs.map Cl.D))=true:=Qj fun x h=>by
 obtain⟨c,_,rfl⟩:=xI.mp h
 exact zaX _ _
theorem Jx (h:lay n d=true):PyData.eqv d d=true:=PySem.SeqAt.eqv_refl d (z9 n d h).1
theorem zX(i j:Int):PyData.eqv (.int i) (.int j)=(i==j):=rfl
noncomputable def lk(cs:List Cl)(d i:Nat):Bool:=match cs[i]? with
 |some c=>decide (c.st.getD d 0<c.wi.getD d 0)
 |none=>false
noncomputable def zm(cs:List Cl)(d:Nat):List Nat:=(List.range cs.length).filter (lk cs d)
noncomputable def zb(xs:List Nat):List PyData:=xs.map fun (i:Nat)=>.int (i:Int)
noncomputable def zD(xs:List Nat):OV:=.l (xs.map fun (i:Nat)=>.d (.int (i:Int)))
noncomputable def zc(cs:List Cl):PyData:=.list (cs.map Cl.D)
noncomputable def Bolt(pots:Nat)(cs:List Cl):Prop:=cs.length<=1000/\∀ c∈cs,qy pots c.st c.wi
theorem je{xs:List Int}{d:Nat}(h:d<xs.length):atI (xs.map PyData.int) (d:Int)=some (.int (xs.getD d 0)):=by
 have e:(xs.map PyData.int)[d]?=some (.int (xs.getD d 0)):=by rw[xk,xg h,List.getD_eq_getElem?_getD,xg h];rfl
 unfold atI ixN
 rw[if_pos (by omega),if_pos (by rw[xo];omega)]
 simpa using e
theorem Wq{α:Type}(a b c:α):atI [a,b,c] 0=some a:=rfl
theorem zhh{α:Type}(a b c:α):atI [a,b,c] 1=some b:=rfl
theorem Yq{α:Type}(a b c:α):atI [a,b,c] 2=some c:=rfl
theorem kU(xs:List Nat):(xs.map fun (i:Nat)=>PyData.int (i:Int)).map OV.d=xs.map fun (i:Nat)=>OV.d (.int (i:Int)):=by rw[xP];rfl
theorem Jw{xs pre post:List PyData}(e:qe xs=pre++d::post):∃ x,xs[pre.length]?=some x/\d=.tuple [.int pre.length,x]:=QH (by rw[e];simp)
theorem yE(cf:CF){pots:Nat}{cs:List Cl}(hb:Bolt pots cs){d:Nat}(hd:d<pots):runI 2 [false,false] [] QV cf [.d (zc cs),.d (.int d)]=.ok (zD (zm cs d)) [none,none]:=by
 obtain⟨ys,Γ',e,rfl,rfl⟩:=qu (k:=4) (t:=.tp (.cons (.nm 0 2) (.cons (.tp (.cons (.nm 1 3) (.cons (.nm 2 4) (.cons (.nm 3 5) .nil)))) .nil))) (cond:=p_lacking_1.ev cf) (elt:=(p_lacking_2.ev cf).1) (ds:=qe (cs.map Cl.D)) (Γ:= [some (.d (zc cs)),some (.d (.int d))])
  (fun pre ys Γ=>ys=((List.range pre.length).filter (lk cs d)).map (fun (i:Nat)=>PyData.int (i:Int))/\Γ= [some (.d (zc cs)),some (.d (.int d))]) ⟨rfl,rfl⟩ (by
   rintro pre x post e ys Γ ⟨rfl,rfl⟩
   obtain⟨y,hy,rfl⟩:=Jw e
   rw[xk]at hy
   cases hc:cs[pre.length]? with
   |none=>rw[hc]at hy;cases hy
   |some c=>
    rw[hc]at hy
    have:y=c.D:=by simpa using hy.symm
    subst this
    have ok:=hb.2 c (xJ hc)
    have a1:=je (xs:=c.st) (d:=d) (by rw[ok.sl];exact hd)
    have a2:=je (xs:=c.wi) (d:=d) (by rw[ok.wl];exact hd)
    have hlk:lk cs d pre.length=decide (c.st.getD d 0<c.wi.getD d 0):=by unfold lk;rw[hc]
    refine⟨_,lk cs d pre.length,[some (.d (zc cs)),some (.d (.int d)),some (.d (.int pre.length)),some (.d (zj c.st)),some (.d (.bool c.w)),some (.d (zj c.wi))],by simp[tgF,tgFs,Cl.D,qm];rfl,?_,fun h=>⟨.dat (.int pre.length),[some (.d (zc cs)),some (.d (.int d)),some (.d (.int pre.length)),some (.d (zj c.st)),some (.d (.bool c.w)),some (.d (zj c.wi))],.int pre.length,by simp![p_lacking_2,OV.view,OV.views,zC,ixN,atI],rfl,?_,by simp⟩,fun h=>⟨?_,by simp⟩⟩
    ·rw[hlk];simp![p_lacking_1,zj,a1,a2,OV.view,OV.views,zC]
    ·simp[xZ,xW,h]
    ·simp[xZ,xW,h])
 have hz:cs.length<=1000000:=by have:=hb.1;omega
 simp only[qc,xo]at e
 simp![QV,zc,hz,qc,OV.view,OV.views,zC,ixN,atI]
 simp only[zc]at e
 rw[e]
 simp[zD,zm,kU,outs]
noncomputable def Zj(x:Str)(cf:CF):Prop:=∀ (pots:Nat) (cs:List Cl),Bolt pots cs->∀ d:Nat,d<pots->cf x [.d (zc cs),.d (.int d)]=.ok (zD (zm cs d)) [none,none]
noncomputable def qq(cs:List Cl)(pots:Nat):List Nat:=(List.range pots).filter fun d=> !(zm cs d).isEmpty
theorem zU(xs:List Nat):(zD xs).view=.list (zb xs):=by
 unfold zD zb
 rw[OV.view,OV.views_map,xP];rfl
theorem j7(xs:List Nat):(zb xs).isEmpty=xs.isEmpty:=by cases xs<;>rfl
theorem qB(xs:List Nat):(zb xs).length=xs.length:=by simp[zb]
theorem kX (cf:CF) (hl:Zj "lacking" cf){pots:Nat}(hp:pots<=1000){cs:List Cl}(hb:Bolt pots cs):runI 2 [false] [] Qo cf [.d (zc cs)]=.ok (zD (if cs.isEmpty then [] else qq cs pots)) [none]:=by
 cases cs with
 |nil=>simp![Qo,zc,zD,OV.view,OV.views,zC,ixN,atI]
 |cons c cs=>
  have e:=qS (k:=1) (t:=.nm 0 2) (cond:=p_needed_1.ev cf) (elt:=(p_needed_2.ev cf).1) (ds:=zM pots) (Γ:= [some (.d (zc (c::cs))),some (.d (.int pots))])
   (fun x=>match x with | .int i=> !(zm (c::cs) i.toNat).isEmpty | _=>false) id (by
    intro x hx
    obtain⟨i,hi,rfl⟩:∃ i,i<pots/\x=.int (i:Nat):=by
     obtain⟨i,hi,rfl⟩:=xI.mp hx
     exact⟨i,by simpa using hi,rfl⟩
    have el:=hl pots (c::cs) hb i hi
    refine⟨_,[some (.d (zc (c::cs))),some (.d (.int pots)),some (.d (.int i))],by simp[tgF];rfl,?_,by simp,fun _=>⟨.dat (.int i),[some (.d (zc (c::cs))),some (.d (.int pots)),some (.d (.int i))],by simp![p_needed_2,OV.view,OV.views,zC,ixN,atI],rfl,by simp⟩⟩
    simp![p_needed_1,el,zC,ixN,atI,zU,j7])
  have hc:=(hb.2 c (by simp)).sl
  have hz1: -1000000<=(pots:Int)/\(pots:Int)<=1000000:=by omega
  have hz:pots<=1000000:=by omega
  have ef:(zM pots).filter (fun x=>match x with | .int i=> !(zm (c::cs) i.toNat).isEmpty | _=>false)=zb (qq (c::cs) pots):=by
   unfold zM qq zb
   rw[List.filter_map]
   rfl
  rw[ef,List.map_id]at e
  simp only[zc,xB]at e
  simp![Qo,zc,Cl.D,qm,zj,hc,OV.view,OV.views,zC,ixN,atI,hz1,hz,zy]
  simp only[Cl.D,qm,zj]at e
  rw[e]
  simp[zD,zb,outs]
theorem QK{α:Type}(l:List α):l.filter (fun _=>true)=l:=List.filter_eq_self.mpr fun _ _=>rfl
theorem zcx(cf:CF)(i:Int):runI 1 [false] [] jS cf [.d (.int i)]=.ok (.d (.bool true)) [none]:=by
 simp![jS,OV.view,OV.views,zC,ixN,atI]
noncomputable def Yn (cf:CF):Prop:=∀ i:Int,cf "_law_whole" [.d (.int i)]=.ok (.d (.bool true)) [none]
noncomputable def Ym (cf:CF):Prop:=∀ b,zH b->∃ (p n:Int) (b':OV),0<=p/\p<=12/\0<=n/\n<=40/\zH b'/\cf "_law_sizes" [b]=.ok (.d (.tuple [.int p,.int n])) [some b']
noncomputable def Yf (cf:CF):Prop:=∀ b,zH b->∀ (pots size:Nat) (loose:Int),pots<=1000->size<=1000->0<=loose->loose<=1000->KW pots size (cf "_law_bolt" [b,.d (.int pots),.d (.int size),.d (.int loose)])
theorem Zi(cs:List Cl):OV.view (.l (cs.map fun c=>.d c.D))=zc cs:=by
 rw[OV.view,OV.views_map,xP];rfl
theorem Ja:∀ xs ys:List Nat,PyData.eqvAll (zb xs) (zb ys)=decide (xs=ys)
 |[],[]=>rfl
 |[],y::ys=>by simp[zb,PyData.eqvAll]
 |x::xs,[]=>by simp[zb,PyData.eqvAll]
 |x::xs,y::ys=>by
  have ih:=Ja xs ys
  unfold zb at ih |-
  rw[xB,xB,PyData.eqvAll,zX,ih]
  by_cases h:x=y
  ·subst h;simp
  ·have:((x:Int)==(y:Int))=false:=by simp;omega
   simp[this,h]
theorem Vr(xs ys:List Nat):PyData.eqv (.list (zb xs)) (.list (zb ys))=decide (xs=ys):=by
 rw[PyData.eqv];exact Ja xs ys
theorem Jb(xs:List Nat):z8 (zb xs)=some (xs.map fun (i:Nat)=>(i:Int)):=by
 have:=wy (xs.map fun (i:Nat)=>(i:Int))
 rw[xP]at this
 exact this
theorem kP(xs ys:List Nat):(((j6 (xs.map fun (i:Nat)=>(i:Int)) (ys.map fun (i:Nat)=>(i:Int)):Nat):Int)==0)=xs.all fun x=>ys.contains x:=by
 have hc:∀ x:Nat,(ys.map fun (i:Nat)=>(i:Int)).contains (x:Int)=ys.contains x:=fun x=>by
  rw[uj];simp
  constructor
  ·rintro⟨a,h,e⟩
   have:a=x:=by omega
   exact this ▸ h
  ·intro h;exact⟨x,h,rfl⟩
 have hz:j6 (xs.map fun (i:Nat)=>(i:Int)) (ys.map fun (i:Nat)=>(i:Int))=0↔∀ x∈xs,ys.contains x=true:=by
  unfold j6
  rw[uP]
  constructor
  ·intro h x hx
   cases e:ys.contains x with
   |true=>rfl
   |false=>
    have:(x:Int)∈Tab.dedup ((xs.map fun (i:Nat)=>(i:Int)).filter fun k=> !(ys.map fun (i:Nat)=>(i:Int)).contains k):=by
     rw[<- ZX,Tab.any_dedup,xE]
     exact⟨xI.mpr ⟨x,hx,rfl⟩,by rw[hc,e];rfl⟩
    rw[h]at this;cases this
  ·intro h
   cases e:Tab.dedup ((xs.map fun (i:Nat)=>(i:Int)).filter fun k=> !(ys.map fun (i:Nat)=>(i:Int)).contains k) with
   |nil=>rfl
   |cons k l=>
    have:k∈Tab.dedup ((xs.map fun (i:Nat)=>(i:Int)).filter fun k=> !(ys.map fun (i:Nat)=>(i:Int)).contains k):=by rw[e];simp
    rw[<- ZX,Tab.any_dedup,xE]at this
    obtain⟨h1,h2⟩:=this
    obtain⟨x,hx,rfl⟩:=xI.mp h1
    rw[hc,h x hx]at h2;cases h2
 rw[uj,beq_iff_eq,xA,<- hz]
 omega
noncomputable def Zw(a b:Nat)(xs ys:List Nat):Bool:=if xs=ys then decide (b<a) else xs.all fun x=>ys.contains x
theorem za5(cf:CF)(a b:Nat){xs ys:List Nat}(hx:xs.length<=60)(hy:ys.length<=60):runI 6 [false,false] [] jJ cf [.d (.tuple [.int a,.list (zb xs)]),.d (.tuple [.int b,.list (zb ys)])]=.ok (.d (.bool (Zw a b xs ys))) [none,none]:=by
 have l1:lay 20 (.list (zb xs))=true:=VC 19 _
 have l2:lay 20 (.list (zb ys))=true:=VC 19 _
 have hz:=kP xs ys
 by_cases he:xs=ys
 ·simp![jJ,Zw,he,l2,Vr,OV.view,OV.views,zC,ixN,atI]
 ·simp![jJ,Zw,he,l1,l2,Vr,Yw,Jb,hx,hy,zA,zX,hz,OV.view,OV.views,zC,ixN,atI]
noncomputable def Qy(cs:List Cl)(i:Nat):Bool:=match cs[i]? with
 |some c=>c.w
 |none=>false
theorem zg3{cs:List Cl}{i:Nat}(h:i<cs.length):atI (cs.map Cl.D) (i:Int)=some (qm cs[i].st (Qy cs i) cs[i].wi):=by
 refine jd ?_
 rw[xk,xg h]
 unfold Qy
 rw[xg h];rfl
theorem zaS{cs:List Cl}{d i:Nat}(h:i∈zm cs d):i<cs.length:=xL.mp (xE.mp h).1
theorem VF(xs:List Nat)(q:Nat->Bool):(zb xs).filter (fun x=>match x with | .int i=>q i.toNat | _=>false)=zb (xs.filter q):=by
 unfold zb
 rw[List.filter_map];rfl
theorem zg1 (cf:CF) (hl:Zj "lacking" cf){pots:Nat}{cs:List Cl}(hb:Bolt pots cs){d:Nat}(hd:d<pots):runI 2 [false,false] [] qf cf [.d (zc cs),.d (.int d)]=.ok (zD ((zm cs d).filter (Qy cs))) [none,none]:=by
 have el:=hl pots cs hb d hd
 have e:=qS (k:=1) (t:=.nm 0 2) (cond:=p_lacking_under_wax_1.ev cf) (elt:=(p_lacking_under_wax_2.ev cf).1) (ds:=zb (zm cs d)) (Γ:= [some (.d (zc cs)),some (.d (.int d))])
  (fun x=>match x with | .int i=>Qy cs i.toNat | _=>false) id (by
   intro x hx
   obtain⟨i,hi,rfl⟩:=xI.mp hx
   have hw:=zg3 (zaS hi)
   refine⟨_,[some (.d (zc cs)),some (.d (.int d)),some (.d (.int i))],by simp[tgF];rfl,?_,by simp,fun _=>⟨.dat (.int i),[some (.d (zc cs)),some (.d (.int d)),some (.d (.int i))],by simp![p_lacking_under_wax_2,OV.view,OV.views,zC,ixN,atI],rfl,by simp⟩⟩
   simp![p_lacking_under_wax_1,zc,hw,OV.view,OV.views,zC,qm,zhh])
 rw[VF,List.map_id]at e
 have hz:(zm cs d).length<=1000000:=by
  have h1:=ua (lk cs d) (List.range cs.length)
  rw[xS]at h1
  have:=hb.1
  unfold zm;omega
 simp![qf,el,zU,qB,hz,zC,ixN,atI]
 rw[e]
 simp[zD,zb,outs]
noncomputable def ub(cs:List Cl)(a b:Nat):Bool:=if a=b∨a=12 then false else if b=12 then !(zm cs a).any (Qy cs) else Zw a b (zm cs a) (zm cs b)
theorem VA(cs:List Cl)(d:Nat):(zm cs d).length<=cs.length:=by
 have:=ua (lk cs d) (List.range cs.length)
 rw[xS]at this;exact this
noncomputable def Ju (cf:CF):Prop:=∀ (a b:Nat) (xs ys:List Nat),xs.length<=60->ys.length<=60->cf "is_lower" [.d (.tuple [.int a,.list (zb xs)]),.d (.tuple [.int b,.list (zb ys)])]=.ok (.d (.bool (Zw a b xs ys))) [none,none]
noncomputable def K7 (cf:CF):Prop:=∀ (pots:Nat) (cs:List Cl),Bolt pots cs->∀ d:Nat,d<pots->cf "lacking_under_wax" [.d (zc cs),.d (.int d)]=.ok (zD ((zm cs d).filter (Qy cs))) [none,none]
theorem yB(xs:List Nat)(q:Nat->Bool):(!(zb (xs.filter q)).isEmpty)=xs.any q:=by
 rw[j7]
 induction xs with
 |nil=>rfl
 |cons x xs ih=>
  rw[uy,ug]
  cases q x with
  |true=>simp
  |false=>simpa using ih
theorem vw(xs:List Nat)(i:Nat):inD (.int (i:Int)) (zb xs)=xs.contains i:=by
 unfold inD zb
 rw[List.any_map,uj,List.any_eq_true]
 constructor
 ·rintro⟨x,hx,e⟩
  have e2:((x:Int)==(i:Int))=true:=e
  have e3:(x:Int)=(i:Int):=by simpa using e2
  have:x=i:=by omega
  subst this;simpa using hx
 ·intro h
  refine⟨i,by simpa using h,?_⟩
  show ((i:Int)==(i:Int))=true
  simp
theorem W6(xs:List Nat):(zb xs).all (lay 20)=true:=by
 rw[xA]
 intro x hx
 obtain⟨i,_,rfl⟩:=xI.mp hx
 exact zA _ _
end Wx
namespace Ku
noncomputable abbrev FL:=List (Option Nat)
noncomputable def fat(F:FL)(p:Nat):Option Nat:=(F[p]?).getD none
theorem qQ{F:FL}{p:Nat}(h:p<F.length):fat (F.set p s) p=s:=by unfold fat;rw[xl h];rfl
theorem zT{F:FL}{p q:Nat}(h:p≠q):fat (F.set p s) q=fat F q:=by unfold fat;rw[xj h]
theorem zfx{F:FL}{p s:Nat}(h:fat F p=some s):p<F.length:=by
 by_cases hp:p<F.length
 ·exact hp
 ·unfold fat at h;rw[xy (by omega)]at h;cases h
theorem js:∀ {l T:List Nat},l.Nodup->(∀ x∈l,x∈T)->l.length<=T.length
 |[],T,_,_=>uk _
 |a::l,T,h,hs=>by
  have ha:a∈T:=hs a (by simp)
  have hn:=xG.mp h
  have:=js (l:=l) (T:=T.erase a) hn.2 (fun x hx=>by
   have hxa:x≠a:=fun e=>hn.1 (e ▸ hx)
   exact (List.mem_erase_of_ne hxa).mpr (hs x (xi _ hx)))
  rw[List.length_erase_of_mem ha]at this
  have hp:=List.length_pos_of_mem ha
  simp only[xn]
  omega
theorem vy{T:List Nat}{N:Nat}(h:T.Nodup)(hl:∀ p∈T,p<N):T.length<=N:=by
 have:=js (T:=List.range N) h fun x hx=>xL.mpr (hl x hx)
 rwa [xS]at this
noncomputable abbrev RT:=Bool×FL×List Nat
noncomputable def zS(rec:Nat->FL->List Nat->RT)(a:Nat):List Nat->FL->List Nat->RT
 |[],F,T=>(false,F,T)
 |p::ps,F,T=>if T.contains p then zS rec a ps F T else
  match fat F p with
  |none=>(true,F.set p (some a),T++ [p])
  |some s=>match rec s F (T++ [p]) with
   | (true,F',T')=>(true,F'.set p (some a),T')
   | (false,F',T')=>zS rec a ps F' T'
noncomputable def up(ab:List (List Nat))(a:Nat):List Nat:=(ab[a]?).getD []
noncomputable def zt(ab:List (List Nat)):Nat->Nat->FL->List Nat->RT
 |0,_,F,T=>(false,F,T)
 |n+1,a,F,T=>zS (zt ab n) a (up ab a) F T
structure Val(ab:List (List Nat))(N:Nat)(F:FL)(T:List Nat):Prop where
 len:F.length=N
 edge:∀ p s,fat F p=some s->s<N/\p∈up ab s
 inj:∀ p q s,p∉T->q∉T->fat F p=some s->fat F q=some s->p=q
structure TOk(N:Nat)(T:List Nat):Prop where
 nd:T.Nodup
 lt:∀ p∈T,p<N
theorem TOk.snoc{N:Nat}{p:Nat}(h:TOk N T)(hp:p∉T)(hl:p<N):TOk N (T++ [p]):=by
 refine⟨?_,fun q hq=>?_⟩
 ·rw[uq]
  refine⟨h.nd,by simp,fun a ha b hb=>?_⟩
  have:b=p:=by simpa using hb
  subst this
  exact fun e=>hp (e ▸ ha)
 ·rcases xM.mp hq with hq | hq
  ·exact h.lt q hq
  ·have:q=p:=by simpa using hq
   omega
structure zcB(ab:List (List Nat))(N:Nat)(F:FL)(T:List Nat)(a:Nat)(F':FL):Prop where
 val:Val ab N F' T
 keep:∀ p∈T,fat F' p=fat F p
 vals:∀ p s,p∉T->fat F' p=some s->s=a∨∃ q,q∉T/\fat F q=some s
 has:∃ p,p∉T/\fat F' p=some a
 old:∀ q s,q∉T->fat F q=some s->∃ p,p∉T/\fat F' p=some s
structure Spec(ab:List (List Nat))(N:Nat)(F:FL)(T:List Nat)(a:Nat)(ps:List Nat)(r:RT):Prop where
 tok:TOk N r.2.2
 sub:∀ p∈T,p∈r.2.2
 same:r.1=false->r.2.1=F
 all:r.1=false->∀ p∈ps,p∈r.2.2
 dead:r.1=false->∀ p∈r.2.2,p∉T->∃ s,fat F p=some s/\∀ q∈up ab s,q∈r.2.2
 succ:r.1=true->zcB ab N F T a r.2.1
section
variable {ab:List (List Nat)}{N:Nat}(hab:∀ a p,p∈up ab a->p<N)
include hab
theorem Kv{F:FL}{a p:Nat}(v:Val ab N F T)(ha:a<N)(hna:∀ p,p∉T->fat F p≠some a)(hp:p∈up ab a)(hpT:p∉T)(hF:fat F p=none):zcB ab N F T a (F.set p (some a)):=by
 have hpl:p<F.length:=by rw[v.len];exact hab a p hp
 have get:∀ q s,fat (F.set p (some a)) q=some s->(q=p/\s=a)∨(q≠p/\fat F q=some s):=fun q s e=>by
  by_cases hq:q=p
  ·subst hq;rw[qQ hpl]at e;cases e;exact .inl ⟨rfl,rfl⟩
  ·rw[zT (Ne.symm hq)]at e;exact .inr ⟨hq,e⟩
 refine⟨⟨by rw[uh];exact v.len,fun q s e=>?_,fun q q' s h1 h2 e1 e2=>?_⟩,fun q hq=>zT fun e=>hpT (e ▸ hq),fun q s hq e=>?_,⟨p,hpT,qQ hpl⟩,fun q s hq e=>⟨q,hq,?_⟩⟩
 ·rcases get q s e with ⟨rfl,rfl⟩ | ⟨_,e⟩
  ·exact⟨ha,hp⟩
  ·exact v.edge q s e
 ·rcases get q s e1 with ⟨a1,b1⟩ | ⟨_,f1⟩
  ·rcases get q' s e2 with ⟨a2,b2⟩ | ⟨_,f2⟩
   ·rw[a1,a2]
   ·rw[b1]at f2;exact absurd f2 (hna q' h2)
  ·rcases get q' s e2 with ⟨a2,b2⟩ | ⟨_,f2⟩
   ·rw[b2]at f1;exact absurd f1 (hna q h1)
   ·exact v.inj q q' s h1 h2 f1 f2
 ·rcases get q s e with ⟨rfl,rfl⟩ | ⟨_,e⟩
  ·exact .inl rfl
  ·exact .inr ⟨q,hq,e⟩
 ·rw[zT];exact e
  intro z;subst z;rw[hF]at e;cases e
theorem Kw{F F1:FL}{a p s:Nat}(v:Val ab N F T0)(hT:∀ q∈T0,q∈T)(ha:a<N)(hna:∀ p,p∉T0->fat F p≠some a)(hp:p∈up ab a)(hpT:p∉T)(hF:fat F p=some s)
  (h1:zcB ab N F (T++ [p]) s F1):zcB ab N F T0 a (F1.set p (some a)):=by
 have hpl:p<F1.length:=by rw[h1.val.len];exact hab a p hp
 have hp0:p∉T0:=fun h=>hpT (hT p h)
 have mem:∀ q,q∉T++ [p]->q∉T/\q≠p:=fun q h=>⟨fun z=>h (xq _ z),fun z=>h (by simp[z])⟩
 have mem':∀ q,q∉T->q≠p->q∉T++ [p]:=fun q h h' z=>by
  rcases xM.mp z with z | z
  ·exact h z
  ·exact h' (by simpa using z)
 have get:∀ q x,fat (F1.set p (some a)) q=some x->(q=p/\x=a)∨(q≠p/\fat F1 q=some x):=fun q s e=>by
  by_cases hq:q=p
  ·subst hq;rw[qQ hpl]at e;cases e;exact .inl ⟨rfl,rfl⟩
  ·rw[zT (Ne.symm hq)]at e;exact .inr ⟨hq,e⟩
 have noa:∀ q,q∉T0->q≠p->fat F1 q≠some a:=fun q hq hqp e=>by
  by_cases hqT:q∈T
  ·rw[h1.keep q (xq _ hqT)]at e;exact hna q hq e
  ·rcases h1.vals q a (mem' q hqT hqp) e with e' | ⟨z,hz,e'⟩
   ·rw[<- e']at hF;exact hna p hp0 hF
   ·exact hna z (fun w=>(mem z hz).1 (hT z w)) e'
 refine⟨⟨by rw[uh];exact h1.val.len,fun q x e=>?_,fun q q' x g1 g2 e1 e2=>?_⟩,fun q hq=>?_,fun q x hq e=>?_,⟨p,hp0,qQ hpl⟩,fun q x hq e=>?_⟩
 ·rcases get q x e with ⟨rfl,rfl⟩ | ⟨_,e⟩
  ·exact⟨ha,hp⟩
  ·exact h1.val.edge q x e
 ·rcases get q x e1 with ⟨a1,b1⟩ | ⟨n1,f1⟩
  ·rcases get q' x e2 with ⟨a2,b2⟩ | ⟨n2,f2⟩
   ·rw[a1,a2]
   ·rw[b1]at f2;exact absurd f2 (noa q' g2 n2)
  ·rcases get q' x e2 with ⟨a2,b2⟩ | ⟨n2,f2⟩
   ·rw[b2]at f1;exact absurd f1 (noa q g1 n1)
   ·have cross:∀ q q',q∉T0->q≠p->q'≠p->q∈T->q'∉T->fat F1 q=some x->fat F1 q'=some x->False:=fun q q' g1 n1 n2 t1 t2 e1 e2=>by
     rw[h1.keep q (xq _ t1)]at e1
     rcases h1.vals q' x (mem' q' t2 n2) e2 with rfl | ⟨z,hz,e'⟩
     ·exact n1 (v.inj q p x g1 hp0 e1 hF)
     ·have:=v.inj q z x g1 (fun w=>(mem z hz).1 (hT z w)) e1 e'
      subst this
      exact (mem q hz).1 t1
    by_cases t1:q∈T
    ·by_cases t2:q'∈T
     ·rw[h1.keep q (xq _ t1)]at f1
      rw[h1.keep q' (xq _ t2)]at f2
      exact v.inj q q' x g1 g2 f1 f2
     ·exact (cross q q' g1 n1 n2 t1 t2 f1 f2).elim
    ·by_cases t2:q'∈T
     ·exact (cross q' q g2 n2 n1 t2 t1 f2 f1).elim
     ·exact h1.val.inj q q' x (mem' q t1 n1) (mem' q' t2 n2) f1 f2
 ·have hqp:p≠q:=fun e=>hp0 (e ▸ hq)
  rw[zT hqp,h1.keep q (xq _ (hT q hq))]
 ·rcases get q x e with ⟨rfl,rfl⟩ | ⟨n1,e⟩
  ·exact .inl rfl
  ·by_cases t1:q∈T
   ·rw[h1.keep q (xq _ t1)]at e
    exact .inr ⟨q,hq,e⟩
   ·rcases h1.vals q x (mem' q t1 n1) e with rfl | ⟨z,hz,e'⟩
    ·exact .inr ⟨p,hp0,hF⟩
    ·exact .inr ⟨z,fun w=>(mem z hz).1 (hT z w),e'⟩
 ·by_cases hqp:q=p
  ·subst hqp
   rw[hF]at e;cases e
   obtain⟨z,hz,e'⟩:=h1.has
   exact⟨z,fun w=>(mem z hz).1 (hT z w),by rw[zT (Ne.symm (mem z hz).2)];exact e'⟩
  ·by_cases t1:q∈T
   ·exact⟨q,hq,by rw[zT (Ne.symm hqp),h1.keep q (xq _ t1)];exact e⟩
   ·obtain⟨z,hz,e'⟩:=h1.old q x (mem' q t1 hqp) e
    exact⟨z,fun w=>(mem z hz).1 (hT z w),by rw[zT (Ne.symm (mem z hz).2)];exact e'⟩
noncomputable abbrev zhd(ab:List (List Nat))(N n:Nat)(rec:Nat->FL->List Nat->RT):Prop:=∀ (a:Nat) (F:FL) (T:List Nat),Val ab N F T->TOk N T->N<n+T.length->a<N->(∀ p,p∉T->fat F p≠some a)->Spec ab N F T a (up ab a) (rec a F T)
theorem Q6{n:Nat}(hrec:zhd ab N n rec){a:Nat}(v:Val ab N F T0)(ha:a<N)(hna:∀ p,p∉T0->fat F p≠some a) :
  ∀ (ps T:List Nat),(∀ p∈ps,p∈up ab a)->TOk N T->N<n+1+T.length->(∀ q∈T0,q∈T)->(∀ p∈T,p∉T0->∃ s,fat F p=some s/\∀ q∈up ab s,q∈T) ->
   Spec ab N F T0 a ps (zS rec a ps F T)/\∀ q∈T,q∈(zS rec a ps F T).2.2
 |[],T,hps,tk,hl,hT,hd=>⟨⟨tk,hT,fun _=>rfl,(fun _ p h=>nomatch h),fun _=>hd,(fun h=>nomatch h)⟩,fun q h=>h⟩
 |p::ps,T,hps,tk,hl,hT,hd=>by
  have hp:p∈up ab a:=hps p (by simp)
  have hps':∀ p∈ps,p∈up ab a:=fun q h=>hps q (xi _ h)
  rw[zS]
  by_cases hc:p∈T
  ·rw[if_pos (by simpa using hc)]
   obtain⟨ih,ih2⟩:=Q6 hrec v ha hna ps T hps' tk hl hT hd
   refine⟨⟨ih.tok,ih.sub,ih.same,fun h q hq=>?_,ih.dead,ih.succ⟩,ih2⟩
   rcases xt.mp hq with rfl | hq
   ·exact ih2 q hc
   ·exact ih.all h q hq
  ·rw[if_neg (by simpa using hc)]
   have tk':=tk.snoc hc (hab a p hp)
   cases hF:fat F p with
   |none=>
    refine⟨⟨tk',fun q hq=>xq _ (hT q hq),(fun h=>nomatch h),(fun h=>nomatch h),(fun h=>nomatch h),fun _=>?_⟩,fun q h=>xq _ h⟩
    exact Kv hab v ha hna hp (fun h=>hc (hT p h)) hF
   |some s=>
    have hs:=(v.edge p s hF).1
    have v':Val ab N F (T++ [p]):=⟨v.len,v.edge,fun q q' x h1 h2=>v.inj q q' x (fun z=>h1 (xq _ (hT q z))) (fun z=>h2 (xq _ (hT q' z)))⟩
    have h1:=hrec s F (T++ [p]) v' tk' (by simp;omega) hs (fun q hq e=>by
     have hq':q∉T:=fun z=>hq (xq _ z)
     have:=v.inj q p s (fun z=>hq' (hT q z)) (fun z=>hc (hT p z)) e hF
     subst this
     exact hq (by simp))
    show Spec ab N F T0 a (p::ps) (match rec s F (T++ [p]) with
     | (true,F',T')=>(true,F'.set p (some a),T')
     | (false,F',T')=>zS rec a ps F' T')/\∀ q∈T,q∈(match rec s F (T++ [p]) with
     | (true,F',T')=>(true,F'.set p (some a),T')
     | (false,F',T')=>zS rec a ps F' T').2.2
    generalize rec s F (T++ [p])=r at h1
    obtain⟨b,F',T'⟩:=r
    cases b with
    |true=>
     have sc:=Kw hab v hT ha hna hp hc hF (h1.succ rfl)
     exact⟨⟨h1.tok,fun q hq=>h1.sub q (xq _ (hT q hq)),(fun h=>nomatch h),(fun h=>nomatch h),(fun h=>nomatch h),fun _=>sc⟩,fun q hq=>h1.sub q (xq _ hq)⟩
    |false=>
     have e1:F'=F:=h1.same rfl
     subst e1
     have hsub:∀ q∈T,q∈T':=fun q hq=>h1.sub q (xq _ hq)
     have hpT':p∈T':=h1.sub p (by simp)
     have hlen:T.length+1<=T'.length:=by
      have:=js tk'.nd h1.sub
      simpa using this
     obtain⟨ih,ih2⟩:=Q6 hrec v ha hna ps T' hps' h1.tok (by omega) (fun q hq=>hsub q (hT q hq)) (fun q hq hq0=>by
      by_cases hqT:q∈T
      ·obtain⟨x,ex,hx⟩:=hd q hqT hq0
       exact⟨x,ex,fun z hz=>hsub z (hx z hz)⟩
      ·by_cases hqp:q=p
       ·subst hqp
        exact⟨s,hF,fun z hz=>h1.all rfl z hz⟩
       ·refine h1.dead rfl q hq fun z=>?_
        rcases xM.mp z with z | z
        ·exact hqT z
        ·exact hqp (by simpa using z))
     refine⟨⟨ih.tok,ih.sub,ih.same,fun h q hq=>?_,ih.dead,ih.succ⟩,fun q hq=>ih2 q (hsub q hq)⟩
     rcases xt.mp hq with rfl | hq
     ·exact ih2 q hpT'
     ·exact ih.all h q hq
theorem Ze:∀ n,zhd ab N n (zt ab n)
 |0,a,F,T,v,tk,hl,ha,hna=>by have:=vy tk.nd tk.lt;omega
 |n+1,a,F,T,v,tk,hl,ha,hna=>(Q6 hab (Ze n) v ha hna (up ab a) T (fun _ h=>h) tk hl (fun _ h=>h) (fun p h h'=>absurd h h')).1
end
noncomputable def K0(ab:List (List Nat))(F:FL)(Z:Nat->Prop):Prop:=∀ p,Z p->∃ s,fat F p=some s/\∀ q∈up ab s,Z q
section
variable {ab:List (List Nat)}
theorem Q5 (hrec:∀ a F T,(rec a F T).1=false->(rec a F T).2.1=F)(a:Nat):∀ ps F T,(zS rec a ps F T).1=false->(zS rec a ps F T).2.1=F
 |[],F,T,h=>rfl
 |p::ps,F,T,h=>by
  rw[zS]at h |-
  split at h
  ·rw[if_pos (by assumption)];exact Q5 hrec a ps F T h
  ·rw[if_neg (by assumption)]
   cases hF:fat F p with
   |none=>rw[hF]at h;cases h
   |some s=>
    rw[hF]at h
    simp only at h |-
    have h1:=hrec s F (T++ [p])
    generalize rec s F (T++ [p])=r at h h1
    obtain⟨b,F',T'⟩:=r
    cases b with
    |true=>cases h
    |false=>
     have:F'=F:=h1 rfl
     subst this
     exact Q5 hrec a ps F' T' h
theorem Zd:∀ n a F T,(zt ab n a F T).1=false->(zt ab n a F T).2.1=F
 |0,_,_,_,_=>rfl
 |n+1,a,F,T,h=>Q5 (Zd n) a (up ab a) F T h
theorem Q3 (hZ:K0 ab F Z)(hs:∀ a F T,(rec a F T).1=false->(rec a F T).2.1=F)(hrec:∀ a T,(∀ q∈up ab a,Z q)->(rec a F T).1=false)(a:Nat):∀ ps T,(∀ q∈ps,Z q)->(zS rec a ps F T).1=false
 |[],T,_=>rfl
 |p::ps,T,hz=>by
  rw[zS]
  have hz':∀ q∈ps,Z q:=fun q h=>hz q (xi _ h)
  split
  ·exact Q3 hZ hs hrec a ps T hz'
  ·obtain⟨s,e,hq⟩:=hZ p (hz p (by simp))
   rw[e]
   simp only
   have h1:=hrec s (T++ [p]) hq
   have h2:=hs s F (T++ [p]) h1
   generalize rec s F (T++ [p])=r at h1 h2
   obtain⟨b,F',T'⟩:=r
   cases h1
   have:F'=F:=h2
   subst this
   exact Q3 hZ hs hrec a ps T' hz'
theorem Jg (hZ:K0 ab F Z):∀ n a T,(∀ q∈up ab a,Z q)->(zt ab n a F T).1=false
 |0,_,_,_=>rfl
 |n+1,a,T,h=>Q3 hZ (Zd n) (fun a T h=>Jg hZ n a T h) a (up ab a) T h
theorem Q4 (hZ:K0 ab F Z)(hs:∀ a F T,(rec a F T).1=false->(rec a F T).2.1=F)(hd:∀ a T,(∀ q∈up ab a,Z q)->(rec a F T).1=false)(hk:∀ a T,∀ p,Z p->fat (rec a F T).2.1 p=fat F p)(a:Nat):∀ ps T,∀ p,Z p->fat (zS rec a ps F T).2.1 p=fat F p
 |[],T,_,_=>rfl
 |p::ps,T,q,hq=>by
  rw[zS]
  split
  ·exact Q4 hZ hs hd hk a ps T q hq
  ·cases hF:fat F p with
   |none=>
    refine zT fun e=>?_
    subst e
    obtain⟨s,e,_⟩:=hZ p hq
    rw[hF]at e;cases e
   |some s=>
    simp only
    have h1:=hk s (T++ [p]) q hq
    have h2:=hs s F (T++ [p])
    have h3:=hd s (T++ [p])
    generalize rec s F (T++ [p])=r at h1 h2 h3
    obtain⟨b,F',T'⟩:=r
    cases b with
    |true=>
     show fat (F'.set p (some a)) q=fat F q
     rw[zT]
     ·exact h1
     ·intro e
      subst e
      obtain⟨s',e,hz⟩:=hZ p hq
      rw[hF]at e;cases e
      exact absurd (h3 hz) (by simp)
    |false=>
     have:F'=F:=h2 rfl
     subst this
     exact Q4 hZ hs hd hk a ps T' q hq
theorem Jh (hZ:K0 ab F Z):∀ n a T,∀ p,Z p->fat (zt ab n a F T).2.1 p=fat F p
 |0,_,_,_,_=>rfl
 |n+1,a,T,p,h=>Q4 hZ (Zd n) (fun a T h=>Jg hZ n a T h) (fun a T p h=>Jh hZ n a T p h) a (up ab a) T p h
end
structure Inv(ab:List (List Nat))(N k:Nat)(F:FL):Prop where
 val:Val ab N F []
 lt:∀ p s,fat F p=some s->s<k
 dead:∃ Z,K0 ab F Z/\∀ a,a<k->(∀ p,fat F p≠some a)->∀ q∈up ab a,Z q
theorem wq(N p:Nat):fat (List.replicate N none) p=none:=by
 unfold fat
 rw[xU]
 split<;>rfl
theorem zaM(ab:List (List Nat))(N:Nat):Inv ab N 0 (List.replicate N none) :=
 ⟨⟨by simp,fun p s e=>by rw[wq]at e;(cases e),fun p q s _ _ e=>by rw[wq]at e;(cases e)⟩,fun p s e=>by rw[wq]at e;(cases e),fun _=>False,fun _ h=>h.elim,fun a h=>by omega⟩
theorem zaL {N:Nat}(hab:∀ a p,p∈up ab a->p<N){k m:Nat}(hk:k<N)(hm:N<m)(h:Inv ab N k F):Inv ab N (k+1) (zt ab m k F []).2.1:=by
 have hna:∀ p,p∉ []->fat F p≠some k:=fun p _ e=>by have:=h.lt p k e;omega
 have sp:=Ze hab m k F [] h.val ⟨.nil,(fun _ h=>nomatch h)⟩ (by simpa using hm) hk hna
 obtain⟨Z,hZ,hz⟩:=h.dead
 have kp:=Jh hZ m k []
 generalize zt ab m k F []=r at sp kp
 obtain⟨b,F',T'⟩:=r
 cases b with
 |false=>
  have:F'=F:=sp.same rfl
  subst this
  refine⟨h.val,fun p s e=>uQ (h.lt p s e),fun p=>Z p∨p∈T',fun p hp=>?_,fun a ha hn q hq=>?_⟩
  ·rcases hp with hp | hp
   ·obtain⟨s,e,g⟩:=hZ p hp
    exact⟨s,e,fun q hq=>.inl (g q hq)⟩
   ·obtain⟨s,e,g⟩:=sp.dead rfl p hp (fun h=>nomatch h)
    exact⟨s,e,fun q hq=>.inr (g q hq)⟩
  ·by_cases hak:a<k
   ·exact .inl (hz a hak hn q hq)
   ·have:a=k:=by omega
    subst this
    exact .inr (sp.all rfl q hq)
 |true=>
  have sc:=sp.succ rfl
  refine⟨sc.val,fun p s e=>?_,Z,fun p hp=>?_,fun a ha hn q hq=>?_⟩
  ·rcases sc.vals p s (fun h=>nomatch h) e with rfl | ⟨q,_,e'⟩
   ·exact uI _
   ·exact uQ (h.lt q s e')
  ·obtain⟨s,e,g⟩:=hZ p hp
   exact⟨s,by rw[kp p hp];exact e,g⟩
  ·by_cases hak:a<k
   ·refine hz a hak (fun p e=>?_) q hq
    obtain⟨p',_,e'⟩:=sc.old p a (fun h=>nomatch h) e
    exact hn p' e'
   ·have:a=k:=by omega
    subst this
    obtain⟨p,_,e⟩:=sc.has
    exact absurd e (hn p)
noncomputable def j4(ab:List (List Nat))(m:Nat):Nat->FL->FL
 |0,F=>F
 |k+1,F=>(zt ab m k (j4 ab m k F) []).2.1
theorem ww {N:Nat}(hab:∀ a p,p∈up ab a->p<N){m:Nat}(hm:N<m):∀ k,k<=N->Inv ab N k (j4 ab m k (List.replicate N none))
 |0,_=>zaM ab N
 |k+1,h=>zaL hab (by omega) hm (ww hab hm k (by omega))
end Ku
namespace Wx
open PySem L2 L3
theorem zbb(cs:List Cl)(p:Nat):(qq cs p).length<=p:=by
 have:=ua (fun d=> !(zm cs d).isEmpty) (List.range p)
 rw[xS]at this;exact this
theorem zdm(cs:List Cl)(p:Nat):(if cs.isEmpty then [] else qq cs p)=qq cs p:=by
 cases cs with
 |nil=>
  have:qq [] p= []:=by
   unfold qq
   rw[List.filter_eq_nil_iff]
   intro d _
   simp[zm]
  simp[this]
 |cons c cs=>simp
theorem qM(x:PyData):(OV.d x).view=x:=rfl
theorem jO(xs:List PyData):(OV.l (xs.map .d)).view=.list xs:=by rw[OV.view,OV.views_d]
noncomputable def qF(c:Cl)(d:Nat):Bool:=decide (c.st.getD d 0<c.wi.getD d 0)
theorem zfU(cs:List Cl)(d i:Nat):lk cs d i=true↔∃ c,cs[i]?=some c/\qF c d=true:=by
 unfold lk qF
 cases cs[i]? with
 |none=>simp
 |some c=>simp
theorem qp(cs:List Cl)(d i:Nat):i∈zm cs d↔∃ c,cs[i]?=some c/\qF c d=true:=by
 unfold zm
 rw[xE,xL,zfU]
 constructor
 ·exact fun h=>h.2
 ·rintro⟨c,h1,h2⟩
  exact⟨(xb.mp h1).1,c,h1,h2⟩
theorem QT(cs:List Cl)(a b:Nat):(∀ i∈zm cs a,i∈zm cs b)↔∀ c∈cs,qF c a=true->qF c b=true:=by
 constructor
 ·intro h c hc hl
  obtain⟨i,hi⟩:=uH hc
  obtain⟨c',h1,h2⟩:=(qp cs b i).mp (h i ((qp cs a i).mpr ⟨c,hi,hl⟩))
  rw[hi]at h1;cases h1;exact h2
 ·intro h i hi
  obtain⟨c,h1,h2⟩:=(qp cs a i).mp hi
  exact (qp cs b i).mpr ⟨c,h1,h c (xJ h1) h2⟩
theorem Vz(cs:List Cl)(a b:Nat):zm cs a=zm cs b↔(∀ c∈cs,qF c a=true->qF c b=true)/\∀ c∈cs,qF c b=true->qF c a=true:=by
 rw[<- QT,<- QT]
 constructor
 ·intro h;rw[h];exact⟨fun _ h=>h,fun _ h=>h⟩
 ·rintro⟨h1,h2⟩
  unfold zm at h1 h2 |-
  refine List.filter_congr fun i hi=>?_
  rw[uj]
  exact⟨fun h=>(xE.mp (h1 i (xE.mpr ⟨hi,h⟩))).2,fun h=>(xE.mp (h2 i (xE.mpr ⟨hi,h⟩))).2⟩
theorem zex(cs:List Cl)(a:Nat):(zm cs a).any (Qy cs)=true↔∃ c∈cs,qF c a=true/\c.w=true:=by
 rw[List.any_eq_true]
 constructor
 ·rintro⟨i,hi,hw⟩
  obtain⟨c,h1,h2⟩:=(qp cs a i).mp hi
  unfold Qy at hw
  rw[h1]at hw
  exact⟨c,xJ h1,h2,hw⟩
 ·rintro⟨c,hc,h1,h2⟩
  obtain⟨i,hi⟩:=uH hc
  exact⟨i,(qp cs a i).mpr ⟨c,hi,h1⟩,by unfold Qy;rw[hi];exact h2⟩
noncomputable def Und(cs:List Cl)(a b:Nat):Prop:=a≠b/\a≠12/\(b=12->∀ c∈cs,qF c a=true->c.w=false)/\(b≠12->(∀ c∈cs,qF c a=true->qF c b=true)/\((∀ c∈cs,qF c b=true->qF c a=true)->b<a))
theorem y9(cs:List Cl)(a b:Nat):ub cs a b=true↔Und cs a b:=by
 unfold ub Und
 by_cases h0:a=b
 ·simp[h0]
 by_cases h1:a=12
 ·simp[h1]
 rw[if_neg (by simp[h0,h1])]
 by_cases h2:b=12
 ·subst h2
  rw[if_pos rfl]
  have:=zex cs a
  constructor
  ·intro h
   refine⟨h0,h1,fun _ c hc hl=>?_,fun h=>absurd rfl h⟩
   cases hw:c.w with
   |false=>rfl
   |true=>
    rw[this.mpr ⟨c,hc,hl,hw⟩]at h;cases h
  ·rintro⟨_,_,h,_⟩
   cases e:(zm cs a).any (Qy cs) with
   |false=>rfl
   |true=>
    obtain⟨c,hc,hl,hw⟩:=this.mp e
    rw[h rfl c hc hl]at hw;cases hw
 ·rw[if_neg h2]
  unfold Zw
  by_cases h3:zm cs a=zm cs b
  ·rw[if_pos h3]
   have h4:=(Vz cs a b).mp h3
   simp only[decide_eq_true_eq]
   exact⟨fun h=>⟨h0,h1,fun h=>absurd h h2,fun _=>⟨h4.1,fun _=>h⟩⟩,fun h=>(h.2.2.2 h2).2 h4.2⟩
  ·rw[if_neg h3]
   have:((zm cs a).all fun x=>(zm cs b).contains x)=true↔∀ i∈zm cs a,i∈zm cs b:=by simp[xA]
   rw[this,QT]
   exact⟨fun h=>⟨h0,h1,fun h=>absurd h h2,fun _=>⟨h,fun h'=>absurd ((Vz cs a b).mpr ⟨h,h'⟩) h3⟩⟩,fun h=>(h.2.2.2 h2).1⟩
theorem zgX(cs:List Cl)(a:Nat):ub cs a a=false:=by unfold ub;simp
theorem zcb(cs:List Cl)(a:Nat):ub cs 12 a=false:=by unfold ub;simp
theorem KG (h:Und cs a b)(h':Und cs b c):Und cs a c:=by
 obtain⟨h1,h2,h3,h4⟩:=h
 obtain⟨g1,g2,g3,g4⟩:=h'
 have hb:=h4 g2
 by_cases hc:c=12
 ·subst hc
  exact⟨h2,h2,fun _ x hx hl=>g3 rfl x hx (hb.1 x hx hl),fun h=>absurd rfl h⟩
 ·have hg:=g4 hc
  have key:(∀ x∈cs,qF x c=true->qF x a=true)->c<a:=fun h=>by
   have:=hb.2 fun x hx hl=>h x hx (hg.1 x hx hl)
   have:=hg.2 fun x hx hl=>hb.1 x hx (h x hx hl)
   omega
  refine⟨fun e=>?_,h2,fun h=>absurd h hc,fun _=>⟨fun x hx hl=>hg.1 x hx (hb.1 x hx hl),key⟩⟩
  subst e
  have:=key fun _ _ h=>h
  omega
theorem zcc(cs:List Cl)(a b c:Nat)(h:ub cs a b=true)(h':ub cs b c=true):ub cs a c=true :=
 (y9 cs a c).mpr (KG ((y9 cs a b).mp h) ((y9 cs b c).mp h'))
theorem kR(cs:List Cl)(p d:Nat):d∈qq cs p↔d<p/\∃ c∈cs,qF c d=true:=by
 unfold qq
 rw[xE,xL]
 refine and_congr_right fun _=>?_
 constructor
 ·intro h
  cases e:zm cs d with
  |nil=>rw[e]at h;cases h
  |cons i l=>
   obtain⟨c,h1,h2⟩:=(qp cs d i).mp (by rw[e];simp)
   exact⟨c,xJ h1,h2⟩
 ·rintro⟨c,hc,hl⟩
  obtain⟨i,hi⟩:=uH hc
  have:=(qp cs d i).mpr ⟨c,hi,hl⟩
  cases e:zm cs d with
  |nil=>rw[e]at this;cases this
  |cons i l=>rfl
theorem WR:∀ p,(List.range p).Pairwise (·<·):=fun p=>List.pairwise_lt_range
theorem kW(cs:List Cl)(p:Nat):(qq cs p).Pairwise (·<·):=(WR p).filter _
theorem VG {p d:Nat}(h:d∈qq cs p):d<p:=((kR cs p d).mp h).1
open Ku
noncomputable def jm:Option Nat->PyData
 |none=>.none
 |some n=>.int (n:Int)
noncomputable def flD(F:Ku.FL):List PyData:=F.map jm
noncomputable def flO(F:Ku.FL):OV:=.l (F.map fun o=>.d (jm o))
noncomputable def zZ(ab:List (List Nat)):PyData:=.list (ab.map fun r=>.list (zb r))
theorem zaA(F:Ku.FL):(flO F).view=.list (flD F):=by
 unfold flO flD
 rw[OV.view,OV.views_map,xP];rfl
theorem zdk(n:Nat)(o:Option Nat):lay n (jm o)=true:=by cases o<;>cases n<;>rfl
theorem yg(F:Ku.FL):(flD F).all (lay 20)=true:=by
 rw[xA]
 intro x hx
 obtain⟨o,_,rfl⟩:=xI.mp hx
 exact zdk _ _
theorem zhk{ab:List (List Nat)}{a:Nat}(h:a<ab.length):atI (ab.map fun r=>PyData.list (zb r)) (a:Int)=some (.list (zb (up ab a))) :=
 jd (by rw[xk,up,xg h];rfl)
theorem zac{F:Ku.FL}{p:Nat}(h:p<F.length):atI (F.map fun o=>OV.d (jm o)) (p:Int)=some (.d (jm (fat F p))) :=
 jd (by rw[xk,fat,xg h];rfl)
theorem Ys{F:Ku.FL}{p:Nat}(h:p<F.length):atI (flD F) (p:Int)=some (jm (fat F p)) :=
 jd (by rw[flD,xk,fat,xg h];rfl)
theorem YI{n p:Nat}(h:p<n):ixN n (p:Int)=some p:=by
 unfold ixN
 rw[if_pos (by omega),if_pos (by omega)];simp
theorem ZQ(T:List Nat)(p:Nat):OV.l ((T.map fun (i:Nat)=>OV.d (.int (i:Int)))++ [.d (.int (p:Int))])=zD (T++ [p]):=by simp[zD]
theorem YD(F:Ku.FL)(p a:Nat):OV.l ((F.map fun o=>OV.d (jm o)).set p (.d (.int (a:Int))))=flO (F.set p (some a)):=by
 unfold flO
 rw[List.map_set];rfl
noncomputable def jp(m N:Nat)(ab:List (List Nat))(cf:CF):Prop:=∀ (a:Nat) (F:Ku.FL) (T:List Nat),Val ab N F T->TOk N T->N<m+T.length->a<N->(∀ p,p∉T->fat F p≠some a) ->
 cf "settle" [.d (.int a),.d (zZ ab),flO F,zD T]=.ok (.d (.bool (zt ab m a F T).1)) [none,none,some (flO (zt ab m a F T).2.1),some (zD (zt ab m a F T).2.2)]
theorem VV(cf:CF){a p:Nat}{ab:List (List Nat)}{F:Ku.FL}{T:List Nat}(h:p∈T) :
  p_settle_1.ex cf [2,3] [some (.d (.int a)),some (.d (zZ ab)),some (flO F),some (zD T),some (.d (.int p))]=.ok (.next,[some (.d (.int a)),some (.d (zZ ab)),some (flO F),some (zD T),some (.d (.int p))]):=by
 have h1:=vw T p
 have h2:(∀ x∈zb T,lay 20 x=true)=True:=eq_true (xA.mp (W6 T))
 have h3:T.contains p=true:=by simpa using h
 have v:=zU T
 rw[h3]at h1
 unfold zD at v |-
 simp![p_settle_1,zA,v,h1,h2,isN,qM,zC,ixN,atI]
theorem VU(cf:CF){a p:Nat}{F:Ku.FL}{T:List Nat}(h:p∉T)(hp:p<F.length)(hT:T.length<1000)(hF:fat F p=none) :
  p_settle_1.ex cf [2,3] [some (.d (.int a)),some (.d (zZ ab)),some (flO F),some (zD T),some (.d (.int p))]=.ok (.ret (.d (.bool true)),[some (.d (.int a)),some (.d (zZ ab)),some (flO (F.set p (some a))),some (zD (T++ [p])),some (.d (.int p))]):=by
 have h1:=vw T p
 have h2:(∀ x∈zb T,lay 20 x=true)=True:=eq_true (xA.mp (W6 T))
 have h3:T.contains p=false:=by simpa using h
 have v:=zU T
 have hz:T.length<1000000:=by omega
 have ha:=zac (F:=F) hp
 have hi:=YI hp
 have hg:(F.map fun o=>OV.d (jm o))[p]?=some (.d (jm (fat F p))):=by rw[xk,fat,xg hp];rfl
 rw[hF]at ha hg
 rw[show jm none=PyData.none from rfl]at ha hg
 rw[h3]at h1
 rw[<- YD,<- ZQ]
 unfold zD at v |-
 unfold flO
 simp![p_settle_1,zA,v,h1,h2,isN,qM,hz,ha,hi,hg]
theorem VW(cf:CF){a p s:Nat}{F F':Ku.FL}{T T':List Nat}(h:p∉T)(hp:p<F.length)(hp':p<F'.length)(hT:T.length<1000)(hF:fat F p=some s)
  (hc:cf "settle" [.d (.int s),.d (zZ ab),flO F,zD (T++ [p])]=.ok (.d (.bool b)) [none,none,some (flO F'),some (zD T')]) :
  p_settle_1.ex cf [2,3] [some (.d (.int a)),some (.d (zZ ab)),some (flO F),some (zD T),some (.d (.int p))]=if b then .ok (.ret (.d (.bool true)),[some (.d (.int a)),some (.d (zZ ab)),some (flO (F'.set p (some a))),some (zD T'),some (.d (.int p))])
   else .ok (.next,[some (.d (.int a)),some (.d (zZ ab)),some (flO F'),some (zD T'),some (.d (.int p))]):=by
 have h1:=vw T p
 have h2:(∀ x∈zb T,lay 20 x=true)=True:=eq_true (xA.mp (W6 T))
 have h3:T.contains p=false:=by simpa using h
 have v:=zU T
 have hz:T.length<1000000:=by omega
 have ha:=zac (F:=F) hp
 have hi:=YI hp'
 have hg:(F'.map fun o=>OV.d (jm o))[p]?=some (.d (jm (fat F' p))):=by rw[xk,fat,xg hp'];rfl
 rw[hF]at ha
 rw[show jm (some s)=PyData.int (s:Int) from rfl]at ha
 rw[h3]at h1
 rw[<- ZQ]at hc
 rw[<- YD]
 unfold zD at v hc |-
 unfold flO at hc |-
 cases b
 ·simp![p_settle_1,zA,v,h1,h2,isN,qM,hz,ha,hc]
 ·simp![p_settle_1,zA,v,h1,h2,isN,qM,hz,ha,hi,hg,hc]
theorem Zf{m N:Nat}(hab:∀ a p,p∈up ab a->p<N)(hN:N<1000)(cf:CF)(hcf:jp m N ab cf){a:Nat}(v:Val ab N F T0)(ha:a<N)(hna:∀ p,p∉T0->fat F p≠some a) :
  ∀ (ps T:List Nat) (o4:Option OV),(∀ p∈ps,p∈up ab a)->TOk N T->N<m+1+T.length->(∀ q∈T0,q∈T) ->
   ∃ o4',z7 (.nm 4 4) (p_settle_1.ex cf [2,3]) (zb ps) [some (.d (.int a)),some (.d (zZ ab)),some (flO F),some (zD T),o4] =
    .ok (if (zS (zt ab m) a ps F T).1 then .ret (.d (.bool true)) else .next,[some (.d (.int a)),some (.d (zZ ab)),some (flO (zS (zt ab m) a ps F T).2.1),some (zD (zS (zt ab m) a ps F T).2.2),o4'])
 |[],T,o4,hps,tk,hl,hT=>⟨o4,rfl⟩
 |p::ps,T,o4,hps,tk,hl,hT=>by
  have hp:p∈up ab a:=hps p (by simp)
  have hps':∀ p∈ps,p∈up ab a:=fun q h=>hps q (xi _ h)
  have hpN:=hab a p hp
  have hpF:p<F.length:=by rw[v.len];exact hpN
  have hTl:=vy tk.nd tk.lt
  show ∃ o4',z7 (.nm 4 4) (p_settle_1.ex cf [2,3]) (.int p::zb ps) _=_
  rw[z7]
  simp only[tgF,xn,ui]
  rw[if_pos (by decide)]
  simp only[List.set_cons_succ,List.set_cons_zero]
  by_cases hc:p∈T
  ·have hw:zS (zt ab m) a (p::ps) F T=zS (zt ab m) a ps F T:=by rw[zS,if_pos (by simpa using hc)]
   rw[hw,VV cf hc]
   exact Zf hab hN cf hcf v ha hna ps T _ hps' tk hl hT
  ·cases hF:fat F p with
   |none=>
    have hw:zS (zt ab m) a (p::ps) F T=(true,F.set p (some a),T++ [p]):=by rw[zS,if_neg (by simpa using hc),hF]
    rw[hw,VU cf hc hpF (by omega) hF]
    exact⟨_,rfl⟩
   |some s=>
    have hs:=(v.edge p s hF).1
    have tk':=tk.snoc hc hpN
    have v':Val ab N F (T++ [p]):=⟨v.len,v.edge,fun q q' x h1 h2=>v.inj q q' x (fun z=>h1 (xq _ (hT q z))) (fun z=>h2 (xq _ (hT q' z)))⟩
    have hn':∀ q,q∉T++ [p]->fat F q≠some s:=fun q hq e=>by
     have hq':q∉T:=fun z=>hq (xq _ z)
     have:=v.inj q p s (fun z=>hq' (hT q z)) (fun z=>hc (hT p z)) e hF
     subst this
     exact hq (by simp)
    have h1:=Ze hab m s F (T++ [p]) v' tk' (by simp;omega) hs hn'
    have e1:=hcf s F (T++ [p]) v' tk' (by simp;omega) hs hn'
    have hw:zS (zt ab m) a (p::ps) F T=(match zt ab m s F (T++ [p]) with
     | (true,F',T')=>(true,F'.set p (some a),T')
     | (false,F',T')=>zS (zt ab m) a ps F' T'):=by rw[zS,if_neg (by simpa using hc),hF]<;>rfl
    rw[hw]
    clear hw
    generalize zt ab m s F (T++ [p])=r at h1 e1
    obtain⟨b,F',T'⟩:=r
    have hl':F'.length=N:=by
     cases b with
     |true=>exact (h1.succ rfl).val.len
     |false=>have:F'=F:=h1.same rfl;rw[this];exact v.len
    have hpF':p<F'.length:=by rw[hl'];exact hpN
    rw[VW cf hc hpF hpF' (by omega) hF e1]
    cases b with
    |true=>exact⟨_,rfl⟩
    |false=>
     have:F'=F:=h1.same rfl
     subst this
     have hsub:∀ q∈T,q∈T':=fun q hq=>h1.sub q (xq _ hq)
     have hlen:T.length+1<=T'.length:=by
      have:=js tk'.nd h1.sub
      simpa using this
     exact Zf hab hN cf hcf v ha hna ps T' _ hps' h1.tok (by omega) (fun q hq=>hsub q (hT q hq))
theorem Kk{m N:Nat}{ab:List (List Nat)}(hab:∀ a p,p∈up ab a->p<N)(hN:N<1000)(hl:ab.length=N)(cf:CF)(hcf:jp m N ab cf)(a:Nat)(F:Ku.FL)(T:List Nat)(v:Val ab N F T)(tk:TOk N T)(hm:N<m+1+T.length)(ha:a<N)(hna:∀ p,p∉T->fat F p≠some a) :
  runI 5 [false,false,true,true] [2,3] j8 cf [.d (.int a),.d (zZ ab),flO F,zD T]=.ok (.d (.bool (zt ab (m+1) a F T).1)) [none,none,some (flO (zt ab (m+1) a F T).2.1),some (zD (zt ab (m+1) a F T).2.2)]:=by
 obtain⟨o4,e⟩:=Zf hab hN cf hcf v ha hna (up ab a) T none (fun _ h=>h) tk hm (fun _ h=>h)
 have hu:=zhk (ab:=ab) (a:=a) (by omega)
 show _=RF.ok (.d (.bool (zS (zt ab m) a (up ab a) F T).1)) _
 rw[show zt ab (m+1) a F T=zS (zt ab m) a (up ab a) F T from rfl]
 unfold zZ at e |-
 generalize zS (zt ab m) a (up ab a) F T=r at e
 obtain⟨b,F',T'⟩:=r
 cases b<;>simp![j8,hu,e]
end Wx
namespace Ku
noncomputable def zI(F:FL):Nat->Nat->List Nat
 |0,_=> []
 |n+1,p=>match fat F p with
  |none=> []
  |some s=>s::zI F n s
noncomputable def Wf(F:FL):Nat->Nat->Prop
 |0,p=>fat F p=none
 |n+1,p=>match fat F p with
  |none=>True
  |some s=>Wf F n s
theorem vb(F:FL)(a:Nat):F.contains (some a)=true↔∃ p,fat F p=some a:=by
 rw[List.contains_iff_mem]
 constructor
 ·intro h
  obtain⟨p,hp⟩:=uH h
  exact⟨p,by unfold fat;rw[hp];rfl⟩
 ·rintro⟨p,h⟩
  have hl:=zfx h
  unfold fat at h
  rw[xg hl]at h
  have e:F[p]=some a:=h
  rw[<- e];exact List.getElem_mem hl
noncomputable def qW(N:Nat)(F:FL):List Nat:=(List.range N).filter fun a=> !F.contains (some a)
theorem qX(N:Nat)(F:FL)(a:Nat):a∈qW N F↔a<N/\∀ p,fat F p≠some a:=by
 unfold qW
 rw[xE,xL]
 refine and_congr_right fun _=>?_
 have:=vb F a
 constructor
 ·intro h p e
  rw[this.mpr ⟨p,e⟩]at h;cases h
 ·intro h
  cases e:F.contains (some a) with
  |false=>rfl
  |true=>
   obtain⟨p,e⟩:=this.mp e
   exact absurd e (h p)
theorem nodup_range(N:Nat):(List.range N).Nodup:=List.pairwise_lt_range.imp fun h=>xr h
section
variable {ab:List (List Nat)}{N:Nat}{F:FL}
variable (hab:∀ a p,p∈up ab a->p<N)(irr:∀ a,a∉up ab a)(tr:∀ a b c,b∈up ab a->c∈up ab b->c∈up ab a)
noncomputable def hgt(ab:List (List Nat))(N x:Nat):Nat:=((List.range N).filter fun y=>(up ab x).contains y).length
theorem zfJ(x:Nat):hgt ab N x<=N:=by
 have:=ua (fun y=>(up ab x).contains y) (List.range N)
 rwa [xS]at this
include hab irr tr in
theorem QQ{s p:Nat}(h:p∈up ab s):hgt ab N p<hgt ab N s:=by
 have hp:p∉(List.range N).filter fun y=>(up ab p).contains y:=fun z=>irr p (by simpa using (xE.mp z).2)
 have hn:(p::(List.range N).filter fun y=>(up ab p).contains y).Nodup:=xG.mpr ⟨hp,(nodup_range N).filter _⟩
 have:=js (T:=(List.range N).filter fun y=>(up ab s).contains y) hn fun x hx=>by
  rcases xt.mp hx with rfl | hx
  ·exact xE.mpr ⟨xL.mpr (hab s x h),by simpa using h⟩
  ·have hx':=xE.mp hx
   exact xE.mpr ⟨hx'.1,by have:=tr s p x h (by simpa using hx'.2);simpa using this⟩
 show _+1<=_
 simpa [hgt] using this
variable (v:Val ab N F [])
include hab irr tr v in
theorem vh:∀ n p,N<=hgt ab N p+n->Wf F n p
 |0,p,h=>by
  show fat F p=none
  cases e:fat F p with
  |none=>rfl
  |some s=>
   have:=QQ hab irr tr (v.edge p s e).2
   have:=zfJ (ab:=ab) (N:=N) s
   omega
 |n+1,p,h=>by
  show (match fat F p with
   |none=>True
   |some s=>Wf F n s)
  cases e:fat F p with
  |none=>trivial
  |some s=>
   have:=QQ hab irr tr (v.edge p s e).2
   exact vh n s (by omega)
theorem wS:∀ n p,Wf F n p->zI F (n+1) p=zI F n p
 |0,p,h=>by
  have h:fat F p=none:=h
  show (match fat F p with
   |none=> []
   |some s=>s::zI F 0 s)= []
  rw[h]
 |n+1,p,h=>by
  have h:(match fat F p with
   |none=>True
   |some s=>Wf F n s):=h
  rw[zI,zI]
  cases e:fat F p with
  |none=>rfl
  |some s=>
   rw[e]at h
   show s::zI F (n+1) s=s::zI F n s
   rw[wS n s h]
theorem VQ{x y:Nat}(e:fat F y=some x):∀ n p,y∈zI F n p->x∈zI F (n+1) p
 |0,p,h=>by cases h
 |n+1,p,h=>by
  rw[zI]at h |-
  cases e1:fat F p with
  |none=>rw[e1]at h;cases h
  |some s=>
   rw[e1]at h
   show x∈s::zI F (n+1) s
   rcases xt.mp h with rfl | h
   ·refine xi _ ?_
    rw[zI,e];exact xw
   ·exact xi _ (VQ e n s h)
theorem vK:∀ n p x,x∈zI F n p->∃ q,fat F q=some x/\(q=p∨q∈zI F n p)
 |0,p,x,h=>by cases h
 |n+1,p,x,h=>by
  rw[zI]at h |-
  cases e1:fat F p with
  |none=>rw[e1]at h;cases h
  |some s=>
   rw[e1]at h
   rcases xt.mp h with rfl | h
   ·exact⟨p,e1,.inl rfl⟩
   ·obtain⟨q,e,hq⟩:=vK n s x h
    refine⟨q,e,.inr ?_⟩
    show q∈s::zI F n s
    rcases hq with rfl | hq
    ·exact xw
    ·exact xi _ hq
include tr v in
theorem yV:∀ n p x,x∈zI F n p->p∈up ab x
 |0,p,x,h=>by cases h
 |n+1,p,x,h=>by
  rw[zI]at h
  cases e1:fat F p with
  |none=>rw[e1]at h;cases h
  |some s=>
   rw[e1]at h
   rcases xt.mp h with rfl | h
   ·exact (v.edge p x e1).2
   ·exact tr x s p (yV n s x h) (v.edge p s e1).2
include tr v in
theorem WT:∀ n p,(zI F n p).Pairwise fun x y=>x∈up ab y
 |0,p=>.nil
 |n+1,p=>by
  rw[zI]
  cases e1:fat F p with
  |none=>exact .nil
  |some s=>exact .cons (fun y hy=>yV tr v n s y hy) (WT n s)
noncomputable def Js(N:Nat)(F:FL)(f:Nat):List Nat:=f::zI F N f
include tr v in
theorem wQ(f:Nat):(Js N F f).Pairwise fun x y=>x∈up ab y:=.cons (fun y hy=>yV tr v N f y hy) (WT tr v N f)
include hab irr tr v in
theorem Kf{f x y:Nat}(hy:y∈Js N F f)(e:fat F y=some x):x∈Js N F f:=by
 have st:=wS (F:=F) N f (vh hab irr tr v N f (by omega))
 refine xi _ ?_
 rw[<- st]
 rcases xt.mp hy with rfl | hy
 ·rw[zI,e];exact xw
 ·exact VQ e N f hy
include hab irr tr v in
theorem zho:∀ (k x:Nat),hgt ab N x<=k->x<N->∃ f∈qW N F,x∈Js N F f:=by
 intro k
 induction k with
 |zero=>
  intro x hk hx
  refine⟨x,(qX N F x).mpr ⟨hx,fun p e=>?_⟩,xw⟩
  have:=QQ hab irr tr (v.edge p x e).2
  omega
 |succ k ih=>
  intro x hk hx
  by_cases h:∃ p,fat F p=some x
  ·obtain⟨p,e⟩:=h
   have hp:=v.edge p x e
   have:=QQ hab irr tr hp.2
   obtain⟨f,hf,hm⟩:=ih p (by omega) (hab x p hp.2)
   exact⟨f,hf,Kf hab irr tr v hm e⟩
  ·exact⟨x,(qX N F x).mpr ⟨hx,fun p e=>h ⟨p,e⟩⟩,xw⟩
include hab irr tr v in
theorem apart:∀ (k x f g:Nat),hgt ab N x<=k->f∈qW N F->g∈qW N F->x∈Js N F f->x∈Js N F g->f=g:=by
 have val:∀ {f x:Nat},x∈zI F N f->∃ q,fat F q=some x/\q∈Js N F f:=fun {f x} h=>by
  obtain⟨q,e,hq⟩:=vK N f x h
  refine⟨q,e,?_⟩
  rcases hq with rfl | hq
  ·exact xw
  ·exact xi _ hq
 intro k
 induction k with
 |zero=>
  intro x f g hk hf hg h1 h2
  have no:∀ {f:Nat},f∈qW N F->x∈Js N F f->x=f:=fun {f} hf h=>by
   rcases xt.mp h with e | h
   ·exact e
   ·obtain⟨q,e,_⟩:=val h
    have:=QQ hab irr tr (v.edge q x e).2
    omega
  rw[<- no hf h1,<- no hg h2]
 |succ k ih=>
  intro x f g hk hf hg h1 h2
  rcases xt.mp h1 with e1 | h1
  ·rcases xt.mp h2 with e2 | h2
   ·rw[<- e1,<- e2]
   ·obtain⟨q,e,_⟩:=val h2
    rw[e1]at e
    exact absurd e (((qX N F f).mp hf).2 q)
  ·rcases xt.mp h2 with e2 | h2
   ·obtain⟨q,e,_⟩:=val h1
    rw[e2]at e
    exact absurd e (((qX N F g).mp hg).2 q)
   ·obtain⟨q,e,hq⟩:=val h1
    obtain⟨q',e',hq'⟩:=val h2
    have:q=q':=v.inj q q' x (fun h=>nomatch h) (fun h=>nomatch h) e e'
    subst this
    have:=QQ hab irr tr (v.edge q x e).2
    exact ih q f g (by omega) hf hg hq hq'
include irr tr v in
theorem wR(f:Nat):(Js N F f).Nodup:=(wQ tr v f).imp fun {x y}(h:x∈up ab y) (e:x=y)=>irr y (by rw[e]at h;exact h)
structure HT(ab:List (List Nat))(N:Nat)(F:FL)(T:List Nat):Prop where
 tk:TOk N T
 cl:∀ p∈T,∃ s,fat F p=some s/\∀ q∈up ab s,q∈T
end
end Ku
namespace Wx
open PySem L2 L3 Ku
theorem Kg(ab:List (List Nat)):(ab.map fun r=>PyData.list (zb r)).length=ab.length:=by simp
theorem zbC(N:Nat):(List.replicate N (none:Option Nat)).map (fun o=>OV.d (jm o))=List.replicate N (OV.d .none):=by simp[jm]
theorem za6(ab:List (List Nat)):(ab.map fun r=>PyData.list (zb r)).map (fun _=>PyData.none)=List.replicate ab.length .none:=by
 induction ab with
 |nil=>rfl
 |cons a ab ih=>rw[xB,xB,ih];rfl
theorem vk{m N:Nat}{ab:List (List Nat)}(hab:∀ a p,p∈up ab a->p<N)(hN:N<1000)(hl:ab.length=N)(hm:N<m)(cf:CF)(hcf:jp m N ab cf) :
  runI 3 [false] [] jh cf [.d (zZ ab)]=.ok (flO (j4 ab m N (List.replicate N none))) [none]:=by
 have e:=qS (k:=1) (t:=.nm 0 3) (cond:=fYes) (elt:=(p_followers_1.ev cf).1) (ds:=ab.map fun r=>PyData.list (zb r)) (Γ:= [some (.d (zZ ab)),none,none]) (fun _=>true) (fun _=>.none) (by
  intro x hx
  refine⟨_,_,by simp[tgF];rfl,rfl,by simp,fun _=>⟨.dat .none,[some (.d (zZ ab)),none,none,some (.d x)],?_,rfl,by simp⟩⟩
  simp![p_followers_1,OV.view,OV.views,zC,ixN,atI])
 have em:((ab.map fun r=>PyData.list (zb r)).filter fun _=>true).map (fun _=>PyData.none)=List.replicate N .none:=by rw[QK,za6,hl]
 rw[em]at e
 have hz:ab.length<=1000000:=by omega
 have hz1: -1000000<=(ab.length:Int)/\(ab.length:Int)<=1000000:=by omega
 have hrl:=Kg ab
 obtain⟨Γ',e2,⟨o2,rfl⟩⟩:=qi (t:=.nm 2 2) (body:=p_followers_2.ex cf []) (ds:=zM N) (Γ:= [some (.d (zZ ab)),some (flO (List.replicate N none)),none])
  (fun pre Γ=>∃ o2:Option OV,Γ= [some (.d (zZ ab)),some (flO (j4 ab m pre.length (List.replicate N none))),o2]) ⟨_,rfl⟩ (by
   rintro pre x post e Γ ⟨o2,rfl⟩
   obtain⟨rfl,hlt⟩:=Zc e
   have I:=ww hab hm pre.length (by omega)
   have ec:=hcf pre.length (j4 ab m pre.length (List.replicate N none)) [] I.val ⟨.nil,(fun _ h=>nomatch h)⟩ (by simpa using hm) hlt (fun p _ h=>by have:=I.lt p _ h;omega)
   refine⟨_,[some (.d (zZ ab)),some (flO (j4 ab m (pre.length+1) (List.replicate N none))),some (.d (.int pre.length))],by simp[tgF];rfl,?_,some (.d (.int pre.length)),by simp⟩
   rw[show j4 ab m (pre.length+1) (List.replicate N none)=(zt ab m pre.length (j4 ab m pre.length (List.replicate N none)) []).2.1 from rfl]
   generalize zt ab m pre.length (j4 ab m pre.length (List.replicate N none)) []=r at ec
   obtain⟨b,F',T'⟩:=r
   have ec':cf "settle" [.d (.int pre.length),.d (zZ ab),flO (j4 ab m pre.length (List.replicate N none)),.l []]=.ok (.d (.bool b)) [none,none,some (flO F'),some (zD T')]:=ec
   unfold flO at ec' |-
   simp![p_followers_2,ec',ze5,qM])
 rw[zy]at e2
 have hfl:(OV.l (List.replicate N (OV.d .none)))=flO (List.replicate N none):=by unfold flO;rw[zbC]
 have hr:List.length (ab.map fun r=>PyData.list (zb r))=N:=by rw[hrl,hl]
 subst hl
 unfold zZ at e e2 |-
 simp only[flO,List.map_replicate]at hfl e2
 simp![jh,hz,hz1,e,hfl,e2,flO]
noncomputable def zG(D:List Nat)(ps:List Nat):List Nat:=ps.map fun p=>D.getD p 0
theorem Yr{D:List Nat}{p:Nat}(h:p<D.length):atI (zb D) (p:Int)=some (.int ((D.getD p 0:Nat):Int)) :=
 jd (by unfold zb;rw[xk,xg h,List.getD_eq_getElem?_getD,xg h];rfl)
theorem VR(cf:CF){D:List Nat}{F:Ku.FL}(hF:∀ p s,fat F p=some s->s<D.length/\s<F.length):∀ (n k p:Nat) (acc:List Nat),Wf F n p->n<k->acc.length+n<=1000 ->
  Qk (fCmp (cmpD .IsNot) (fVar 2) (fC .none)) (p_row_behind_1.ex cf []) k [some (.d (.list (zb D))),some (.d (.list (flD F))),some (.d (jm (fat F p))),some (zD acc)]
   = .ok (.next,[some (.d (.list (zb D))),some (.d (.list (flD F))),some (.d .none),some (zD (acc++zG D (zI F n p)))])
 |n,0,p,acc,he,hk,ha=>by omega
 |0,k+1,p,acc,he,hk,ha=>by
  have he:fat F p=none:=he
  rw[Qk,he]
  simp![zI,zG,jm,isN]
 |n+1,k+1,p,acc,he,hk,ha=>by
  have he:(match fat F p with
   |none=>True
   |some s=>Wf F n s):=he
  rw[Qk]
  cases e:fat F p with
  |none=>
   simp![zI,e,zG,jm,isN]
  |some s=>
   rw[e]at he
   obtain⟨h1,h2⟩:=hF p s e
   have a1:=Yr h1
   have a2:=Ys h2
   have hz:acc.length<1000000:=by omega
   have ih:=VR cf hF n k s (acc++ [D.getD s 0]) he (by omega) (by simp;omega)
   rw[<- ZQ]at ih
   have e1:zI F (n+1) p=s::zI F n s:=by rw[zI,e]
   rw[e1]
   have e2:acc++zG D (s::zI F n s)=acc++ [D.getD s 0]++zG D (zI F n s):=by simp[zG]
   rw[e2,<- ih]
   simp only[zD]
   simp![jm,isN,p_row_behind_1,a1,a2,hz]
theorem zgk(cf:CF){D:List Nat}{F:Ku.FL}(hF:∀ p s,fat F p=some s->s<D.length/\s<F.length){n p:Nat}(he:Wf F n p)(hn:n<=1000)(hp:p<F.length) :
  runI 4 [false,false,false] [] jK cf [.d (.list (zb D)),.d (.list (flD F)),.d (.int p)]=.ok (zD (zG D (zI F n p))) [none,none,none]:=by
 have a2:=Ys hp
 have e:yW 1000000 (fCmp (cmpD .IsNot) (fVar 2) (fC .none)) (p_row_behind_1.ex cf []) [some (.d (.list (zb D))),some (.d (.list (flD F))),some (.d (jm (fat F p))),some (.l [])]=_:=VR cf hF n 1000000 p [] he (by omega) (by simpa using hn)
 rw[uJ]at e
 simp only[zD]at e |-
 simp![jK,a2]
 rw[e]
 simp[outs]
structure Dys(pots:Nat)(D:List Nat):Prop where
 inc:D.Pairwise (·<·)
 lt:∀ d∈D,d<pots
theorem Dys.nodup {D:List Nat}(h:Dys pots D):D.Nodup:=h.inc.imp fun h=>xr h
theorem Dys.len{pots:Nat}{D:List Nat}(h:Dys pots D):D.length<=pots:=vy h.nodup h.lt
theorem wm(cs:List Cl)(p:Nat):Dys p (qq cs p):=⟨kW cs p,fun _ h=>VG h⟩
theorem Ko{D:List Nat}(h:D.Pairwise (·<=·)):Ji (D.map fun (i:Nat)=>(i:Int))=D.map fun (i:Nat)=>(i:Int):=by
 refine (VY (List.Perm.refl _) ?_).symm
 rw[uR]
 exact h.imp fun h=>by omega
theorem Dys.le {D:List Nat}(h:Dys pots D):D.Pairwise (·<=·):=h.inc.imp fun h=>uv h
theorem yK(D:List Nat):(D.map fun (i:Nat)=>(i:Int)).map PyData.int=zb D:=by rw[xP];rfl
noncomputable def zF(cs:List Cl)(d:Nat):PyData:=.tuple [.int (d:Int),.list (zb (zm cs d))]
theorem zam (cf:CF) (hl:Zj "lacking" cf){pots:Nat}(hp:pots<=12){cs:List Cl}(hb:Bolt pots cs){D:List Nat}(hD:Dys pots D):runI 2 [false,false] [] jL cf [.d (zc cs),.d (.list (zb D))]=.ok (.l ((D.map (zF cs)).map .d)) [none,none]:=by
 have hn:=hD.len
 have e:=qS (k:=1) (t:=.nm 0 2) (cond:=fYes) (elt:=(p_with_cells_1.ev cf).1) (ds:=zb D) (Γ:= [some (.d (zc cs)),some (.d (.list (zb D)))]) (fun _=>true) (fun x=>match x with | .int i=>zF cs i.toNat | _=>.none) (by
  intro x hx
  obtain⟨i,hi,rfl⟩:=xI.mp hx
  have el:=hl pots cs hb i (hD.lt i hi)
  have v:=zU (zm cs i)
  refine⟨_,_,by simp[tgF];rfl,rfl,by simp,fun _=>⟨.dat (zF cs i),[some (.d (zc cs)),some (.d (.list (zb D))),some (.d (.int i))],?_,rfl,by simp⟩⟩
  simp only[zD]at el v
  simp![p_with_cells_1,el,v,zF])
 have em:((zb D).filter fun _=>true).map (fun x=>match x with | .int i=>zF cs i.toNat | _=>.none)=D.map (zF cs):=by
  rw[QK];unfold zb;rw[xP];rfl
 rw[em]at e
 have hi:=Jb D
 have hs:=Ko hD.le
 have hs2:=yK D
 have h64:D.length<64:=by omega
 have hz:D.length<=1000000:=by omega
 simp![jL,zay,hi,h64,hs,hs2,qB,hz]
 rw[e]
 simp[outs]
noncomputable def ZB(cs:List Cl)(D:List Nat)(d:Nat):List Nat:=((List.range D.length).filter fun j=>Zw d (D.getD j 0) (zm cs d) (zm cs (D.getD j 0)))++(if (zm cs d).any (Qy cs) then [] else [D.length])
noncomputable def abv(cs:List Cl)(D:List Nat):List (List Nat):=D.map (ZB cs D)++ [[]]
theorem yz {D:List Nat}{pre post:List PyData}(e:qe (D.map (zF cs))=pre++x::post):pre.length<D.length/\x=.tuple [.int pre.length,zF cs (D.getD pre.length 0)]:=by
 obtain⟨y,hy,rfl⟩:=Jw e
 rw[xk]at hy
 cases hc:D[pre.length]? with
 |none=>rw[hc]at hy;cases hy
 |some d=>
  rw[hc]at hy
  have:y=zF cs d:=by simpa using hy.symm
  subst this
  refine⟨(xb.mp hc).1,?_⟩
  rw[List.getD_eq_getElem?_getD,hc];rfl
theorem VM(cf:CF)(hlo:Ju cf){cs:List Cl}(hcl:cs.length<=60){D:List Nat}{o0 o1 o3 o5:Option OV} :
  Zz 2 (.tp (.cons (.nm 0 6) (.cons (.nm 1 7) .nil))) (p_places_above_1.ev cf) (p_places_above_2.ev cf).1 (qe (D.map (zF cs))) [] [o0,o1,some (.d (.list (D.map (zF cs)))),o3,some (.d (zF cs d)),o5]
   = .ok (zb ((List.range D.length).filter fun j=>Zw d (D.getD j 0) (zm cs d) (zm cs (D.getD j 0))),[o0,o1,some (.d (.list (D.map (zF cs)))),o3,some (.d (zF cs d)),o5]):=by
 obtain⟨ys,Γ',e,rfl,rfl⟩:=qu (k:=2) (t:=.tp (.cons (.nm 0 6) (.cons (.nm 1 7) .nil))) (cond:=p_places_above_1.ev cf) (elt:=(p_places_above_2.ev cf).1) (ds:=qe (D.map (zF cs))) (Γ:= [o0,o1,some (.d (.list (D.map (zF cs)))),o3,some (.d (zF cs d)),o5])
  (fun pre ys Γ=>ys=zb ((List.range pre.length).filter fun j=>Zw d (D.getD j 0) (zm cs d) (zm cs (D.getD j 0)))/\Γ= [o0,o1,some (.d (.list (D.map (zF cs)))),o3,some (.d (zF cs d)),o5]) ⟨rfl,rfl⟩ (by
   rintro pre x post e ys Γ ⟨rfl,rfl⟩
   obtain⟨hlt,rfl⟩:=yz e
   generalize hj:D.getD pre.length 0=dj
   have ec:=hlo d dj (zm cs d) (zm cs dj) (xH (VA cs d) hcl) (xH (VA cs dj) hcl)
   refine⟨_,Zw d dj (zm cs d) (zm cs dj),[o0,o1,some (.d (.list (D.map (zF cs)))),o3,some (.d (zF cs d)),o5,some (.d (.int pre.length)),some (.d (zF cs dj))],by simp[tgF,tgFs];rfl,?_,fun h=>⟨.dat (.int pre.length),[o0,o1,some (.d (.list (D.map (zF cs)))),o3,some (.d (zF cs d)),o5,some (.d (.int pre.length)),some (.d (zF cs dj))],.int pre.length,by simp![p_places_above_2],rfl,?_,by simp⟩,fun h=>⟨?_,by simp⟩⟩
   ·have ec':cf "is_lower" [.d (zF cs d),.d (zF cs dj)]=.ok (.d (.bool (Zw d dj (zm cs d) (zm cs dj)))) [none,none]:=ec
    simp![p_places_above_1,ec',qM]
   ·simp[xZ,xW,hj,h,zb,-List.getD_eq_getElem?_getD]
   ·simp[xZ,xW,hj,h,zb,-List.getD_eq_getElem?_getD])
 rw[qc,xo]at e
 exact e
theorem zad(cs:List Cl)(d:Nat):atI [PyData.int (d:Int),PyData.list (zb (zm cs d))] 0=some (PyData.int (d:Int)):=rfl
theorem yQ(cf:CF)(hlo:Ju cf)(hw:K7 cf){pots:Nat}(hp:pots<=12){cs:List Cl}(hb:Bolt pots cs)(hcl:cs.length<=60){D:List Nat}(hD:Dys pots D)(hd:d∈D){told:List PyData}(hz:told.length<1000) :
  p_places_above_3.ex cf [] [some (.d (zc cs)),some (.d (.list (zb D))),some (.d (.list (D.map (zF cs)))),some (.l (told.map .d)),some (.d (zF cs d)),o5]
   = .ok (.next,[some (.d (zc cs)),some (.d (.list (zb D))),some (.d (.list (D.map (zF cs)))),some (.l ((told++ [PyData.list (zb (ZB cs D d))]).map .d)),some (.d (zF cs d)),some (.d (.list (zb (ZB cs D d))))]):=by
 have hn:=hD.len
 have e:=VM cf hlo hcl (D:=D) (d:=d) (o0:=some (.d (zc cs))) (o1:=some (.d (.list (zb D)))) (o3:=some (.l (told.map .d))) (o5:=o5)
 have e1:=hw pots cs hb d (hD.lt d hd)
 have hv:=zU ((zm cs d).filter (Qy cs))
 have hf:=yB (zm cs d) (Qy cs)
 have hz1:D.length<=1000000:=by omega
 have hz2:told.length<1000000:=by omega
 have hz4:((List.range D.length).filter fun j=>Zw d (D.getD j 0) (zm cs d) (zm cs (D.getD j 0))).length<1000000:=by
  have:=ua (fun j=>Zw d (D.getD j 0) (zm cs d) (zm cs (D.getD j 0))) (List.range D.length)
  rw[xS]at this;omega
 have a0:=zad cs d
 simp only[zD]at e1 hv
 unfold ZB
 generalize hR:((List.range D.length).filter fun j=>Zw d (D.getD j 0) (zm cs d) (zm cs (D.getD j 0)))=rw0 at *
 have hz5:(zb rw0).length<1000000:=by rw[qB];exact hz4
 cases hwt:(zm cs d).any (Qy cs) with
 |true=>
  rw[hwt]at hf
  have hvw:(OV.l ((zb rw0).map .d)).view=.list (zb rw0):=jO _
  simp only[zF]at e |-
  simp![p_places_above_3,hz1,hz2,qc,e,a0,e1,hv,hf,hvw]
 |false=>
  rw[hwt]at hf
  have hvw:(OV.l ((zb rw0).map .d++ [.d (.int (D.length:Int))])).view=.list (zb (rw0++ [D.length])):=by
   have:=jO (zb (rw0++ [D.length]))
   simpa [zb] using this
  simp only[zF]at e |-
  simp![p_places_above_3,hz1,hz2,hz5,qc,e,a0,e1,hv,hf,hvw]
theorem Ka (cf:CF) (hc:∀ (pots:Nat) (cs:List Cl) (D:List Nat),pots<=12->Bolt pots cs->Dys pots D->cf "with_cells" [.d (zc cs),.d (.list (zb D))]=.ok (.l ((D.map (zF cs)).map .d)) [none,none])
  (hlo:Ju cf) (hw:K7 cf) {pots:Nat} (hp:pots<=12) {cs:List Cl} (hb:Bolt pots cs) (hcl:cs.length<=60) {D:List Nat} (hD:Dys pots D) :
  runI 6 [false,false] [] q8 cf [.d (zc cs),.d (.list (zb D))]=.ok (.l ((abv cs D).map fun r=>.d (.list (zb r)))) [none,none]:=by
 have hn:=hD.len
 have e1:=hc pots cs D hp hb hD
 have v1:=jO (D.map (zF cs))
 obtain⟨Γ',e2,⟨o4,o5,rfl⟩⟩:=qi (t:=.nm 4 4) (body:=p_places_above_3.ex cf []) (ds:=D.map (zF cs)) (Γ:= [some (.d (zc cs)),some (.d (.list (zb D))),some (.d (.list (D.map (zF cs)))),some (.l []),none,none])
  (fun pre Γ=>∃ o4 o5:Option OV,Γ= [some (.d (zc cs)),some (.d (.list (zb D))),some (.d (.list (D.map (zF cs)))),some (.l (((D.take pre.length).map fun d=>PyData.list (zb (ZB cs D d))).map .d)),o4,o5]) ⟨_,_,rfl⟩ (by
   rintro pre x post e Γ ⟨o4,o5,rfl⟩
   have hlt:=Zq e
   rw[xo]at hlt
   have hx:x=zF cs D[pre.length]:=by
    have:(D.map (zF cs))[pre.length]?=some x:=by rw[e];simp
    rw[xk,xg hlt]at this
    simpa using this.symm
   subst hx
   have er:=yQ cf hlo hw hp hb hcl hD (List.getElem_mem hlt) (told:=(D.take pre.length).map fun d=>PyData.list (zb (ZB cs D d))) (by simp;omega) (o5:=o5)
   refine⟨_,_,by simp[tgF],er,some (.d (zF cs D[pre.length])),some (.d (.list (zb (ZB cs D D[pre.length])))),?_⟩
   simp only[xC,xn,ui,uo,List.take_add_one,xg hlt,uL,Option.toList_some,xB,List.map_nil])
 rw[xo,uT]at e2
 have hz1:D.length<=1000000:=by omega
 have hz2:D.length+1<=1000000:=by omega
 have hlv:=za1 (D.map fun d=>PyData.list (zb (ZB cs D d)))
 simp only[xP]at e1 e2 hlv v1
 simp![q8,e1,v1,e2,hlv,zaw,hz2]
 simp[abv,zb,outs]
noncomputable def num(D:List Nat)(i:Nat):Nat:=(D++ [12]).getD i 0
theorem QU{D:List Nat}{i:Nat}(h:i<D.length):num D i=D.getD i 0:=by
 unfold num
 rw[List.getD_eq_getElem?_getD,xc h,List.getD_eq_getElem?_getD]
theorem VI(D:List Nat):num D D.length=12:=by
 unfold num
 rw[List.getD_eq_getElem?_getD,xf (xh _)];simp
theorem Dys.getD{pots:Nat}{D:List Nat}(h:Dys pots D){i:Nat}(hi:i<D.length):D.getD i 0<pots:=by
 refine h.lt _ ?_
 rw[List.getD_eq_getElem?_getD,xg hi]
 exact List.getElem_mem hi
section
variable {pots:Nat}(hp:pots<=12){D:List Nat}(hD:Dys pots D)(cs:List Cl)
theorem Yo:(abv cs D).length=D.length+1:=by simp[abv]
include hp hD in
theorem za4{i j:Nat}(hi:i<D.length)(hj:j<D.length):Zw (D.getD i 0) (D.getD j 0) (zm cs (D.getD i 0)) (zm cs (D.getD j 0))=ub cs (D.getD i 0) (D.getD j 0):=by
 have h1:=hD.getD hi
 have h2:=hD.getD hj
 generalize D.getD i 0=a at *
 generalize D.getD j 0=b at *
 unfold ub
 by_cases e:a=b
 ·subst e;simp[Zw]
 ·rw[if_neg (by omega),if_neg (by omega)]
include hp hD in
theorem ZU(i j:Nat):j∈up (abv cs D) i↔i<=D.length/\j<=D.length/\ub cs (num D i) (num D j)=true:=by
 unfold up abv
 by_cases hi:i<D.length
 ·rw[xc (by simpa using hi),xk,xg hi]
  show j∈ZB cs D D[i]↔_
  have hd:D[i]=D.getD i 0:=by rw[List.getD_eq_getElem?_getD,xg hi];rfl
  rw[hd,QU hi]
  unfold ZB
  have hlt:=hD.getD hi
  rw[xM,xE,xL]
  constructor
  ·rintro (⟨h1,h2⟩ | h)
   ·rw[za4 hp hD cs hi h1]at h2
    exact⟨by omega,by omega,by rw[QU h1];exact h2⟩
   ·split at h
    ·cases h
    ·rename_i hw
     have:j=D.length:=by simpa using h
     subst this
     refine⟨by omega,xh _,?_⟩
     rw[VI]
     unfold ub
     rw[if_neg (by omega),if_pos rfl]
     simpa using hw
  ·rintro⟨_,h2,h3⟩
   by_cases hj:j<D.length
   ·rw[QU hj]at h3
    exact .inl ⟨hj,by rw[za4 hp hD cs hi hj];exact h3⟩
   ·have:j=D.length:=by omega
    subst this
    rw[VI]at h3
    unfold ub at h3
    rw[if_neg (by omega),if_pos rfl]at h3
    right
    rw[if_neg (by simpa using h3)]
    simp
 ·rw[xf (by simpa using Nat.le_of_not_lt hi)]
  constructor
  ·intro h
   by_cases he:i=D.length
   ·subst he;simp at h
   ·rw[xy (by simp;omega)]at h;cases h
  ·rintro⟨h1,h2,h3⟩
   have:i=D.length:=by omega
   subst this
   rw[VI,zcb]at h3;cases h3
include hp hD in
theorem v6:∀ a p,p∈up (abv cs D) a->p<D.length+1:=fun a p h=>by
 have:=((ZU hp hD cs a p).mp h).2.1;omega
include hp hD in
theorem K8:∀ a,a∉up (abv cs D) a:=fun a h=>by
 have:=((ZU hp hD cs a a).mp h).2.2
 rw[zgX]at this;cases this
include hp hD in
theorem K9:∀ a b c,b∈up (abv cs D) a->c∈up (abv cs D) b->c∈up (abv cs D) a:=fun a b c h1 h2=>by
 have g1:=(ZU hp hD cs a b).mp h1
 have g2:=(ZU hp hD cs b c).mp h2
 exact (ZU hp hD cs a c).mpr ⟨g1.1,g2.2.1,zcc cs _ _ _ g1.2.2 g2.2.2⟩
noncomputable def FF(cs:List Cl)(D:List Nat):Ku.FL:=j4 (abv cs D) 14 (D.length+1) (List.replicate (D.length+1) none)
include hp hD in
theorem wv:Ku.Inv (abv cs D) (D.length+1) (D.length+1) (FF cs D):=ww (v6 hp hD cs) (by have:=hD.len;omega) _ (xh _)
end
noncomputable def vZ (cf:CF):Prop:=∀ (pots:Nat) (cs:List Cl) (D:List Nat),pots<=12->Bolt pots cs->cs.length<=60->Dys pots D->cf "places_above" [.d (zc cs),.d (.list (zb D))]=.ok (.l ((abv cs D).map fun r=>.d (.list (zb r)))) [none,none]
noncomputable def K3 (cf:CF):Prop:=∀ (pots:Nat) (cs:List Cl) (D:List Nat),pots<=12->Dys pots D->cf "followers" [.d (zZ (abv cs D))]=.ok (flO (FF cs D)) [none]
theorem zc5{pots:Nat}(hp:pots<=12){D:List Nat}(hD:Dys pots D)(cs:List Cl)(cf:CF)(hs:∀ (N:Nat) (ab:List (List Nat)),(∀ a p,p∈up ab a->p<N)->N<1000->ab.length=N->jp 14 N ab cf):runI 3 [false] [] jh cf [.d (zZ (abv cs D))]=.ok (flO (FF cs D)) [none]:=by
 have hn:=hD.len
 exact vk (v6 hp hD cs) (by omega) (Yo cs) (by omega) cf (hs _ _ (v6 hp hD cs) (by omega) (Yo cs))
theorem Kh(ab:List (List Nat)):(OV.l (ab.map fun r=>OV.d (.list (zb r)))).view=zZ ab:=by
 unfold zZ
 rw[OV.view,OV.views_map,xP];rfl
noncomputable def vY (cf:CF):Prop:=∀ (pots:Nat) (cs:List Cl),pots<=1000->Bolt pots cs->cf "needed" [.d (zc cs)]=.ok (zD (qq cs pots)) [none]
noncomputable def K1 (cf:CF):Prop:=∀ b,zH b->∀ loose:Int,0<=loose->loose<=1000->∃ (pots:Nat) (cs:List Cl) (b':OV),pots<=12/\cs.length<=40/\Bolt pots cs/\zH b'/\cf "_law_draw" [b,.d (.int loose)]=.ok (.d (.tuple [.int pots,zc cs])) [some b',none]
theorem zc1(cf:CF)(hs:Ym cf)(hbo:Yf cf)(hb:zH b){loose:Int}(h0:0<=loose)(h1:loose<=1000) :
  ∃ (pots:Nat) (cs:List Cl) (b':OV),pots<=12/\cs.length<=40/\Bolt pots cs/\zH b'/\runI 4 [true,false] [0] ZJ cf [b,.d (.int loose)]=.ok (.d (.tuple [.int pots,zc cs])) [some b',none]:=by
 obtain⟨p,n,b1,hp0,hp1,hn0,hn1,hb1,e1⟩:=hs b hb
 obtain⟨pots,rfl⟩:∃ k:Nat,p=k:=⟨p.toNat,by omega⟩
 obtain⟨size,rfl⟩:∃ k:Nat,n=k:=⟨n.toNat,by omega⟩
 obtain⟨cs,b2,hcl,hck,hb2,e2⟩:=hbo b1 hb1 pots size loose (by omega) (by omega) h0 h1
 refine⟨pots,cs,b2,by omega,by omega,⟨by omega,hck⟩,hb2,?_⟩
 have hvc:=Zi cs
 simp![ZJ,e1,e2,hvc,qM]
noncomputable def zcz (cf:CF):Prop:=∀ (pots:Nat) (cs:List Cl) (D:List Nat),pots<=12->Bolt pots cs->Dys pots D->cf "with_cells" [.d (zc cs),.d (.list (zb D))]=.ok (.l ((D.map (zF cs)).map .d)) [none,none]
noncomputable def Wp(cf:CF):Prop:=∀ (N:Nat) (ab:List (List Nat)),(∀ a p,p∈up ab a->p<N)->N<1000->ab.length=N->jp 14 N ab cf
theorem wV (defs:List DefI) (h:∀ k,zi defs (k+1) "settle" =runI 5 [false,false,true,true] [2,3] j8 (zi defs k)){N:Nat}{ab:List (List Nat)}(hab:∀ a p,p∈up ab a->p<N) (hN:N<1000) (hl:ab.length=N) (k:Nat):∀ m,jp m N ab (zi defs (k+m))
 |0=>fun a F T _ tk hm _ _=>by have:=vy tk.nd tk.lt;omega
 |m+1=>fun a F T v tk hm ha hna=>by
  have:=Kk hab hN hl (zi defs (k+m)) (wV defs h hab hN hl k m) a F T v tk hm ha hna
  rw[<- this,<- h (k+m)];rfl
theorem zdV (defs:List DefI) (h:∀ k,zi defs (k+1) "settle" =runI 5 [false,false,true,true] [2,3] j8 (zi defs k)) (k:Nat):Wp (zi defs (k+14)):=fun N ab hab hN hl=>wV defs h hab hN hl k 14
theorem zhD(F:Ku.FL)(a:Nat):inD (.int (a:Int)) (flD F)=F.contains (some a):=by
 unfold inD flD
 rw[List.any_map,uj,List.any_eq_true,List.contains_iff_mem]
 constructor
 ·rintro⟨o,ho,e⟩
  cases o with
  |none=>simp[jm,PyData.eqv]at e
  |some b=>
   have e2:((b:Int)==(a:Int))=true:=e
   have e3:(b:Int)=(a:Int):=by simpa using e2
   have:b=a:=by omega
   exact this ▸ ho
 ·intro h
  refine⟨some a,h,?_⟩
  show ((a:Int)==(a:Int))=true
  simp
section
variable {pots:Nat}(hp:pots<=12){D:List Nat}(hD:Dys pots D)(cs:List Cl)
include hp hD in
theorem YC:∀ p s,fat (FF cs D) p=some s->s<D.length/\s<(FF cs D).length:=fun p s e=>by
 have I:=wv hp hD cs
 have h1:=I.val.edge p s e
 have h2:=(ZU hp hD cs s p).mp h1.2
 have hs:s≠D.length:=fun z=>by
  subst z
  rw[VI,zcb]at h2
  cases h2.2.2
 have h3:=I.val.len
 omega
include hp hD in
theorem YB(p:Nat):Wf (FF cs D) (D.length+1) p:=vh (v6 hp hD cs) (K8 hp hD cs) (K9 hp hD cs) (wv hp hD cs).val _ p (by omega)
end
noncomputable def Wj(cs:List Cl)(D:List Nat):List (List Nat):=zG D (zI (FF cs D) (D.length+1) D.length)::((List.range D.length).filter fun a=> !(FF cs D).contains (some a)).map fun a=>D.getD a 0::zG D (zI (FF cs D) (D.length+1) a)
noncomputable def K5 (cf:CF):Prop:=∀ (D:List Nat) (F:Ku.FL) (n p:Nat),(∀ p s,fat F p=some s->s<D.length/\s<F.length)->Wf F n p->n<=1000->p<F.length->cf "row_behind" [.d (.list (zb D)),.d (.list (flD F)),.d (.int p)]=.ok (zD (zG D (zI F n p))) [none,none,none]
theorem VP(F:Ku.FL):∀ n p,(zI F n p).length<=n
 |0,_=>xh _
 |n+1,p=>by
  rw[zI]
  cases fat F p with
  |none=>simp
  |some s=>simp;exact VP F n s
theorem vQ(cf:CF)(hn:vY cf)(hpl:vZ cf)(hf:K3 cf)(hr:K5 cf){pots:Nat}(hp:pots<=12){cs:List Cl}(hb:Bolt pots cs)(hcl:cs.length<=60) :
  runI 4 [false] [] j9 cf [.d (zc cs)]=.ok (.l ((Wj cs (qq cs pots)).map fun r=>.d (.list (zb r)))) [none]:=by
 have hD:=wm cs pots
 have hln:=hD.len
 have e1:=hn pots cs (by omega) hb
 generalize qq cs pots=D at hD hln e1 |-
 have e2:=hpl pots cs D hp hb hcl hD
 have e3:=hf pots cs D hp hD
 have v1:=zU D
 have v2:=Kh (abv cs D)
 have v3:=zaA (FF cs D)
 have I:=wv hp hD cs
 have hFl:=I.val.len
 have e4:=hr D (FF cs D) (D.length+1) D.length (YC hp hD cs) (YB hp hD cs D.length) (by omega) (by omega)
 have v4:=zU (zG D (zI (FF cs D) (D.length+1) D.length))
 have hz:D.length<=1000000:=by omega
 have hz1: -1000000<=(D.length:Int)/\(D.length:Int)<=1000000:=by omega
 have e:=qS (k:=1) (t:=.nm 0 4) (cond:=p_stretches_1.ev cf) (elt:=(p_stretches_2.ev cf).1) (ds:=zM D.length) (Γ:= [some (.d (zc cs)),some (.d (.list (zb D))),some (.d (.list (flD (FF cs D)))),some (.d (.list (zb (zG D (zI (FF cs D) (D.length+1) D.length)))))])
  (fun x=>match x with | .int i=> !(FF cs D).contains (some i.toNat) | _=>false) (fun x=>match x with | .int i=>.list (zb (D.getD i.toNat 0::zG D (zI (FF cs D) (D.length+1) i.toNat))) | _=>.none) (by
   intro x hx
   obtain⟨a,ha,rfl⟩:∃ a,a<D.length/\x=.int (a:Nat):=by
    obtain⟨i,hi,rfl⟩:=xI.mp hx
    exact⟨i,by simpa using hi,rfl⟩
   have h1:=zhD (FF cs D) a
   have h2:(∀ x∈flD (FF cs D),lay 20 x=true)=True:=eq_true (xA.mp (yg (FF cs D)))
   have e5:=hr D (FF cs D) (D.length+1) a (YC hp hD cs) (YB hp hD cs a) (by omega) (by omega)
   have v5:=zU (zG D (zI (FF cs D) (D.length+1) a))
   have a1:=Yr ha
   have hl5:1+(zb (zG D (zI (FF cs D) (D.length+1) a))).length<=1000000:=by
    rw[qB]
    have:=VP (FF cs D) (D.length+1) a
    simp[zG];omega
   have ht:((a:Int)).toNat=a:=by simp
   simp only[ht]
   simp only[zD]at e5 v5
   refine⟨[some (.d (zc cs)),some (.d (.list (zb D))),some (.d (.list (flD (FF cs D)))),some (.d (.list (zb (zG D (zI (FF cs D) (D.length+1) D.length))))),some (.d (.int a))],[some (.d (zc cs)),some (.d (.list (zb D))),some (.d (.list (flD (FF cs D)))),some (.d (.list (zb (zG D (zI (FF cs D) (D.length+1) D.length))))),some (.d (.int a))],rfl,?_,by simp,fun _=>⟨.dat (.list (zb (D.getD a 0::zG D (zI (FF cs D) (D.length+1) a)))),[some (.d (zc cs)),some (.d (.list (zb D))),some (.d (.list (flD (FF cs D)))),some (.d (.list (zb (zG D (zI (FF cs D) (D.length+1) D.length))))),some (.d (.int a))],?_,rfl,by simp⟩⟩
   ·simp![p_stretches_1,zA,h1,h2]
   ·generalize zG D (zI (FF cs D) (D.length+1) a)=W at *
    simp![p_stretches_2,a1,e5,v5,zaw,hl5]
    simp[zb])
 have em:((zM D.length).filter (fun x=>match x with | .int i=> !(FF cs D).contains (some i.toNat) | _=>false)).map (fun x=>match x with | .int i=>PyData.list (zb (D.getD i.toNat 0::zG D (zI (FF cs D) (D.length+1) i.toNat))) | _=>.none)=(((List.range D.length).filter fun a=> !(FF cs D).contains (some a)).map fun a=>D.getD a 0::zG D (zI (FF cs D) (D.length+1) a)).map fun r=>.list (zb r):=by
  unfold zM
  rw[List.filter_map,xP,xP];rfl
 rw[em]at e
 have hzl:((((List.range D.length).filter fun a=> !(FF cs D).contains (some a)).map fun a=>D.getD a 0::zG D (zI (FF cs D) (D.length+1) a)).map fun r=>PyData.list (zb r)).length<=100:=by
  rw[xo,xo]
  have:=ua (fun a=> !(FF cs D).contains (some a)) (List.range D.length)
  rw[xS]at this;omega
 simp only[zD]at e1 v1 e4 v4
 simp only[flO]at e3 v3
 unfold Wj
 generalize hS:((((List.range D.length).filter fun a=> !(FF cs D).contains (some a)).map fun a=>D.getD a 0::zG D (zI (FF cs D) (D.length+1) a)))=SL at *
 generalize zG D (zI (FF cs D) (D.length+1) D.length)=W at *
 have hz3:1+SL.length<=1000000:=by simp at hzl;omega
 simp![j9,e1,v1,e2,v2,e3,v3,qB,e4,v4,hz,hz1,zy,zaw]
 rw[e]
 simp![hz3]
noncomputable def zeG (cf:CF):Prop:=∀ (pots:Nat) (cs:List Cl),pots<=12->Bolt pots cs->cs.length<=60->cf "stretches" [.d (zc cs)]=.ok (.l ((Wj cs (qq cs pots)).map fun r=>.d (.list (zb r)))) [none]
noncomputable def Chn(cs:List Cl)(rw1:List Nat):Prop:=rw1.Pairwise fun x y=>ub cs y x=true
section
variable {pots:Nat}(hp:pots<=12){D:List Nat}(hD:Dys pots D)(cs:List Cl)
include hp hD in
theorem vP{l:List Nat}(hl:∀ x∈l,x<=D.length)(h:l.Pairwise fun x y=>x∈up (abv cs D) y):Chn cs (l.map (num D)) :=
 uR.mpr (h.imp fun {x y} hxy=>((ZU hp hD cs y x).mp hxy).2.2)
theorem wj{l:List Nat}(hl:∀ x∈l,x<D.length):zG D l=l.map (num D):=by
 unfold zG
 exact List.map_congr_left fun x hx=>(QU (hl x hx)).symm
include hp hD in
theorem qT{n p x:Nat}(hx:x∈zI (FF cs D) n p):x<D.length:=by
 obtain⟨q,e,_⟩:=vK n p x hx
 exact (YC hp hD cs q x e).1
noncomputable def zee(cs:List Cl)(D:List Nat):List (List Nat):=zI (FF cs D) (D.length+1) D.length::((List.range D.length).filter fun a=> !(FF cs D).contains (some a)).map fun a=>Js (D.length+1) (FF cs D) a
include hp hD in
theorem zef:∀ l∈zee cs D,∀ x∈l,x<D.length:=fun l hl x hx=>by
 rcases xt.mp hl with rfl | hl
 ·exact qT hp hD cs hx
 ·obtain⟨a,ha,rfl⟩:=xI.mp hl
  have ha':=xL.mp (xE.mp ha).1
  rcases xt.mp hx with rfl | hx
  ·exact ha'
  ·exact qT hp hD cs hx
include hp hD in
theorem zgR:Wj cs D=(zee cs D).map fun l=>l.map (num D):=by
 unfold Wj zee
 rw[xB,xP,wj fun x hx=>qT hp hD cs hx]
 congr 1
 refine List.map_congr_left fun a ha=>?_
 have ha':=xL.mp (xE.mp ha).1
 show _=(a::zI (FF cs D) (D.length+1) a).map (num D)
 rw[xB,QU ha',wj fun x hx=>qT hp hD cs hx]
include hp hD in
theorem YN:D.length∈qW (D.length+1) (FF cs D):=(qX _ _ _).mpr ⟨by omega,fun p e=>by
 have:=(YC hp hD cs p D.length e).1;omega⟩
include hp hD in
theorem Qh:qW (D.length+1) (FF cs D)=((List.range D.length).filter fun a=> !(FF cs D).contains (some a))++ [D.length]:=by
 have h:=YN hp hD cs
 unfold qW at h |-
 rw[xZ,xW]
 congr 1
 have:=(xE.mp h).2
 rw[uy,if_pos this];rfl
include hp hD in
/-- all dyes,each once -/
theorem Kt:(zee cs D).flatten.Perm (List.range D.length):=by
 have v:=(wv hp hD cs).val
 have hab:=v6 hp hD cs
 have irr:=K8 hp hD cs
 have tr:=K9 hp hD cs
 have hn:=YN hp hD cs
 have hfs:∀ a∈(List.range D.length).filter fun a=> !(FF cs D).contains (some a),a∈qW (D.length+1) (FF cs D):=fun a ha=>by
  rw[Qh hp hD cs];exact xq _ ha
 refine (List.perm_ext_iff_of_nodup ?_ (nodup_range _)).mpr fun x=>?_
 ·refine List.pairwise_flatten.mpr ⟨fun l hl=>?_,?_⟩
  ·rcases xt.mp hl with rfl | hl
   ·exact (xG.mp (wR irr tr v D.length)).2
   ·obtain⟨a,_,rfl⟩:=xI.mp hl
    exact wR irr tr v a
  ·refine .cons (fun l hl x hx y hy e=>?_) ?_
   ·obtain⟨a,ha,rfl⟩:=xI.mp hl
    subst e
    have:=apart hab irr tr v _ x D.length a (xh _) hn (hfs a ha) (xi _ hx) hy
    have:=xL.mp (xE.mp ha).1
    omega
   ·refine uR.mpr (List.Pairwise.imp_of_mem (fun {a b} ha hb hne x hx y hy e=>?_) ((nodup_range D.length).filter _))
    subst e
    exact hne (apart hab irr tr v _ x a b (xh _) (hfs a ha) (hfs b hb) hx hy)
 ·rw[List.mem_flatten,xL]
  constructor
  ·rintro⟨l,hl,hx⟩
   exact zef hp hD cs l hl x hx
  ·intro hx
   obtain⟨f,hf,hm⟩:=zho hab irr tr v _ x (xh _) (by omega)
   rw[Qh hp hD cs]at hf
   rcases xM.mp hf with hf | hf
   ·exact⟨_,xi _ (xI.mpr ⟨f,hf,rfl⟩),hm⟩
   ·have:f=D.length:=by simpa using hf
    subst this
    rcases xt.mp hm with e | hm
    ·omega
    ·exact⟨_,xw,hm⟩
include hp hD in
theorem Ks:(Wj cs D).flatten.Perm D:=by
 rw[zgR hp hD cs,<- List.map_flatten]
 refine ((Kt hp hD cs).map (num D)).trans ?_
 have:(List.range D.length).map (num D)=D:=by
  apply ue
  intro i
  rw[xk]
  by_cases hi:i<D.length
  ·rw[ux hi]
   show some (num D i)=_
   rw[QU hi,List.getD_eq_getElem?_getD,xg hi];rfl
  ·rw[xy (by simpa using hi),xy (by omega)];rfl
 rw[this]
include hp hD in
theorem zb4:∃ P rest,Wj cs D=P::rest/\Chn cs (12::P)/\∀ l∈rest,l≠ []:=by
 have v:=(wv hp hD cs).val
 have tr:=K9 hp hD cs
 refine⟨_,_,rfl,?_,fun l hl=>?_⟩
 ·have h1:=vP hp hD cs (l:=Js (D.length+1) (FF cs D) D.length) (fun x hx=>by
   rcases xt.mp hx with rfl | hx
   ·exact xh _
   ·have:=qT hp hD cs hx;omega) (wQ tr v D.length)
  unfold Js at h1
  rw[xB,VI]at h1
  rw[wj fun x hx=>qT hp hD cs hx]
  exact h1
 ·obtain⟨a,_,rfl⟩:=xI.mp hl
  exact fun h=>nomatch h
end
theorem zih(x:PyData):(OV.d x).view=x:=rfl
noncomputable def zbc:Exc:=⟨"NoCell",.none⟩
theorem zfE(cf:CF){cs:List Cl}(hl:cs.length<=1000)(a:Int):runI 2 [false,false] [] qZ cf [.d (zc cs),.d (.int a)]=.ok (.d (.bool (decide (0<=a/\a<cs.length)))) [none,none]:=by
 have hxl:(cs.map Cl.D).length=cs.length:=by simp
 unfold zc
 generalize cs.map Cl.D=X at *
 by_cases h1:0<=a
 ·by_cases h2:a<cs.length
  ·have h3:a<(X.length:Int):=by omega
   simp![qZ,hxl,h1,h2]
  ·simp![qZ,hxl,h1,h2]
 ·simp![qZ,hxl,h1]
noncomputable def zeE (cf:CF):Prop:=∀ (cs:List Cl) (a:Int),cs.length<=1000->cf "has_cell" [.d (zc cs),.d (.int a)]=.ok (.d (.bool (decide (0<=a/\a<cs.length)))) [none,none]
noncomputable def ze0:Exc:=⟨"Twice",.none⟩
noncomputable def Qn(n:Nat)(i:Int):Bool:=decide (0<=i/\i<(n:Int))
noncomputable def zc2(xs:List Int):Bool:=decide ((Tab.dedup xs).length<xs.length)
noncomputable def Wl(xs:List Int)(i:Nat)(c:Cl):Cl:=⟨c.st,c.w||xs.contains (i:Int),c.wi⟩
noncomputable def Wm(xs:List Int)(cs:List Cl)(k:Nat):List Cl:=(List.range k).filterMap fun i=>(cs[i]?).map (Wl xs i)
noncomputable def vU(xs:List Int)(cs:List Cl):List Cl:=Wm xs cs cs.length
theorem W3(xs:List Int){k:Nat}(h:cs[k]?=some c):Wm xs cs (k+1)=Wm xs cs k++ [Wl xs k c]:=by
 unfold Wm
 rw[xZ,List.filterMap_append]
 congr 1
 rw[xD,h];rfl
theorem zcv(xs:List Int)(cs:List Cl)(k:Nat):(Wm xs cs k).length<=k:=by
 have:=List.length_filterMap_le (fun i=>(cs[i]?).map (Wl xs i)) (List.range k)
 rw[xS]at this;exact this
theorem zde(xs:List Int)(i:Int):inD (.int i) (xs.map .int)=xs.contains i:=by
 unfold inD
 rw[List.any_map]
 induction xs with
 |nil=>rfl
 |cons x xs ih=>
  rw[ug,ih,ut]
  congr 1
  show PyData.eqv (.int x) (.int i)=(i==x)
  rw[zX,uj,beq_iff_eq,beq_iff_eq]
  exact⟨Eq.symm,Eq.symm⟩
theorem kO(xs:List Int):(∀ x∈xs.map PyData.int,lay 20 x=true)=True:=eq_true fun x hx=>by
 obtain⟨i,_,rfl⟩:=xI.mp hx
 exact zA _ _
noncomputable def zcw(cs:List Cl)(xs:List Int):RF:=if xs.all (Qn cs.length) then (if zc2 xs then .exc ze0 [none,none] else .ok (.l ((vU xs cs).map fun c=>.d c.D)) [none,none]) else .exc zbc [none,none]
theorem zev(cf:CF){cs:List Cl}{xs:List Int} :
  Zz 4 (.tp (.cons (.nm 0 2) (.cons (.tp (.cons (.nm 1 3) (.cons (.nm 2 4) (.cons (.nm 3 5) .nil)))) .nil))) fYes (p_with_wax_2.ev cf).1 (qe (cs.map Cl.D)) [] [some (.d (zc cs)),some (.d (zj xs))]=.ok ((vU xs cs).map Cl.D,[some (.d (zc cs)),some (.d (zj xs))]):=by
 obtain⟨ys,Γ',e,hy,rfl⟩:=qu (k:=4) (t:=.tp (.cons (.nm 0 2) (.cons (.tp (.cons (.nm 1 3) (.cons (.nm 2 4) (.cons (.nm 3 5) .nil)))) .nil))) (cond:=fYes) (elt:=(p_with_wax_2.ev cf).1) (ds:=qe (cs.map Cl.D)) (Γ:= [some (.d (zc cs)),some (.d (zj xs))])
  (fun pre ys Γ=>ys=(Wm xs cs pre.length).map Cl.D/\Γ= [some (.d (zc cs)),some (.d (zj xs))]) ⟨rfl,rfl⟩ (by
   rintro pre x post e ys Γ ⟨hy,rfl⟩
   obtain⟨c,hc,rfl⟩:∃ c,cs[pre.length]?=some c/\x=.tuple [.int (pre.length:Nat),c.D]:=by
    have h1:(qe (cs.map Cl.D))[pre.length]?=some x:=by rw[e];simp
    obtain⟨y,hy1,hy2⟩:=QH h1
    rw[xk]at hy1
    cases q:cs[pre.length]? with
    |none=>rw[q]at hy1;cases hy1
    |some c=>
     rw[q]at hy1
     cases hy1
     exact⟨c,rfl,hy2⟩
   have hin:=zde xs (pre.length:Int)
   have hal:=kO xs
   have hnx:=W3 xs hc
   refine⟨[some (.d (zc cs)),some (.d (zj xs)),some (.d (.int (pre.length:Nat))),some (.d (zj c.st)),some (.d (.bool c.w)),some (.d (zj c.wi))],true,_,rfl,rfl,fun _=>⟨.dat (Wl xs pre.length c).D,[some (.d (zc cs)),some (.d (zj xs)),some (.d (.int (pre.length:Nat))),some (.d (zj c.st)),some (.d (.bool c.w)),some (.d (zj c.wi))],(Wl xs pre.length c).D,?_,rfl,?_,rfl⟩,fun h=>nomatch h⟩
   ·unfold Wl Cl.D qm
    have hxi:zj xs=.tuple (xs.map .int):=rfl
    rw[hxi]
    generalize zj c.st=A at *
    generalize zj c.wi=B at *
    generalize xs.map PyData.int=X at *
    generalize xs.contains (pre.length:Int)=ci at *
    cases hw:c.w with
    |true=>simp![p_with_wax_2]
    |false=>simp![p_with_wax_2,hin,hal,zA]
   ·rw[hy]
    simp only[xC,xn,ui,uo]
    rw[hnx,uL];rfl)
 rw[e,hy]
 have:(qe (cs.map Cl.D)).length=cs.length:=by simp[qe]
 rw[this];rfl
theorem zew(cf:CF)(hh:zeE cf){cs:List Cl}(hl:cs.length<=1000){xs:List Int}(hx:xs.length<=60) :
  runI 2 [false,false] [] ja cf [.d (zc cs),.d (zj xs)]=zcw cs xs:=by
 have e1:=qS (k:=1) (t:=.nm 0 2) (cond:=fYes) (elt:=(p_with_wax_1.ev cf).1) (ds:=xs.map .int) (Γ:= [some (.d (zc cs)),some (.d (zj xs))]) (fun _=>true) (fun x=>match x with | .int i=>.bool (Qn cs.length i) | _=>.none) (by
  intro x hx
  obtain⟨i,_,rfl⟩:=xI.mp hx
  have e:=hh cs i hl
  refine⟨[some (.d (zc cs)),some (.d (zj xs)),some (.d (.int i))],_,rfl,rfl,by simp,fun _=>⟨.dat (.bool (Qn cs.length i)),[some (.d (zc cs)),some (.d (zj xs)),some (.d (.int i))],?_,rfl,by simp⟩⟩
  unfold Qn
  generalize zc cs=B at *
  simp![p_with_wax_1,e,zih])
 rw[QK,xP]at e1
 have em:(xs.map ((fun x=>match x with | .int i=>PyData.bool (Qn cs.length i) | _=>.none)∘PyData.int))=(xs.map (Qn cs.length)).map .bool:=by rw[xP];rfl
 rw[em]at e1
 have hb1:=v9 (xs.map (Qn cs.length))
 have ha:(xs.map (Qn cs.length)).all id=xs.all (Qn cs.length):=by rw[List.all_map];rfl
 have e2:=zev cf (cs:=cs) (xs:=xs)
 have hio:=wy xs
 have hdl:=Zm xs
 have hml:(xs.map PyData.int).length=xs.length:=by simp
 have hz:xs.length<=1000000:=by omega
 have hzl:((xs.map (Qn cs.length)).map PyData.bool).length<=1000000:=by simp;omega
 have hel:(qe (cs.map Cl.D)).length<=1000000:=by simp[qe];omega
 have hcl:(cs.map Cl.D).length<=1000000:=by simp;omega
 have hvv:((vU xs cs).map Cl.D).map OV.d=(vU xs cs).map fun c=>OV.d c.D:=by rw[xP];rfl
 unfold zcw zc2
 rw[<- hvv,<- ha]
 unfold zc zj at *
 generalize (vU xs cs).map Cl.D=WW at *
 generalize (xs.map (Qn cs.length)).map PyData.bool=BB at *
 generalize xs.map (Qn cs.length)=B2 at *
 generalize xs.map PyData.int=X at *
 generalize cs.map Cl.D=Y at *
 cases hal:B2.all id with
 |false=>
  simp![ja,hml,hz,e1,hb1,hzl,hal,vL,zbc]
 |true=>
  by_cases hd:(Tab.dedup xs).length<xs.length
  ·have hne:(((Tab.dedup xs).length:Int)==(xs.length:Int))=false:=by rw[beq_eq_false_iff_ne];omega
   simp![ja,hml,hz,e1,hb1,hzl,hal,Vs,hio,hx,hd,zA,zX,hne,vL,ze0]
  ·have hne:(((Tab.dedup xs).length:Int)==(xs.length:Int))=true:=by rw[beq_iff_eq];omega
   have heq:(Tab.dedup xs).length=xs.length:=by omega
   simp![ja,hml,hz,e1,hb1,hzl,hal,Vs,hio,hx,hd,zA,zX,heq,e2,hel,hcl]
noncomputable def ye (cf:CF):Prop:=∀ (cs:List Cl) (xs:List Int),cs.length<=1000->xs.length<=60->cf "with_wax" [.d (zc cs),.d (zj xs)]=zcw cs xs
noncomputable def bw (g:Int) (f:Bool):Option Str:=if g<0 then some "spare" else if 1<g then some "deep" else if g=1/\f=false then some "spent" else none
noncomputable def bwD(g:Int)(f:Bool):PyData:=match bw g f with
 |some w=>.str w
 |none=>.none
noncomputable def zK(fr:List Bool)(c:Cl)(i n:Nat):List PyData:=(List.range n).filterMap fun d=>(bw (c.wi.getD d 0-c.st.getD d 0) (fr.getD d false)).map fun w=>.tuple [.str w,.int (i:Nat),.int (d:Nat)]
noncomputable def zf(fr:List Bool)(cs:List Cl)(n:Nat):List PyData:=(List.range n).flatMap fun i=>match cs[i]? with
 |some c=>zK fr c i c.st.length
 |none=> []
theorem jB(fr:List Bool)(c:Cl)(i n:Nat):(zK fr c i n).length<=n:=by
 have:=List.length_filterMap_le (fun d=>(bw (c.wi.getD d 0-c.st.getD d 0) (fr.getD d false)).map fun w=>PyData.tuple [.str w,.int (i:Nat),.int (d:Nat)]) (List.range n)
 rw[xS]at this;exact this
theorem Zy(fr:List Bool)(c:Cl)(i n:Nat):zK fr c i (n+1)=zK fr c i n++(match bw (c.wi.getD n 0-c.st.getD n 0) (fr.getD n false)with | some w=> [PyData.tuple [.str w,.int (i:Nat),.int (n:Nat)]] | none=> []):=by
 unfold zK
 rw[xZ,List.filterMap_append]
 congr 1
 cases e:bw (c.wi.getD n 0-c.st.getD n 0) (fr.getD n false) with
 |none=>rw[xD,e];rfl
 |some w=>rw[xD,e];rfl
theorem jl(fr:List Bool)(cs:List Cl)(n:Nat)(c:Cl)(h:cs[n]?=some c):zf fr cs (n+1)=zf fr cs n++zK fr c n c.st.length:=by
 unfold zf
 rw[xZ,List.flatMap_append]
 congr 1
 simp[h]
theorem qO{pots:Nat}(fr:List Bool)(h:∀ c∈cs,qy pots c.st c.wi):∀ n,(zf fr cs n).length<=n*pots
 |0=>by simp[zf]
 |n+1=>by
  have ih:=qO fr h n
  cases e:cs[n]? with
  |none=>
   have:zf fr cs (n+1)=zf fr cs n:=by
    unfold zf
    rw[xZ,List.flatMap_append]
    simp[e]
   rw[this,Nat.succ_mul];omega
  |some c=>
   rw[jl fr cs n c e,xC,Nat.succ_mul]
   have h1:=jB fr c n c.st.length
   have h2:=(h c (xJ e)).sl
   omega
noncomputable def KU(x:PyData):Prop:=∃ (w:Str) (i d:Int),x=.tuple [.str w,.int i,.int d]/\PyData.strOk w=true
theorem zhm (h:bw g f=some w):PyData.strOk w=true:=by
 unfold bw at h
 split at h
 ·cases h;decide +kernel
 ·split at h
  ·cases h;decide +kernel
  ·split at h
   ·cases h;decide +kernel
   ·cases h
theorem Vh{fr:List Bool}:∀ x∈zK fr c i n,KU x:=fun x hx=>by
 obtain⟨d,_,e⟩:=uM.mp hx
 cases q:bw (c.wi.getD d 0-c.st.getD d 0) (fr.getD d false) with
 |none=>rw[q]at e;cases e
 |some w=>rw[q]at e;cases e;exact⟨w,_,_,rfl,zhm q⟩
theorem Q8{fr:List Bool}:∀ x∈zf fr cs n,KU x:=fun x hx=>by
 obtain⟨i,_,e⟩:=List.mem_flatMap.mp hx
 split at e
 ·exact Vh x e
 ·cases e
theorem zaV (h:∀ x∈xs,KU x):lay 20 (.list xs)=true:=Qj fun x hx=>by
 obtain⟨w,i,d,rfl,hw⟩:=h x hx
 exact JA fun y hy=>by
  have:y=.str w∨y=.int i∨y=.int d:=by simpa using hy
  rcases this with rfl | rfl | rfl
  ·exact hw
  ·exact zA _ _
  ·exact zA _ _
theorem zey(cf:CF)(g:Int)(f:Bool):runI 2 [false,false] [] qC cf [.d (.int g),.d (.bool f)]=.ok (.d (bwD g f)) [none,none]:=by
 by_cases h1:g<0
 ·simp![qC,bwD,bw,h1,OV.view,OV.views,zC,ixN,atI]
 ·by_cases h2:1<g
  ·simp![qC,bwD,bw,h1,h2,OV.view,OV.views,zC,ixN,atI]
  ·by_cases h3:g=1
   ·cases f<;>simp![qC,bwD,bw,h3,zA,zX,OV.view,OV.views,zC,ixN,atI]
   ·simp![qC,bwD,bw,h1,h2,h3,zA,zX,OV.view,OV.views,zC,ixN,atI]
noncomputable def yf (cf:CF):Prop:=∀ (g:Int) (f:Bool),cf "bar_word" [.d (.int g),.d (.bool f)]=.ok (.d (bwD g f)) [none,none]
theorem v8{xs:List Bool}{d:Nat}(h:d<xs.length):atI (xs.map PyData.bool) (d:Int)=some (.bool (xs.getD d false)) :=
 jd (by rw[xk,xg h,List.getD_eq_getElem?_getD,xg h];rfl)
theorem zcJ(cf:CF)(hw:yf cf){rows:PyData}{fr:List Bool}{c:Cl}{i:Nat}{told:List PyData}{pots:Nat}(hc:qy pots c.st c.wi)(hf:fr.length=pots)(hp:pots<=100)(ht:told.length<=100000){o5 o7 o8:Option OV} :
  ∃ o7' o8':Option OV,z7 (.nm 7 7) (p_bars_1.ex cf []) (zM pots) [some (.d rows),some (.d (.list (fr.map .bool))),some (.l (told.map .d)),some (.d (.int i)),some (.d (zj c.st)),o5,some (.d (zj c.wi)),o7,o8]
   = .ok (.next,[some (.d rows),some (.d (.list (fr.map .bool))),some (.l ((told++zK fr c i pots).map .d)),some (.d (.int i)),some (.d (zj c.st)),o5,some (.d (zj c.wi)),o7',o8']):=by
 obtain⟨Γ',e,⟨o7',o8',rfl⟩⟩:=qi (t:=.nm 7 7) (body:=p_bars_1.ex cf []) (ds:=zM pots) (Γ:= [some (.d rows),some (.d (.list (fr.map .bool))),some (.l (told.map .d)),some (.d (.int i)),some (.d (zj c.st)),o5,some (.d (zj c.wi)),o7,o8])
  (fun pre Γ=>∃ o7 o8:Option OV,Γ= [some (.d rows),some (.d (.list (fr.map .bool))),some (.l ((told++zK fr c i pre.length).map .d)),some (.d (.int i)),some (.d (zj c.st)),o5,some (.d (zj c.wi)),o7,o8]) ⟨o7,o8,by simp[zK]⟩ (by
   rintro pre x post e Γ ⟨o7,o8,rfl⟩
   obtain⟨rfl,hlt⟩:=Zc e
   have a1:=je (xs:=c.st) (d:=pre.length) (by rw[hc.sl];exact hlt)
   have a2:=je (xs:=c.wi) (d:=pre.length) (by rw[hc.wl];exact hlt)
   have a3:=v8 (xs:=fr) (d:=pre.length) (by rw[hf];exact hlt)
   have hlen:=jB fr c i pre.length
   have hz:told.length+(zK fr c i pre.length).length<1000000:=by omega
   have hq:=hw (c.wi.getD pre.length 0-c.st.getD pre.length 0) (fr.getD pre.length false)
   simp only[xC,xn,ui,uo]
   rw[Zy]
   generalize c.wi.getD pre.length 0=z1 at *
   generalize c.st.getD pre.length 0=z2 at *
   generalize fr.getD pre.length false=z3 at *
   refine⟨_,[some (.d rows),some (.d (.list (fr.map .bool))),some (.l ((told++(zK fr c i pre.length++(match bw (z1-z2) z3 with | some w=> [PyData.tuple [.str w,.int (i:Nat),.int (pre.length:Nat)]] | none=> []))).map .d)),some (.d (.int i)),some (.d (zj c.st)),o5,some (.d (zj c.wi)),some (.d (.int pre.length)),some (.d (bwD (z1-z2) z3))],by simp[tgF];rfl,?_,_,_,rfl⟩
   unfold bwD at hq |-
   cases hbw:bw (z1-z2) z3 with
   |none=>
    rw[hbw]at hq
    simp![p_bars_1,zj,a1,a2,a3,hq,isN,OV.view,OV.views,zC]
   |some w=>
    rw[hbw]at hq
    simp![p_bars_1,zj,a1,a2,a3,hq,hz,isN,OV.view,OV.views,zC])
 rw[zy]at *
 exact⟨o7',o8',e⟩
noncomputable def zx(fr:List Bool):PyData:=.list (fr.map .bool)
theorem zcK(cf:CF)(hw:yf cf){pots:Nat}{cs:List Cl}(hl:cs.length<=100)(hk:∀ c∈cs,qy pots c.st c.wi){fr:List Bool}(hf:fr.length=pots)(hp:pots<=100) :
  runI 9 [false,false] [] yN cf [.d (zc cs),.d (zx fr)]=.ok (.l ((zf fr cs cs.length).map .d)) [none,none]:=by
 obtain⟨Γ',e,⟨o3,o4,o5,o6,o7,o8,rfl⟩⟩:=qi (t:=.tp (.cons (.nm 3 3) (.cons (.tp (.cons (.nm 4 4) (.cons (.nm 5 5) (.cons (.nm 6 6) .nil)))) .nil))) (body:=p_bars_2.ex cf []) (ds:=qe (cs.map Cl.D)) (Γ:= [some (.d (zc cs)),some (.d (zx fr)),some (.l []),none,none,none,none,none,none])
  (fun pre Γ=>∃ o3 o4 o5 o6 o7 o8:Option OV,Γ= [some (.d (zc cs)),some (.d (zx fr)),some (.l ((zf fr cs pre.length).map .d)),o3,o4,o5,o6,o7,o8]) ⟨none,none,none,none,none,none,by simp[zf]⟩ (by
   rintro pre x post e Γ ⟨o3,o4,o5,o6,o7,o8,rfl⟩
   obtain⟨y,hy,rfl⟩:=Jw e
   rw[xk]at hy
   cases hc:cs[pre.length]? with
   |none=>rw[hc]at hy;cases hy
   |some c=>
    rw[hc]at hy
    have:y=c.D:=by simpa using hy.symm
    subst this
    have ok:=hk c (xJ hc)
    have hpl:pre.length<cs.length:=(xb.mp hc).1
    have hbl:=qO fr hk pre.length
    have hbl2:(zf fr cs pre.length).length<=100000:=xH hbl (xH (Nat.mul_le_mul (by omega:pre.length<=100) hp) (by decide))
    obtain⟨o7',o8',e1⟩:=zcJ cf hw (rows:=zc cs) (i:=pre.length) (told:=zf fr cs pre.length) ok hf hp hbl2 (o5:=some (.d (.bool c.w))) (o7:=o7) (o8:=o8)
    have hz1: -1000000<=(pots:Int)/\(pots:Int)<=1000000:=by omega
    refine⟨[some (.d (zc cs)),some (.d (zx fr)),some (.l ((zf fr cs pre.length).map .d)),some (.d (.int pre.length)),some (.d (zj c.st)),some (.d (.bool c.w)),some (.d (zj c.wi)),o7,o8],_,by simp[tgF,tgFs,Cl.D,qm],?_,some (.d (.int pre.length)),some (.d (zj c.st)),some (.d (.bool c.w)),some (.d (zj c.wi)),o7',o8',rfl⟩
    simp only[xC,xn,ui,uo]
    rw[jl fr cs pre.length c hc,ok.sl]
    simp only[zx]
    simp![p_bars_2,ok.sl,hz1,OV.view,OV.views,zC,ixN,atI,zj]
    simp only[zj]at e1
    rw[e1];simp)
 rw[qc,xo]at *
 simp![yN,zc,zx,OV.view,OV.views,zC,ixN,atI]
 simp only[zc,zx]at e
 rw[e]
 simp[outs]
theorem zaZ(cf:CF){fr:List Bool}{c:Cl}{i:Nat}(hi:cs[i]?=some c){told:List PyData}{pots:Nat}(hc:qy pots c.st c.wi)(hf:fr.length=pots)(hp:pots<=100)(ht:told.length<=100000) :
  ∃ o4' o5':Option OV,z7 (.nm 4 4) (b_law_bars_1.ex cf []) (zM pots) [some (.d (zc cs)),some (.d (zx fr)),some (.l (told.map .d)),some (.d (.int i)),o4,o5]
   = .ok (.next,[some (.d (zc cs)),some (.d (zx fr)),some (.l ((told++zK fr c i pots).map .d)),some (.d (.int i)),o4',o5']):=by
 obtain⟨Γ',e,⟨o4',o5',rfl⟩⟩:=qi (t:=.nm 4 4) (body:=b_law_bars_1.ex cf []) (ds:=zM pots) (Γ:= [some (.d (zc cs)),some (.d (zx fr)),some (.l (told.map .d)),some (.d (.int i)),o4,o5])
  (fun pre Γ=>∃ o4 o5:Option OV,Γ= [some (.d (zc cs)),some (.d (zx fr)),some (.l ((told++zK fr c i pre.length).map .d)),some (.d (.int i)),o4,o5]) ⟨o4,o5,by simp[zK]⟩ (by
   rintro pre x post e Γ ⟨o4,o5,rfl⟩
   obtain⟨rfl,hlt⟩:=Zc e
   have a0:atI (cs.map Cl.D) (i:Int)=some c.D:=jd (by rw[xk,hi];rfl)
   have a1:=je (xs:=c.st) (d:=pre.length) (by rw[hc.sl];exact hlt)
   have a2:=je (xs:=c.wi) (d:=pre.length) (by rw[hc.wl];exact hlt)
   have a3:=v8 (xs:=fr) (d:=pre.length) (by rw[hf];exact hlt)
   have hlen:=jB fr c i pre.length
   have hz:told.length+(zK fr c i pre.length).length<1000000:=by omega
   simp only[xC,xn,ui,uo]
   rw[Zy]
   generalize c.wi.getD pre.length 0=z1 at *
   generalize c.st.getD pre.length 0=z2 at *
   generalize fr.getD pre.length false=z3 at *
   refine⟨_,[some (.d (zc cs)),some (.d (zx fr)),some (.l ((told++(zK fr c i pre.length++(match bw (z1-z2) z3 with | some w=> [PyData.tuple [.str w,.int (i:Nat),.int (pre.length:Nat)]] | none=> []))).map .d)),some (.d (.int i)),some (.d (.int pre.length)),some (.d (.int (z1-z2)))],by simp[tgF];rfl,?_,_,_,rfl⟩
   generalize hg:z1-z2=g
   by_cases h1:g<0
   ·have h2:¬ (2<=g):=by omega
    have h3:¬ (g=1):=by omega
    simp![b_law_bars_1,zc,zx,a0,OV.view,OV.views,zC,Wq,Yq,Cl.D,qm,zj,a1,a2,a3,hg,hz,bw,h1,h2,h3,zA,zX]
   ·by_cases h2:1<g
    ·have h2':2<=g:=by omega
     have h3:¬ (g=1):=by omega
     simp![b_law_bars_1,zc,zx,a0,OV.view,OV.views,zC,Wq,Yq,Cl.D,qm,zj,a1,a2,a3,hg,hz,bw,h1,h2,h2',h3,zA,zX]
    ·have h2':¬ (2<=g):=by omega
     by_cases h3:g=1
     ·cases z3<;>simp![b_law_bars_1,zc,zx,a0,OV.view,OV.views,zC,Wq,Yq,Cl.D,qm,zj,a1,a2,a3,hg,hz,bw,h3,zA,zX]
     ·simp![b_law_bars_1,zc,zx,a0,OV.view,OV.views,zC,Wq,Yq,Cl.D,qm,zj,a1,a2,a3,hg,hz,bw,h1,h2,h2',h3,zA,zX])
 rw[zy]at *
 exact⟨o4',o5',e⟩
theorem za0(cf:CF){pots:Nat}{cs:List Cl}(hl:cs.length<=100)(hk:∀ c∈cs,qy pots c.st c.wi){fr:List Bool}(hf:fr.length=pots)(hp:pots<=100) :
  runI 6 [false,false] [] ZH cf [.d (zc cs),.d (zx fr)]=.ok (.l ((zf fr cs cs.length).map .d)) [none,none]:=by
 obtain⟨Γ',e,⟨o3,o4,o5,rfl⟩⟩:=qi (t:=.nm 3 3) (body:=b_law_bars_2.ex cf []) (ds:=zM cs.length) (Γ:= [some (.d (zc cs)),some (.d (zx fr)),some (.l []),none,none,none])
  (fun pre Γ=>∃ o3 o4 o5:Option OV,Γ= [some (.d (zc cs)),some (.d (zx fr)),some (.l ((zf fr cs pre.length).map .d)),o3,o4,o5]) ⟨none,none,none,by simp[zf]⟩ (by
   rintro pre x post e Γ ⟨o3,o4,o5,rfl⟩
   obtain⟨rfl,hlt⟩:=Zc e
   have hc:cs[pre.length]?=some cs[pre.length]:=xg hlt
   generalize cs[pre.length]=c at hc
   have ok:=hk c (xJ hc)
   have a0:atI (cs.map Cl.D) (pre.length:Int)=some c.D:=jd (by rw[xk,hc];rfl)
   have hbl:=qO fr hk pre.length
   have hbl2:(zf fr cs pre.length).length<=100000:=xH hbl (xH (Nat.mul_le_mul (by omega:pre.length<=100) hp) (by decide))
   obtain⟨o4',o5',e1⟩:=zaZ cf hc (told:=zf fr cs pre.length) ok hf hp hbl2 (o4:=o4) (o5:=o5)
   have hz1: -1000000<=(pots:Int)/\(pots:Int)<=1000000:=by omega
   refine⟨[some (.d (zc cs)),some (.d (zx fr)),some (.l ((zf fr cs pre.length).map .d)),some (.d (.int pre.length)),o4,o5],_,by simp[tgF],?_,some (.d (.int pre.length)),o4',o5',rfl⟩
   simp only[xC,xn,ui,uo]
   rw[jl fr cs pre.length c hc,ok.sl]
   simp only[zc]at e1 |-
   simp![b_law_bars_2,ok.sl,hz1,OV.view,OV.views,zC,a0,Wq,Cl.D,qm,zj]
   rw[e1];simp)
 have hz1: -1000000<=(cs.length:Int)/\(cs.length:Int)<=1000000:=by omega
 rw[zy]at *
 simp![ZH,zc,hz1,OV.view,OV.views,zC,ixN,atI]
 simp only[zc]at e
 rw[e]
 simp[outs]
theorem zhi{α:Type}(a b c:α):atI [a,b,c] (-1)=some c:=rfl
theorem zhj{α:Type}(a b c:α):atI [a,b,c] (-2)=some b:=rfl
theorem zai(cf:CF)(hw:Yn cf)(h:∀ x∈xs,KU x):runI 3 [false,false] [] qK cf [.d (.list xs),.d (.int 3)]=.ok (.d (.bool true)) [none,none]:=by
 obtain⟨Γ',e,⟨o2,rfl⟩⟩:=qi (t:=.nm 2 2) (body:=b_law_bars_kind_1.ex cf []) (ds:=xs) (Γ:= [some (.d (.list xs)),some (.d (.int 3)),none])
  (fun pre Γ=>∃ o2:Option OV,Γ= [some (.d (.list xs)),some (.d (.int 3)),o2]) ⟨_,rfl⟩ (by
   rintro pre x post e Γ ⟨o2,rfl⟩
   obtain⟨w,i,d,rfl,_⟩:=h x (by rw[e];simp)
   refine⟨_,_,by simp[tgF];rfl,?_,some (.d (.tuple [.str w,.int i,.int d])),rfl⟩
   simp![b_law_bars_kind_1,OV.view,OV.views,zC,Wq,zhi,zhj,hw i,hw d,zA,zX])
 simp![qK,OV.view,OV.views,zC,ixN,atI]
 rw[e]
 simp[outs]
noncomputable def zeR(c:Cl):Prop:=∀ d,c.st.getD d 0<=c.wi.getD d 0/\c.wi.getD d 0<=c.st.getD d 0+1/\c.wi.getD d 0<=9
noncomputable def BoltN(pots:Nat)(cs:List Cl):Prop:=Bolt pots cs/\∀ c∈cs,zeR c
inductive Mv where
 |wax (k:List Nat)
 |dip (d:Nat)
 |boil
noncomputable def Mv.D:Mv->PyData
 |.wax k=>.tuple [.str "wax",.tuple (zb k)]
 |.dip d=>.tuple [.str "dip",.int (d:Int)]
 |.boil=>.tuple [.str "boil"]
noncomputable def qd(c:Cl):Cl:=⟨c.st,false,c.wi⟩
noncomputable def qU(d:Nat)(c:Cl):Cl:=⟨c.st,c.w|| !qF c d,c.wi⟩
noncomputable def kp(cs:List Cl)(d i:Nat):Bool:=match cs[i]? with
 |some c=> !c.w&& !qF c d
 |none=>false
noncomputable def zQ(cs:List Cl)(d:Nat):List Nat:=(List.range cs.length).filter (kp cs d)
noncomputable def iz(xs:List Nat):List Int:=xs.map fun (i:Nat)=>(i:Int)
theorem zhF(xs:List Nat):PyData.tuple (zb xs)=zj (iz xs):=by unfold zb zj iz;rw[xP];rfl
theorem zfO(xs:List Nat)(i:Nat):(iz xs).contains (i:Int)=xs.contains i:=by
 unfold iz
 induction xs with
 |nil=>rfl
 |cons a l ih=>simp only[xB,ut,ih];congr 1;rw[uj];simp;omega
theorem Y6(xs:List Int)(cs:List Cl):∀ k,k<=cs.length->∀ i,(Wm xs cs k)[i]?=if i<k then (cs[i]?).map (Wl xs i) else none
 |0,_,i=>by simp[Wm]
 |k+1,h,i=>by
  have hk:cs[k]?=some cs[k]:=xg (by omega)
  have ih:=Y6 xs cs k (by omega)
  have hl:(Wm xs cs k).length=k:=by
   have h1:=zcv xs cs k
   by_cases h0:k=0
   ·subst h0;omega
   ·rcases Nat.lt_or_ge (k-1) (Wm xs cs k).length with h | h
    ·omega
    ·have h2:=ih (k-1)
     rw[if_pos (by omega),xy h,xg (by omega)]at h2
     cases h2
  rw[W3 xs hk]
  by_cases h1:i<k
  ·rw[xc (by omega),ih i,if_pos h1,if_pos (by omega)]
  ·rw[xf (by omega),hl]
   by_cases h2:i=k
   ·subst h2;rw[if_pos (by omega),hk];simp
   ·rw[if_neg (by omega)]
    have:i-k=(i-k-1)+1:=by omega
    rw[this];rfl
theorem Y7(xs:List Int)(cs:List Cl)(i:Nat):(vU xs cs)[i]?=(cs[i]?).map (Wl xs i):=by
 unfold vU
 rw[Y6 xs cs _ (xh _) i]
 split
 ·rfl
 ·rw[xy (by omega)];rfl
theorem za7(cs:List Cl)(d i:Nat):i∈zQ cs d↔∃ c,cs[i]?=some c/\c.w=false/\qF c d=false:=by
 unfold zQ
 rw[xE,xL]
 unfold kp
 constructor
 ·rintro⟨h1,h2⟩
  rw[xg h1]at h2 |-
  simp at h2
  exact⟨_,rfl,h2.1,h2.2⟩
 ·rintro⟨c,h1,h2,h3⟩
  refine⟨?_,by rw[h1];simp[h2,h3]⟩
  rcases Nat.lt_or_ge i cs.length with h | h
  ·exact h
  ·rw[xy h]at h1;cases h1
theorem zaR(cs:List Cl)(d:Nat):(zQ cs d).Pairwise (·<·):=(WR _).filter _
theorem YK(cs:List Cl)(d:Nat):(zQ cs d).length<=cs.length:=by
 have:=ua (kp cs d) (List.range cs.length)
 rw[xS]at this;exact this
theorem V9(f:Cl->Cl)(hf:∀ c,(f c).w=c.w)(hg:∀ c d,f (qU d c)=⟨(f c).st,c.w|| !qF c d,(f c).wi⟩)(cs:List Cl)(d:Nat):vU (iz (zQ cs d)) (cs.map f)=(cs.map (qU d)).map f:=by
 apply ue
 intro i
 rw[Y7,xk,xk,xk]
 cases h:cs[i]? with
 |none=>rfl
 |some c=>
  simp only[uW,Option.some.injEq]
  rw[hg]
  unfold Wl
  rw[zfO,hf]
  have:(zQ cs d).contains i=(!c.w&& !qF c d):=by
   rw[uj,List.contains_iff_mem,za7]
   constructor
   ·rintro⟨c',h1,h2,h3⟩
    rw[h]at h1;cases h1;simp[h2,h3]
   ·intro h1;simp at h1;exact⟨c,h,h1.1,h1.2⟩
  rw[this]
  cases c.w<;>cases qF c d<;>rfl
theorem zcX(cs:List Cl)(d:Nat)(h:zQ cs d= []):cs.map (qU d)=cs:=by
 have:=V9 id (fun _=>rfl) (fun _ _=>rfl) cs d
 rw[h]at this
 simp only[List.map_id]at this
 rw[<- this]
 apply ue
 intro i
 rw[Y7]
 cases cs[i]? with
 |none=>rfl
 |some c=>simp[Wl,iz]
noncomputable def mvs:List Cl->List Nat->List Mv
 |_,[]=> []
 |cs,d::ds=>(if zQ cs d= [] then [] else [.wax (zQ cs d)])++.dip d::mvs (cs.map (qU d)) ds
theorem Bolt.mp {cs:List Cl}(h:Bolt pots cs)(f:Cl->Cl)(hf:∀ c,(f c).st=c.st/\(f c).wi=c.wi):Bolt pots (cs.map f):=by
 refine⟨by rw[xo];exact h.1,fun c hc=>?_⟩
 obtain⟨c0,h0,rfl⟩:=xI.mp hc
 rw[(hf c0).1,(hf c0).2];exact h.2 c0 h0
theorem BoltN.mp {cs:List Cl}(h:BoltN pots cs)(f:Cl->Cl)(hf:∀ c,(f c).st=c.st/\(f c).wi=c.wi):BoltN pots (cs.map f):=by
 refine⟨h.1.mp f hf,fun c hc=>?_⟩
 obtain⟨c0,h0,rfl⟩:=xI.mp hc
 unfold zeR
 rw[(hf c0).1,(hf c0).2];exact h.2 c0 h0
theorem zfp(d:Nat)(c:Cl):(qU d c).st=c.st/\(qU d c).wi=c.wi:=⟨rfl,rfl⟩
theorem zfc(c:Cl):(qd c).st=c.st/\(qd c).wi=c.wi:=⟨rfl,rfl⟩
noncomputable def zbt(cs:List Cl)(L:List (List Nat)):List Mv:=match L with
 |[]=> []
 |P::rest=>mvs cs P++rest.flatMap fun ds=>.boil::mvs (cs.map qd) ds
theorem wH:∀ {l T:List Int},l.Nodup->(∀ x∈l,x∈T)->l.length<=T.length
 |[],_,_,_=>uk _
 |a::l,T,hn,hs=>by
  rw[xG]at hn
  have ha:a∈T:=hs a (by simp)
  have:=wH (l:=l) (T:=T.erase a) hn.2 (fun x hx=>by
   have hx2:=hs x (by simp[hx])
   have hne:x≠a:=fun e=>hn.1 (e ▸ hx)
   exact (List.mem_erase_of_ne hne).mpr hx2)
  have h1:=List.length_erase_of_mem ha
  have h2:=List.length_pos_of_mem ha
  simp only[xn];omega
theorem zar{xs:List Int}(h:xs.Nodup):(Tab.dedup xs).length=xs.length :=
 Nat.le_antisymm (Zm xs) (wH h fun x hx=>(ZX xs x).mp ((Tab.any_dedup xs x).mpr hx))
theorem zaO{k:List Nat}(h:k.Pairwise (·<·)):(iz k).Nodup:=by
 unfold iz
 exact uR.mpr (h.imp fun h=>by omega)
theorem kh(cf:CF){cs:List Cl}(hl:cs.length<=1000):runI 1 [false] [] wL cf [.d (zc cs)]=.ok (.l ((cs.map qd).map fun c=>.d c.D)) [none]:=by
 obtain⟨ys,Γ',e,hy,rfl⟩:=qu (k:=3) (t:=.tp (.cons (.nm 0 1) (.cons (.nm 1 2) (.cons (.nm 2 3) .nil)))) (cond:=fYes) (elt:=(p_boiled_1.ev cf).1) (ds:=cs.map Cl.D) (Γ:= [some (.d (zc cs))])
  (fun pre ys Γ=>ys=((cs.take pre.length).map qd).map Cl.D/\Γ= [some (.d (zc cs))]) ⟨rfl,rfl⟩ (by
   rintro pre x post e ys Γ ⟨hy,rfl⟩
   have hlt:pre.length<cs.length:=by have:=congrArg List.length e;simp at this;omega
   have hxe:x=(cs[pre.length]).D:=by
    have:(cs.map Cl.D)[pre.length]?=some x:=by rw[e];simp
    rw[xk,xg hlt]at this
    simpa using this.symm
   have hnx:(cs.take (pre.length+1)).map qd=(cs.take pre.length).map qd++ [qd cs[pre.length]]:=by
    rw[List.take_add_one,xg hlt,uL];rfl
   generalize cs[pre.length]=c at *
   subst hxe
   refine⟨[some (.d (zc cs)),some (.d (zj c.st)),some (.d (.bool c.w)),some (.d (zj c.wi))],true,_,rfl,rfl,fun _=>⟨.dat (qd c).D,[some (.d (zc cs)),some (.d (zj c.st)),some (.d (.bool c.w)),some (.d (zj c.wi))],(qd c).D,?_,rfl,?_,rfl⟩,fun h=>nomatch h⟩
   ·unfold qd Cl.D qm
    generalize zj c.st=A at *
    generalize zj c.wi=B at *
    simp![p_boiled_1]
   ·rw[hy]
    simp only[xC,xn,ui,uo]
    rw[hnx,uL];rfl)
 have:(cs.take (cs.map Cl.D).length)=cs:=by rw[xo,uT]
 rw[this]at hy
 subst hy
 have hz:(cs.map Cl.D).length<=1000000:=by simp;omega
 have hvv:((cs.map qd).map Cl.D).map OV.d=(cs.map qd).map fun c=>OV.d c.D:=by rw[xP];rfl
 rw[<- hvv]
 unfold zc at *
 generalize (cs.map qd).map Cl.D=DD at *
 generalize cs.map Cl.D=X at *
 simp![wL,e,hz]
noncomputable def vV (cf:CF):Prop:=∀ cs:List Cl,cs.length<=1000->cf "boiled" [.d (zc cs)]=.ok (.l ((cs.map qd).map fun c=>.d c.D)) [none]
theorem zdj(cf:CF){pots:Nat}{cs:List Cl}(hb:Bolt pots cs){d:Nat}(hd:d<pots):runI 2 [false,false] [] jn cf [.d (zc cs),.d (.int d)]=.ok (.d (.tuple (zb (zQ cs d)))) [none,none]:=by
 obtain⟨ys,Γ',e,rfl,rfl⟩:=qu (k:=4) (t:=.tp (.cons (.nm 0 2) (.cons (.tp (.cons (.nm 1 3) (.cons (.nm 2 4) (.cons (.nm 3 5) .nil)))) .nil))) (cond:=p_to_keep_off_1.ev cf) (elt:=(p_to_keep_off_2.ev cf).1) (ds:=qe (cs.map Cl.D)) (Γ:= [some (.d (zc cs)),some (.d (.int d))])
  (fun pre ys Γ=>ys=((List.range pre.length).filter (kp cs d)).map (fun (i:Nat)=>PyData.int (i:Int))/\Γ= [some (.d (zc cs)),some (.d (.int d))]) ⟨rfl,rfl⟩ (by
   rintro pre x post e ys Γ ⟨rfl,rfl⟩
   obtain⟨y,hy,rfl⟩:=Jw e
   rw[xk]at hy
   cases hc:cs[pre.length]? with
   |none=>rw[hc]at hy;cases hy
   |some c=>
    rw[hc]at hy
    have:y=c.D:=by simpa using hy.symm
    subst this
    have ok:=hb.2 c (xJ hc)
    have a1:=je (xs:=c.st) (d:=d) (by rw[ok.sl];exact hd)
    have a2:=je (xs:=c.wi) (d:=d) (by rw[ok.wl];exact hd)
    have hlk:kp cs d pre.length=(!c.w&&decide (c.wi.getD d 0<=c.st.getD d 0)):=by
     unfold kp qF;rw[hc]
     have:(!decide (c.st.getD d 0<c.wi.getD d 0))=decide (c.wi.getD d 0<=c.st.getD d 0):=by
      rw[<- decide_not];exact decide_eq_decide.mpr Int.not_lt
     simp only[this]
    refine⟨_,kp cs d pre.length,[some (.d (zc cs)),some (.d (.int d)),some (.d (.int pre.length)),some (.d (zj c.st)),some (.d (.bool c.w)),some (.d (zj c.wi))],by simp[tgF,tgFs,Cl.D,qm];rfl,?_,fun h=>⟨.dat (.int pre.length),[some (.d (zc cs)),some (.d (.int d)),some (.d (.int pre.length)),some (.d (zj c.st)),some (.d (.bool c.w)),some (.d (zj c.wi))],.int pre.length,by simp![p_to_keep_off_2,OV.view,OV.views,zC,ixN,atI],rfl,?_,by simp⟩,fun h=>⟨?_,by simp⟩⟩
    ·rw[hlk]
     unfold zj
     generalize c.st.getD d 0=g1 at *
     generalize c.wi.getD d 0=g2 at *
     generalize c.st.map PyData.int=X1 at *
     generalize c.wi.map PyData.int=X2 at *
     cases hw:c.w with
     |true=>simp![p_to_keep_off_1,a1,a2,OV.view,OV.views,zC]
     |false=>simp![p_to_keep_off_1,a1,a2,OV.view,OV.views,zC]
    ·simp[xZ,xW,h]
    ·simp[xZ,xW,h])
 have hz:cs.length<=1000000:=by have:=hb.1;omega
 have hz2:=YK cs d
 have hz3:(zb (zQ cs d)).length<=1000000:=by rw[qB];omega
 have e2:((List.range (qe (cs.map Cl.D)).length).filter (kp cs d)).map (fun (i:Nat)=>PyData.int (i:Int))=zb (zQ cs d):=by
  rw[qc,xo];rfl
 rw[e2]at e
 have hel:(qe (cs.map Cl.D)).length<=1000000:=by rw[qc,xo];exact hz
 have hcl:(cs.map Cl.D).length<=1000000:=by simpa using hz
 unfold zc at *
 generalize zb (zQ cs d)=KK at *
 generalize cs.map Cl.D=X at *
 simp![jn,e,hz3,hel,hcl]
noncomputable def yb (cf:CF):Prop:=∀ (pots:Nat) (cs:List Cl),Bolt pots cs->∀ d:Nat,d<pots->cf "to_keep_off" [.d (zc cs),.d (.int d)]=.ok (.d (.tuple (zb (zQ cs d)))) [none,none]
theorem vB:∀ (ds:List Nat) (P:List Cl),(mvs P ds).length<=2*ds.length
 |[],_=>by simp[mvs]
 |d::ds,P=>by
  have:=vB ds (P.map (qU d))
  unfold mvs
  split<;>simp<;>omega
noncomputable def zY(ms:List Mv):List OV:=ms.map fun m=>.d m.D
theorem KP(P:List Cl)(d:Nat):zcw P (iz (zQ P d))=.ok (.l ((P.map (qU d)).map fun c=>.d c.D)) [none,none]:=by
 unfold zcw
 have h1:(iz (zQ P d)).all (Qn P.length)=true:=by
  rw[xA]
  intro x hx
  obtain⟨i,hi,rfl⟩:=xI.mp hx
  have:i<P.length:=xL.mp (xE.mp hi).1
  unfold Qn
  simp;omega
 have h2:zc2 (iz (zQ P d))=false:=by
  unfold zc2
  rw[zar (zaO (zaR P d))];simp
 have h3:=V9 id (fun _=>rfl) (fun _ _=>rfl) P d
 simp only[List.map_id]at h3
 rw[h1,h2,h3];rfl
theorem YW(cf:CF)(hk:yb cf)(hw:ye cf){pots:Nat}:∀ (ds:List Nat) (P:List Cl) (acc:List OV) (o3 o4:Option OV),Bolt pots P->P.length<=60->(∀ d∈ds,d<pots)->acc.length+2*ds.length<=1000 ->
  ∃ o0 o3' o4',z7 (.nm 3 3) (p_stretch_moves_1.ex cf []) (zb ds) [some (.d (zc P)),o1,some (.l acc),o3,o4]=.ok (.next,[o0,o1,some (.l (acc++zY (mvs P ds))),o3',o4'])
 |[],P,acc,o3,o4,_,_,_,_=>⟨some (.d (zc P)),o3,o4,by simp[zb,z7,mvs,zY]⟩
 |d::ds,P,acc,o3,o4,hb,hP,hd,hl=>by
  have hd1:=hd d (by simp)
  have e1:=hk pots P hb d hd1
  have e2:=hw P (iz (zQ P d)) (by omega) (by unfold iz;rw[xo];have:=YK P d;omega)
  rw[KP]at e2
  have v2:=Zi (P.map (qU d))
  simp only[xn]at hl
  have hb':=hb.mp (qU d) (zfp d)
  have htg:tgF (.nm 3 3) (PyData.int (d:Int)) [some (.d (zc P)),o1,some (.l acc),o3,o4]=some [some (.d (zc P)),o1,some (.l acc),some (.d (.int (d:Int))),o4]:=rfl
  have step:∃ o4',p_stretch_moves_1.ex cf [] [some (.d (zc P)),o1,some (.l acc),some (.d (.int (d:Int))),o4]=.ok (.next,[some (.d (zc (P.map (qU d)))),o1,some (.l (acc++zY ((if zQ P d= [] then [] else [.wax (zQ P d)])++ [.dip d]))),some (.d (.int (d:Int))),o4']):=by
   by_cases hkz:zQ P d= []
   ·have hc:=zcX P d hkz
    rw[hc,if_pos hkz]
    rw[hkz]at e1
    refine⟨some (.d (.tuple [])),?_⟩
    have hz:acc.length<1000000:=by omega
    generalize zc P=B at *
    simp![p_stretch_moves_1,e1,hz,qM,zb,zY,Mv.D]
   ·rw[if_neg hkz]
    refine⟨some (.d (.tuple (zb (zQ P d)))),?_⟩
    have hz:acc.length<1000000:=by omega
    have hz2:acc.length+1<1000000:=by omega
    rw[<- zhF]at e2
    have hne:(zb (zQ P d)).isEmpty=false:=by
     rw[j7]
     cases hq:zQ P d with
     |nil=>exact absurd hq hkz
     |cons a l=>rfl
    simp only[zY,xB,List.map_nil,Mv.D,List.cons_append,uJ]
    generalize zb (zQ P d)=KK at *
    generalize ((P.map (qU d)).map fun c=>OV.d c.D)=CC at *
    generalize zc P=B at *
    generalize zc (P.map (qU d))=B2 at *
    simp![p_stretch_moves_1,e1,hne,e2,v2,hz,hz2,qM]
  obtain⟨o4',es⟩:=step
  obtain⟨o0,o3'',o4'',e⟩:=YW cf hk hw (pots:=pots) (o1:=o1) ds (P.map (qU d)) (acc++zY ((if zQ P d= [] then [] else [.wax (zQ P d)])++ [.dip d])) (some (.d (.int (d:Int)))) o4' hb' (by rw[xo];exact hP) (fun e he=>hd e (by simp[he])) (by
   unfold zY
   split<;>simp<;>omega)
  refine⟨o0,o3'',o4'',?_⟩
  show z7 _ _ (PyData.int (d:Int)::zb ds) _=_
  rw[z7,htg]
  simp only[es]
  rw[e]
  have:acc++zY (mvs P (d::ds))=acc++zY ((if zQ P d= [] then [] else [.wax (zQ P d)])++ [.dip d])++zY (mvs (P.map (qU d)) ds):=by
   rw[mvs]
   unfold zY
   simp
  rw[this]
theorem Kl(cf:CF)(hk:yb cf)(hw:ye cf){pots:Nat}{P:List Cl}(hb:Bolt pots P)(hP:P.length<=60){ds:List Nat}(hd:∀ d∈ds,d<pots)(hl:ds.length<=100) :
  runI 5 [false,false] [] qL cf [.d (zc P),.d (.list (zb ds))]=.ok (.l (zY (mvs P ds))) [none,none]:=by
 obtain⟨o0,o3,o4,e⟩:=YW cf hk hw (o1:=some (.d (.list (zb ds)))) ds P [] none none hb hP hd (by simp;omega)
 have hz:=qB ds
 have hz2:ds.length<=1000000:=by omega
 rw[uJ]at e
 generalize zY (mvs P ds)=MM at *
 generalize zc P=B at *
 generalize zb ds=DD at *
 simp![qL,e,hz,hz2]
noncomputable def JF (cf:CF):Prop:=∀ (pots:Nat) (P:List Cl) (ds:List Nat),Bolt pots P->P.length<=60->(∀ d∈ds,d<pots)->ds.length<=100->cf "stretch_moves" [.d (zc P),.d (.list (zb ds))]=.ok (.l (zY (mvs P ds))) [none,none]
theorem Vt{L:List (List Nat)}{r:List Nat}(h:r∈L):r.length<=L.flatten.length:=by
 induction L with
 |nil=>cases h
 |cons a L ih=>
  rw[xY,xC]
  rcases xt.mp h with rfl | h
  ·omega
  ·have:=ih h;omega
noncomputable def ya (cf:CF):Prop:=∀ (pots:Nat) (cs:List Cl) (fr:List Bool),cs.length<=100->(∀ c∈cs,qy pots c.st c.wi)->fr.length=pots->pots<=100->cf "bars" [.d (zc cs),.d (zx fr)]=.ok (.l ((zf fr cs cs.length).map .d)) [none,none]
theorem WS(cf:CF)(hs:JF cf){pots:Nat}{P:List Cl}(hb:Bolt pots P)(hP:P.length<=60){o0 o1 o2 o3 o4:Option OV}:∀ (L:List (List Nat)) (acc:List OV) (o7:Option OV),(∀ l∈L,(∀ d∈l,d<pots)/\l.length<=100)->acc.length+2*L.flatten.length+L.length<=1000 ->
  ∃ o7',z7 (.nm 7 7) (p_plan_1.ex cf []) (L.map fun r=>.list (zb r)) [o0,o1,o2,o3,o4,some (.l acc),some (.d (zc P)),o7]=.ok (.next,[o0,o1,o2,o3,o4,some (.l (acc++zY (L.flatMap fun ds=>.boil::mvs P ds))),some (.d (zc P)),o7'])
 |[],acc,o7,_,_=>⟨o7,by simp[z7,zY]⟩
 |l::L,acc,o7,hl,hz=>by
  obtain⟨h1,h2⟩:=hl l (by simp)
  have e1:=hs pots P l hb hP h1 h2
  simp only[xY,xC,xn]at hz
  have hm:=vB l P
  have htg:tgF (.nm 7 7) (PyData.list (zb l)) [o0,o1,o2,o3,o4,some (.l acc),some (.d (zc P)),o7]=some [o0,o1,o2,o3,o4,some (.l acc),some (.d (zc P)),some (.d (.list (zb l)))]:=rfl
  have step:p_plan_1.ex cf [] [o0,o1,o2,o3,o4,some (.l acc),some (.d (zc P)),some (.d (.list (zb l)))]=.ok (.next,[o0,o1,o2,o3,o4,some (.l (acc++zY (.boil::mvs P l))),some (.d (zc P)),some (.d (.list (zb l)))]):=by
   have z1:acc.length<1000000:=by omega
   have z2:acc.length+1+(mvs P l).length<=1000000:=by omega
   have hv:(OV.l (zY (mvs P l))).view=.list ((mvs P l).map Mv.D):=by
    have:zY (mvs P l)=((mvs P l).map Mv.D).map OV.d:=by unfold zY;rw[xP];rfl
    rw[this];exact jO _
   have hmo:zY (.boil::mvs P l)=.d (.tuple [.str "boil"])::((mvs P l).map Mv.D).map OV.d:=by unfold zY;rw[xB,xP];rfl
   have hml:((mvs P l).map Mv.D).length=(mvs P l).length:=by simp
   rw[<- hml]at z2
   rw[hmo]
   generalize zY (mvs P l)=MO at *
   generalize (mvs P l).map Mv.D=MM at *
   generalize zb l=DD at *
   generalize zc P=B at *
   simp![p_plan_1,e1,hv,z1,z2,zdJ,qM]
  obtain⟨o7',e⟩:=WS cf hs hb hP (o0:=o0) (o1:=o1) (o2:=o2) (o3:=o3) (o4:=o4) L (acc++zY (.boil::mvs P l)) (some (.d (.list (zb l)))) (fun l' h'=>hl l' (by simp[h'])) (by
   unfold zY
   rw[xC,xo,xn];omega)
  refine⟨o7',?_⟩
  rw[xB,z7,htg]
  simp only[step]
  rw[e]
  have:acc++zY (List.flatMap (fun ds=>Mv.boil::mvs P ds) (l::L))=acc++zY (.boil::mvs P l)++zY (List.flatMap (fun ds=>Mv.boil::mvs P ds) L):=by
   rw[List.flatMap_cons]
   unfold zY
   simp
  rw[this]
noncomputable def WO:IB:=(.cons (.app 5 5 (.tup (.cons (.cstr "boil") .nil))) (.cons (.aug 5 5 (.call (.call "stretch_moves" 2 (.cons (.var 6 6) (.cons (.var 7 7) .nil))))) .nil))
noncomputable def Qp:IB:=(.cons (.asg 2 2 (.dat (.call (.call "bars" 2 (.cons (.var 0 0) (.cons (.var 1 1) .nil)))))) (.cons (.ite (.var 2 2) (.cons (.raiseB "Barred" "bars" 8 (.var 2 2)) .nil) .nil) (.cons (.star 3 3 4 4 (.call (.call "stretches" 1 (.cons (.var 0 0) .nil)))) (.cons (.asg 5 5 (.call "stretch_moves" 2 (.cons (.var 0 0) (.cons (.var 3 3) .nil)))) (.cons (.asg 6 6 (.dat (.call (.call "boiled" 1 (.cons (.var 0 0) .nil))))) (.cons (.loop (.nm 7 7) (.list (.var 4 4)) WO) (.cons (.ret (.move 5 5)) .nil)))))))
noncomputable def qt:IB:=(.cons (.asg 2 2 (.own (.lst .nil))) (.cons (.asg 3 3 (.dat (.cbool false))) (.cons (.tryB "plan" 2 (.cons (.var 0 0) (.cons (.var 1 1) .nil)) "Barred" "bars" 3 3 (.b true) 2 2) (.cons (.ret (.pair (.var 3 3) (.move 2 2))) .nil))))
theorem zbs(cf:CF)(hba:ya cf)(hst:zeG cf)(hs:JF cf)(hbo:vV cf){pots:Nat}(hp:pots<=12){cs:List Cl}(hb:Bolt pots cs)(hc:cs.length<=60){fr:List Bool}(hfl:fr.length=pots)(hf:zf fr cs cs.length= []) :
    runI 8 [false,false] [] Qp cf [.d (zc cs),.d (zx fr)]=.ok (.l (zY (zbt cs (Wj cs (qq cs pots))))) [none,none]:=by
  have e1:=hba pots cs fr (by omega) hb.2 hfl (by omega)
  rw[hf]at e1
  have e2:=hst pots cs hp hb hc
  obtain⟨P,rest,hS,hnow,hne⟩:=zb4 hp (wm cs pots) cs
  have hflat:=Ks hp (wm cs pots) cs
  have hlen:=hflat.length_eq
  have hnl:=zbb cs pots
  have hmem:∀ l∈Wj cs (qq cs pots),∀ d∈l,d<pots:=fun l hl d hd=>VG (hflat.mem_iff.mp (List.mem_flatten.mpr ⟨l,hl,hd⟩))
  have hll:∀ l∈Wj cs (qq cs pots),l.length<=12:=fun l hl=>by have:=Vt hl;omega
  rw[hS]at e2 hmem hll hlen |-
  have e3:=hs pots cs P hb hc (hmem P (by simp)) (by have:=hll P (by simp);omega)
  have e4:=hbo cs (by omega)
  have v4:=Zi (cs.map qd)
  have hrl:rest.length<=12:=by
    have h1:rest.length<=rest.flatten.length:=by
      clear hS hmem hll hlen e2
      induction rest with
      |nil=>simp
      |cons a l ih=>
        have ha:=hne a (by simp)
        have:=ih (fun x hx=>hne x (by simp[hx]))
        have hap:=List.length_pos_iff.mpr ha
        simp only[xn,xY,xC];omega
    simp only[xY,xC]at hlen;omega
  have hm:=vB P cs
  have hB:=hb.mp qd zfc
  simp only[xY,xC]at hlen
  obtain⟨o7,e5⟩:=WS cf hs hB (by rw[xo];exact hc) (o0:=some (.d (zc cs))) (o1:=some (.d (zx fr))) (o2:=some (.d (.list []))) (o3:=some (.d (.list (zb P)))) (o4:=some (.d (.list (rest.map fun r=>.list (zb r))))) rest (zY (mvs cs P)) none (fun l hl=>⟨hmem l (by simp[hl]),by have:=hll l (by simp[hl]);omega⟩) (by
      unfold zY
      rw[xo];omega)
  have hvs:(OV.l (((P::rest).map fun r=>OV.d (.list (zb r))))).view=.list (.list (zb P)::rest.map fun r=>.list (zb r)):=by
    have:((P::rest).map fun r=>OV.d (.list (zb r)))=(((P::rest).map fun r=>PyData.list (zb r))).map OV.d:=by rw[xP];rfl
    rw[this,jO];rfl
  have hz:(rest.map fun r=>PyData.list (zb r)).length<=1000000:=by simp;omega
  have hfin:zY (zbt cs (P::rest))=zY (mvs cs P)++zY (rest.flatMap fun ds=>.boil::mvs (cs.map qd) ds):=by
    unfold zbt zY
    rw[uL]
  rw[hfin]
  generalize zY (rest.flatMap fun ds=>.boil::mvs (cs.map qd) ds)=M2 at *
  generalize zY (mvs cs P)=M1 at *
  generalize ((cs.map qd).map fun c=>OV.d c.D)=CC at *
  generalize zc (cs.map qd)=B2 at *
  generalize ((P::rest).map fun r=>OV.d (.list (zb r)))=SS at *
  generalize (rest.map fun r=>PyData.list (zb r))=RR at *
  generalize zb P=PP at *
  generalize zc cs=B at *
  generalize zx fr=F at *
  simp only[List.map_nil]at e1
  have v0:(OV.l []).view=.list []:=rfl
  have hl1:WO=p_plan_1:=rfl
  simp![Qp,hl1,e1,v0,e2,hvs,e3,e4,v4,e5,hz,zbF,qM]
theorem zbr(cf:CF)(hba:ya cf){pots:Nat}(hp:pots<=12){cs:List Cl}(hb:Bolt pots cs)(hc:cs.length<=60){fr:List Bool}(hfl:fr.length=pots)(hf:zf fr cs cs.length≠ []) :
  runI 8 [false,false] [] Qp cf [.d (zc cs),.d (zx fr)]=.xp "Barred" "bars" (.l ((zf fr cs cs.length).map .d)) [none,none]:=by
 have e1:=hba pots cs fr (by omega) hb.2 hfl (by omega)
 have v:=jO (zf fr cs cs.length)
 generalize zf fr cs cs.length=X at *
 generalize zc cs=B at *
 generalize zx fr=F at *
 have ht:truD (.list X)=some true:=by
  cases X with
  |nil=>exact absurd rfl hf
  |cons a b=>rfl
 simp![Qp,e1,v,hf,vM]
noncomputable def zeF (cf:CF):Prop:=∀ (pots:Nat) (cs:List Cl) (fr:List Bool),pots<=12->Bolt pots cs->cs.length<=60->fr.length=pots->(zf fr cs cs.length= []->∃ r,cf "plan" [.d (zc cs),.d (zx fr)]=.ok r [none,none])/\(zf fr cs cs.length≠ []->cf "plan" [.d (zc cs),.d (zx fr)]=.xp "Barred" "bars" (.l ((zf fr cs cs.length).map .d)) [none,none])
theorem zdd(cf:CF)(hpl:zeF cf){pots:Nat}(hp:pots<=12){cs:List Cl}(hb:Bolt pots cs)(hc:cs.length<=60){fr:List Bool}(hfl:fr.length=pots) :
  runI 4 [false,false] [] qt cf [.d (zc cs),.d (zx fr)]=.ok (.t [.d (.bool (!(zf fr cs cs.length).isEmpty)),.l ((zf fr cs cs.length).map .d)]) [none,none]:=by
 obtain⟨h1,h2⟩:=hpl pots cs fr hp hb hc hfl
 by_cases h:zf fr cs cs.length= []
 ·obtain⟨r,e⟩:=h1 h
  rw[h]
  generalize zc cs=B at *
  generalize zx fr=F at *
  simp![qt,e,VS,Yz,HC.D]
 ·have e:=h2 h
  have hn:(zf fr cs cs.length).isEmpty=false:=by simpa using h
  rw[hn]
  generalize zf fr cs cs.length=X at *
  generalize zc cs=B at *
  generalize zx fr=F at *
  simp![qt,e,VS,Yz,HC.D]
noncomputable def K4 (cf:CF):Prop:=∀ (pots:Nat) (cs:List Cl) (fr:List Bool),pots<=12->Bolt pots cs->cs.length<=60->fr.length=pots->cf "_law_hindered" [.d (zc cs),.d (zx fr)]=.ok (.t [.d (.bool (!(zf fr cs cs.length).isEmpty)),.l ((zf fr cs cs.length).map .d)]) [none,none]
noncomputable def Yi (cf:CF):Prop:=∀ (pots:Nat) (cs:List Cl) (fr:List Bool),cs.length<=100->(∀ c∈cs,qy pots c.st c.wi)->fr.length=pots->pots<=100->cf "_law_bars" [.d (zc cs),.d (zx fr)]=.ok (.l ((zf fr cs cs.length).map .d)) [none,none]
noncomputable def Ye (cf:CF):Prop:=∀ xs:List PyData,(∀ x∈xs,KU x)->cf "_law_bars_kind" [.d (.list xs),.d (.int 3)]=.ok (.d (.bool true)) [none,none]
end Wx
namespace L3
open PySem L2
section
variable [Cs]{K:PySem.W.Frag}{mg:Str->Option Value}{h:Heap}{d:DefI}
theorem el1{α:Type}{P:List α->Prop}(h:∀ a0,P [a0]):∀ us:List α,us.length=1->P us:=fun us e=>by
 match us,e with
 |[a0],_=>exact h a0
theorem el2{α:Type}{P:List α->Prop}(h:∀ a0 a1,P [a0,a1]):∀ us:List α,us.length=2->P us:=fun us e=>by
 match us,e with
 |[a0,a1],_=>exact h a0 a1
theorem el3{α:Type}{P:List α->Prop}(h:∀ a0 a1 a2,P [a0,a1,a2]):∀ us:List α,us.length=3->P us:=fun us e=>by
 match us,e with
 |[a0,a1,a2],_=>exact h a0 a1 a2
theorem el4{α:Type}{P:List α->Prop}(h:∀ a0 a1 a2 a3,P [a0,a1,a2,a3]):∀ us:List α,us.length=4->P us:=fun us e=>by
 match us,e with
 |[a0,a1,a2,a3],_=>exact h a0 a1 a2 a3
noncomputable def biOk(K:PySem.W.Frag)(L:List Str):Bool:=L.all fun x=>match PySem.W.nsIn K mainGlobals x with
 |some none=>true
 |_=>false
theorem bi_all{L:List Str}(X:K.In h)(G:h.Ns mainGlobals mg)(hk:biOk K L=true)(x:Str)(hx:L.contains x=true):mg x=none:=by
 have:=xA.mp hk x (ul.mp hx)
 split at this
 ·exact PySem.W.mg_none_of X G (by assumption)
 ·cases this
noncomputable def giOk(K:PySem.W.Frag)(L:List (Str×Int)):Bool:=L.all fun p=>match PySem.W.nsIn K mainGlobals p.1 with
 |some (some (.int i _))=>decide (i=p.2)
 |_=>false
theorem gi_of{L:List (Str×Int)}(X:K.In h)(G:h.Ns mainGlobals mg)(hk:giOk K L=true)(x:Str)(i:Int)(hx:L.contains (x,i)=true):∃ t,mg x=some (.int i t):=by
 have:=xA.mp hk _ (ul.mp hx)
 split at this
 ·rename_i e
  exact⟨_,(PySem.W.mg_of X G e).trans (by rw[of_decide_eq_true this])⟩
 ·cases this
noncomputable def gsOk(K:PySem.W.Frag)(L:List (Str×Str)):Bool:=L.all fun p=>match PySem.W.nsIn K mainGlobals p.1 with
 |some (some (.str i _))=>decide (i=p.2)
 |_=>false
theorem gs_of{L:List (Str×Str)}(X:K.In h)(G:h.Ns mainGlobals mg)(hk:gsOk K L=true)(x:Str)(i:Str)(hx:L.contains (x,i)=true):∃ t,mg x=some (.str i t):=by
 have:=xA.mp hk _ (ul.mp hx)
 split at this
 ·rename_i e
  exact⟨_,(PySem.W.mg_of X G e).trans (by rw[of_decide_eq_true this])⟩
 ·cases this
noncomputable def exOk(K:PySem.W.Frag)(L:List Str):Bool:=L.all fun x=>match PySem.W.nsIn K mainGlobals x with
 |some (some (.ref a))=>PySem.W.excIn K a bmV "ValueError.__new__" &&L.all fun y=>match PySem.W.nsIn K mainGlobals y with
  |some (some (.ref b))=>decide ((mroIn K a).contains (.ref b)=decide (x=y))
  |_=>false
 |_=>false
theorem ex_of {L:List Str}(X:K.In h) (G:h.Ns mainGlobals mg) (hk:exOk K L=true):(∀ x,L.contains x=true->∃ C,mg x=some (.ref C)/\PySem.W.excIn K C bmV "ValueError.__new__" =true)/\∀ x C y C2,L.contains x=true->mg x=some (.ref C)->L.contains y=true->mg y=some (.ref C2)->(mroIn K C).contains (.ref C2)=decide (x=y):=by
 have hk:=xA.mp hk
 refine⟨fun x hx=>?_,fun x C y C2 hx e1 hy e2=>?_⟩
 ·have:=hk x (ul.mp hx)
  split at this
  ·rename_i e
   simp only[xa]at this
   exact⟨_,PySem.W.mg_of X G e,this.1⟩
  ·cases this
 ·have:=hk x (ul.mp hx)
  split at this
  ·rename_i e
   simp only[xa]at this
   have h2:=xA.mp this.2 y (ul.mp hy)
   split at h2
   ·rename_i e'
    rw[PySem.W.mg_of X G e]at e1
    rw[PySem.W.mg_of X G e']at e2
    cases e1
    cases e2
    exact of_decide_eq_true h2
   ·cases h2
  ·cases this
noncomputable def fkOk(K:PySem.W.Frag)(L:List (Str×Str)):Bool:=L.all fun p=>match PySem.W.nsIn K mainGlobals p.1 with
 |some (some (.ref C))=>PySem.W.plainGet K C Str.empty&&(PySem.W.hasDictIn K C&&(PySem.W.plainOver K C&&((match PySem.W.findIn K (.ref C) "__setattr__" with
   |some (some (.builtin b))=>decide (b= "object.__setattr__")
   |_=>false)&&match PySem.W.findIn K (.ref C) p.2 with
   |some none=>true
   |_=>false)))
 |_=>false
theorem fk_all{L:List (Str×Str)}(X:K.In h)(G:h.Ns mainGlobals mg)(hk:fkOk K L=true)(c f:Str)(hx:L.contains (c,f)=true):Cls K ((csOf mg).adr c)/\ZG K ((csOf mg).adr c) f:=by
 have:=xA.mp hk _ (ul.mp hx)
 split at this
 ·rename_i e
  simp only[xa]at this
  obtain⟨a1,a2,a3,a4,a5⟩:=this
  refine zht X G ⟨e,a1,a2,a3,?_⟩ ?_
  ·split at a4
   ·rename_i e2
    rw[e2,of_decide_eq_true a4]
   ·cases a4
  ·split at a5
   ·assumption
   ·cases a5
 ·cases this
noncomputable def zeH (wn sf:Str) (s:Stmt):Bool:=okO (Zh s) fun z=>okO (zgZ z.1) fun (o,i,p2,xs,p5)=>decide (i= "__init__")&&(p2.endLine==p5.line)&&okO (zL o) (fun w=>decide (w.1=wn))&&okO (Wk xs) fun ab=>okO (zL ab.1) (fun q=>decide (q.1=sf))&&okO (Qw ab.2) fun cc=>okO (ky cc.1) fun _=>true
noncomputable def zeI (sf a x:Str) (s:Stmt):Bool:=okO (ZD s) fun z=>okO (Jj z.1) (fun t=>decide (t.2.1=a)&&okO (zL t.1) fun q=>decide (q.1=sf))&&okO (un1 z.2.1) fun (l,_,b,_)=>decide (l= "list")&&okO (zL b) fun q=>decide (q.1=x)
noncomputable def zag (sc:Scope) (N:List Str) (wn a:Str) (body:List Stmt):Bool:=okO (Wk body) fun st=>okO (N[0]?) fun sf=>okO (N[1]?) fun x=>zeH wn sf st.1&&zeI sf a x st.2&&vT sc sf&&vT sc x&& !(sf==("__debug__" :Str))&& !(sf==("__classdict__" :Str))&& !(x==("__debug__" :Str))&& !(x==("__classdict__" :Str))&&ZN sc wn&&ZN sc "list" && !(wn==("__debug__" :Str))
theorem zae (h:zeH wn sf s=true):∃ z j p1 p2 p3 p4 p5 p6,s=.Expr (.Call (.Attribute (.Name wn p1) "__init__" p2) [.Name sf p3,.Constant (.str z) j p4] [] p5) p6/\(p2.endLine==p5.line)=true:=by
 obtain⟨⟨e,p6⟩,eu,g⟩:=za h
 clear h
 cases jN eu
 have gz:=za g
 clear g
 obtain⟨⟨o,i,p2,xs,p5⟩,em,g⟩:=gz
 cases zck em
 simp only[xa,decide_eq_true_eq]at g
 obtain⟨⟨⟨rfl,q⟩,g1⟩,g2⟩:=g
 have gz:=za g1
 clear g1
 obtain⟨⟨w,p1⟩,ew,g1⟩:=gz
 cases zn ew
 obtain rfl:w=wn:=of_decide_eq_true g1
 have gz:=za g2
 clear g2
 obtain⟨⟨a,b⟩,e2,g2⟩:=gz
 cases qI e2
 simp only[xa]at g2
 obtain⟨g2,g3⟩:=g2
 have gz:=za g2
 clear g2
 obtain⟨⟨s',p3⟩,es,g2⟩:=gz
 cases zn es
 obtain rfl:s'=sf:=of_decide_eq_true g2
 have gz:=za g3
 clear g3
 obtain⟨⟨cc,j,p4⟩,ec,g3⟩:=gz
 cases qE ec
 obtain⟨z,ez,_⟩:=za g3
 cases Qd ez
 exact⟨z,j,p1,p2,p3,p4,p5,p6,rfl,q⟩
theorem zaf (h:zeI sf a x s=true):∃ p7 p8 p9 p10 p11 p12,s=.Assign [.Attribute (.Name sf p7) a p8] (.Call (.Name "list" p9) [.Name x p10] [] p11) p12:=by
 obtain⟨⟨tg,e,p12⟩,eu,g⟩:=za h
 clear h
 cases qr eu
 simp only[xa]at g
 obtain⟨g1,g2⟩:=g
 have gz:=za g1
 clear g1
 obtain⟨⟨o,f,p8⟩,eo,g1⟩:=gz
 cases Zs eo
 simp only[xa,decide_eq_true_eq]at g1
 obtain⟨rfl,g1⟩:=g1
 have gz:=za g1
 clear g1
 obtain⟨⟨q,p7⟩,eq,g1⟩:=gz
 cases zn eq
 obtain rfl:q=sf:=of_decide_eq_true g1
 have gz:=za g2
 clear g2
 obtain⟨⟨l,p9,b,p11⟩,el,g2⟩:=gz
 cases zV el
 simp only[xa,decide_eq_true_eq]at g2
 obtain⟨rfl,g2⟩:=g2
 have gz:=za g2
 clear g2
 obtain⟨⟨y,p10⟩,ey,g2⟩:=gz
 cases zn ey
 obtain rfl:y=x:=of_decide_eq_true g2
 exact⟨p7,p8,p9,p10,p11,p12,rfl⟩
theorem zct (h:vT sc x=true):Vis sc x:=by
 unfold vT at h
 simp only[xO,decide_eq_true_eq]at h
 rcases h with (h | h) | h
 ·exact .inl h
 ·exact .inr (.inl h)
 ·exact .inr (.inr h)
theorem BarT.of (h:zag sc N wn a body=true):BarT sc N wn a body:=by
 obtain⟨⟨s1,s2⟩,eb,g⟩:=za h
 clear h
 cases qI eb
 have gz:=za g
 clear g
 obtain⟨sf,n0,g⟩:=gz
 have gz:=za g
 clear g
 obtain⟨x,n1,g⟩:=gz
 simp only[xa,Bool.not_eq_true']at g
 obtain⟨⟨⟨⟨⟨⟨⟨⟨⟨⟨b1,b2⟩,v0⟩,v1⟩,d0⟩,c0⟩,d1⟩,c1⟩,g1⟩,g2⟩,nd⟩:=g
 obtain⟨z,j,p1,p2,p3,p4,p5,p6,rfl,q⟩:=zae b1
 obtain⟨p7,p8,p9,p10,p11,p12,rfl⟩:=zaf b2
 unfold ZN at g1 g2
 exact⟨⟨sf,x,z,j,p1,p2,p3,p4,p5,p6,p7,p8,p9,p10,p11,p12,rfl,q,n0,n1,zct v0,zct v1,d0,c0,d1,c1⟩,of_decide_eq_true g1,of_decide_eq_true g2,nd⟩
structure Db(K:PySem.W.Frag)(c wn a:Str):Prop where
 ex:∃ (C f A:Addr) (fd:FuncData) (ps:List Str) (q:Str) (st:Stmt),PySem.W.nsIn K mainGlobals c=some (some (.ref C))/\PySem.W.nsIn K mainGlobals wn=some (some (.ref A))/\Fun K "__init__" q st f fd/\Binds K fd ps []/\ZT ps ps (defScope st)=true/\ps.length=2/\Yt K C f A a=true/\zag (defScope st) ps wn a (defBody st)=true
theorem Db.of {st:Stmt}{ps:List Str}{C f A:Addr}{kV dc pm cd ct:Value}(n1:PySem.W.nsIn K mainGlobals c=some (some (.ref C))) (n2:PySem.W.nsIn K mainGlobals wn=some (some (.ref A))) (ff:PySem.W.findIn K (.ref C) "__init__" =some (some (.ref f)))
  (l:K.lookup f=some ⟨oc,od,.func (PySem.W.fnOf "__init__" q (z6 st) (defBody st) (defScope st) .none kV dc pm an cd ct),sl⟩) (e:PySem.W.codeIn K cd q=true) (k:PySem.W.keepIn K (.ref f)=true)
  (hb:∀ (kV doc pm:Value) (an:Option Addr) (cdv ct:Value) (us:List Value),us.length=ps.length->bindArgs (PySem.W.fnOf "__init__" q (z6 st) (defBody st) (defScope st) .none kV doc pm an cdv ct) ⟨us,[]⟩=pure (ps.zip us)) (hs:ZT ps ps (defScope st)=true) (hp:ps.length=2) (b:Yt K C f A a=true) (t:zag (defScope st) ps wn a (defBody st)=true):Db K c wn a :=
 ⟨C,f,A,_,ps,q,st,n1,n2,jD (st:=st) l e k,(jD (st:=st) l e k).binds hb,hs,hp,b,t⟩
theorem br_of (X:K.In h) (G:h.Ns mainGlobals mg) (hl:mg "list" =none) (D:Db K c wn a):∃ C f A,KnB P w K mg base c a 2 C f A:=by
 obtain⟨C,f,A,fd,ps,q,st,n1,n2,F,hb,hs,hp,b,t⟩:=D.ex
 exact⟨C,f,A,PySem.W.mg_of X G n1,.of b,1,fd,ps,by omega,hp,ze8 (k:=0) F (Qt hs) hp (.of b) (BarT.of t) (PySem.W.mg_of X G n2) hl,hb⟩
noncomputable def AllX(K:PySem.W.Frag)(mg:Str->Option Value):List DefI->Prop
 |[]=>True
 |d::r=> @Dx (csOf mg) K mg d/\AllX K mg r
theorem dx_all{W:Wd}:{L:List DefI}->AllX K mg L->(L.all fun d=>d.ok W)=true->∀ d∈L,@Dx (csOf mg) K mg d/\d.ok W=true
 |[],_,_=>fun d hd=>nomatch hd
 |e::r,a,ok=>fun d hd=>by
  simp only[uw,xa]at ok
  rcases xt.mp hd with rfl | hd
  ·exact⟨a.1,ok.1⟩
  ·exact dx_all a.2 ok.2 d hd
end
end L3
namespace Wx
open PySem L2 L3
noncomputable def top(i:Nat):Stmt:=PySem.Challenge.pw_waxcloth_k26_barred.main.body.getD i (.Pass ⟨0,0,0,0⟩)
noncomputable def mtop(i j:Nat):Stmt:=match top i with
 |.ClassDef _ _ _ b _ _ _ _ _ _ _=>b.getD j (.Pass ⟨0,0,0,0⟩)
 |s=>s
noncomputable def vg:DefI:=⟨"with_wax",top 6,["bolt","cells"],["bolt","cells"],[false,false],[],ja,.fn⟩
noncomputable def yt:DefI:=⟨"boiled",top 7,["bolt"],["bolt"],[false],[],wL,.fn⟩
noncomputable def vd:DefI:=⟨"has_cell",top 8,["bolt","at"],["bolt","at"],[false,false],[],qZ,.fn⟩
noncomputable def Vq:DefI:=⟨"lacking",top 10,["bolt","dye"],["bolt","dye"],[false,false],[],QV,.fn⟩
noncomputable def yu:DefI:=⟨"needed",top 11,["bolt"],["bolt","pots"],[false],[],Qo,.fn⟩
noncomputable def zap:DefI:=⟨"bars",top 12,["bolt","fresh"],["bolt","fresh","told","at","stain","waxed","wish","dye","word"],[false,false],[],yN,.fn⟩
noncomputable def vc:DefI:=⟨"bar_word",top 13,["gap","is_fresh"],["gap","is_fresh"],[false,false],[],qC,.fn⟩
noncomputable def wg:DefI:=⟨"with_cells",top 15,["bolt","dyes"],["bolt","dyes"],[false,false],[],jL,.fn⟩
noncomputable def vf:DefI:=⟨"is_lower",top 16,["one","other"],["one","other","dye","cells","other_dye","other_cells"],[false,false],[],jJ,.fn⟩
noncomputable def jP:DefI:=⟨"lacking_under_wax",top 17,["bolt","dye"],["bolt","dye"],[false,false],[],qf,.fn⟩
noncomputable def We:DefI:=⟨"stretches",top 19,["bolt"],["bolt","dyes","follower","present"],[false],[],j9,.fn⟩
noncomputable def QG:DefI:=⟨"places_above",top 20,["bolt","dyes"],["bolt","dyes","pairs","told","one","places"],[false,false],[],q8,.fn⟩
noncomputable def Wc:DefI:=⟨"followers",top 21,["above"],["above","follower","at"],[false],[],jh,.fn⟩
noncomputable def yv:DefI:=⟨"settle",top 22,["at","above","follower","tried"],["at","above","follower","tried","place"],[false,false,true,true],[2,3],j8,.fn⟩
noncomputable def wf:DefI:=⟨"row_behind",top 23,["dyes","follower","at"],["dyes","follower","at","row"],[false,false,false],[],jK,.fn⟩
noncomputable def zaq:DefI:=⟨"plan",top 25,["bolt","fresh"],["bolt","fresh","found","present","others","moves","clean","dyes"],[false,false],[],Qp,.fn⟩
noncomputable def Qg:DefI:=⟨"stretch_moves",top 26,["bolt","dyes"],["bolt","dyes","moves","dye","cells"],[false,false],[],qL,.fn⟩
noncomputable def Jo:DefI:=⟨"to_keep_off",top 27,["bolt","dye"],["bolt","dye"],[false,false],[],jn,.fn⟩
noncomputable def Vp:DefI:=⟨"_law_whole",top 29,["_law_found"],["_law_found"],[false],[],jS,.fn⟩
noncomputable def Vn:DefI:=⟨"_law_mixed",top 31,["_law_number","_law_turn"],["_law_number","_law_turn","_law_one","_law_two"],[false,false],[],jR,.fn⟩
noncomputable def yr:DefI:=⟨"_law_take",top 32,["_law_box_here","_law_many"],["_law_box_here","_law_many","_law_left","_law_cell_here"],[true,false],[0],qz,.fn⟩
noncomputable def Vm:DefI:=⟨"_law_lacks",top 33,["_law_box_here","_law_pots","_law_size"],["_law_box_here","_law_pots","_law_size","_law_way","_law_ends","_law_rows","_law_at","_law_row","_law_low","_law_high"],[true,false,false],[0],jQ,.fn⟩
noncomputable def yp:DefI:=⟨"_law_cell",top 34,["_law_box_here","_law_row","_law_loose","_law_wet"],["_law_box_here","_law_row","_law_loose","_law_wet","_law_stain","_law_want","_law_bit","_law_shade"],[true,false,false,false],[0],jx,.fn⟩
noncomputable def yo:DefI:=⟨"_law_bolt",top 35,["_law_box_here","_law_pots","_law_size","_law_loose"],["_law_box_here","_law_pots","_law_size","_law_loose","_law_wet","_law_rows"],[true,false,false,false],[0],ZI,.fn⟩
noncomputable def Vo:DefI:=⟨"_law_sizes",top 36,["_law_box_here"],["_law_box_here"],[true],[0],jf,.fn⟩
noncomputable def yn:DefI:=⟨"_law_bars",top 37,["_law_rows","_law_fresh"],["_law_rows","_law_fresh","_law_found","_law_at","_law_dye","_law_many"],[false,false],[],ZH,.fn⟩
noncomputable def Jn:DefI:=⟨"_law_bars_kind",top 38,["_law_found","_law_size"],["_law_found","_law_size","_law_bar"],[false,false],[],qK,.fn⟩
noncomputable def yq:DefI:=⟨"_law_draw",top 39,["_law_box_here","_law_loose"],["_law_box_here","_law_loose","_law_pots","_law_size"],[true,false],[0],ZJ,.fn⟩
noncomputable def we:DefI:=⟨"_law_hindered",top 40,["_law_rows","_law_fresh"],["_law_rows","_law_fresh","_law_found","_law_said"],[false,false],[],qt,.fn⟩
noncomputable def lawB_1:IE:=(.or (.cmp .Gt (.var 1 4) (.cint 2)) (.cmp .Gt (.call (.call "_law_take" 2 (.io 2 1 (.cons (.cint 5) .nil)))) (.var 1 4)))
noncomputable def defs:List DefI:= [vg,yt,vd,Vq,yu,zap,vc,wg,vf,jP,We,QG,Wc,yv,wf,zaq,Qg,Jo,Vp,Vn,yr,Vm,yp,yo,Vo,yn,Jn,yq,we]
noncomputable def lawB:IB:=(.cons (.asgT (.tp (.cons (.nm 2 2) (.cons (.nm 3 3) .nil))) (.call (.call "_law_draw" 2 (.io 1 1 (.cons (.bin .Mult (.cint 10) (.call (.call "_law_take" 2 (.io 1 1 (.cons (.cint 2) .nil))))) .nil))))) (.cons (.asg 4 4 (.dat (.call (.call "_law_take" 2 (.io 1 1 (.cons (.cint 6) .nil)))))) (.cons (.asg 5 5 (.dat (.new (.comp 11 1 [4,1] ["_law_dye","_law_good","_law_box_here"] (.nm 0 11) (.range (.var 2 2)) .yes lawB_1)))) (.cons (.asg 6 6 (.dat (.new (.list (.var 3 3))))) (.cons (.asg 7 7 (.dat (.new (.list (.var 5 5))))) (.cons (.asg 8 8 (.dat (.call (.call "_law_bars" 2 (.cons (.var 6 6) (.cons (.var 7 7) .nil)))))) (.cons (.asgP 9 9 10 10 (.call "_law_hindered" 2 (.cons (.var 3 3) (.cons (.var 5 5) .nil)))) (.cons (.ite (.or (.cmp .NotEq (.var 9 9) (.cmp .Gt (.len (.var 8 8)) (.cint 0))) (.or (.cmp .NotEq (.var 10 10) (.var 8 8)) (.not (.callw "_law_bars_kind" 2 (.cons (.var 10 10) (.cons (.cint 3) .nil)))))) (.cons (.ret (.dat (.cbool false))) .nil) .nil) (.cons (.ite (.or (.cmp .NotEq (.var 3 3) (.var 6 6)) (.cmp .NotEq (.var 5 5) (.var 7 7))) (.cons (.ret (.dat (.cbool false))) .nil) .nil) (.cons (.app 10 10 (.tup (.cons (.cstr "spare") (.cons (.cint 0) (.cons (.cint 0) .nil))))) (.cons (.ret (.dat (.cmp .Eq (.ix (.call (.call "_law_hindered" 2 (.cons (.var 3 3) (.cons (.var 5 5) .nil)))) (.cint 1)) (.var 8 8)))) .nil)))))))))))
noncomputable def W:Wd:=⟨["all","bool","enumerate","int","isinstance","len","list","max","min","range","set","sorted","str","tuple"],[],[],[("with_wax",2),("boiled",1),("has_cell",2),("lacking",2),("needed",1),("bars",2),("bar_word",2),("with_cells",2),("is_lower",2),("lacking_under_wax",2),("stretches",1),("places_above",2),("followers",1),("settle",4),("row_behind",3),("plan",2),("stretch_moves",2),("to_keep_off",2),("_law_whole",1),("_law_mixed",2),("_law_take",2),("_law_lacks",3),("_law_cell",4),("_law_bolt",4),("_law_sizes",1),("_law_bars",2),("_law_bars_kind",2),("_law_draw",2),("_law_hindered",2)],["NoCell","Twice"],[],[],[],[],[("Barred","bars")]⟩
noncomputable abbrev sBox:Stmt:=top 30
noncomputable abbrev sLaw:Stmt:=top 41
noncomputable def LN:List Str:= ["_law_script","_law_box_here","_law_pots","_law_rows","_law_good","_law_fresh","_law_kept","_law_pans","_law_due","_law_said","_law_found"]
theorem okLaw:lawB.chk W (defScope sLaw) LN (List.range LN.length) LN.length 0 (defBody sLaw).tail=true:=by kernel_rfl
structure zhe(cf:CF):Prop where
 take:jk cf
 draw:K1 cf
 lbars:Yi cf
 hind:K4 cf
 bkind:Ye cf
theorem ok26(n:Nat):zhe (zi defs (n+20)):=by
 have hmixed:∀ k,Yl (zi defs (k+1)):=fun k a b=>za9 (zi defs k) a b
 have htake:∀ k,jk (zi defs (k+2)):=fun k b hb n h1 h2=>zek (zi defs (k+1)) (hmixed k) hb h1 h2
 have hsizes:∀ k,Ym (zi defs (k+3)):=fun k b hb=>zbT (zi defs (k+2)) (htake k) hb
 have hlacks:∀ k,Yk (zi defs (k+3)):=fun k b hb pots size h1 h2=>zaT (zi defs (k+2)) (htake k) hb h1 h2
 have hcell:∀ k,Yg (zi defs (k+3)):=fun k b hb bs loose wet h1 h2 h3=>zcW (zi defs (k+2)) (htake k) hb bs h1 h2 h3
 have hbolt:∀ k,Yf (zi defs (k+4)):=fun k b hb pots size loose h1 h2 h3 h4=>zcM (zi defs (k+3)) (htake (k+1)) (hlacks k) (hcell k) hb h1 h2 h3 h4
 have hdraw:∀ k,K1 (zi defs (k+5)):=fun k b hb loose h0 h1=>zc1 (zi defs (k+4)) (hsizes (k+1)) (hbolt k) hb h0 h1
 have hlbars:∀ k,Yi (zi defs (k+1)):=fun k pots cs fr h1 h2 h3 h4=>za0 (zi defs k) h1 h2 h3 h4
 have hword:∀ k,yf (zi defs (k+1)):=fun k g f=>zey (zi defs k) g f
 have hbars:∀ k,ya (zi defs (k+2)):=fun k pots cs fr h1 h2 h3 h4=>zcK (zi defs (k+1)) (hword k) h1 h2 h3 h4
 have hlacking:∀ k,Zj "lacking" (zi defs (k+1)):=fun k pots cs hb d hd=>yE (zi defs k) hb hd
 have hneeded:∀ k,vY (zi defs (k+2)):=fun k pots cs hp hb=>(kX (zi defs (k+1)) (hlacking k) hp hb).trans (by rw[zdm])
 have hcells:∀ k,zcz (zi defs (k+2)):=fun k pots cs D hp hb hD=>zam (zi defs (k+1)) (hlacking k) hp hb hD
 have hlower:∀ k,Ju (zi defs (k+1)):=fun k a b xs ys h1 h2=>za5 (zi defs k) a b h1 h2
 have hwax:∀ k,K7 (zi defs (k+2)):=fun k pots cs hb d hd=>zg1 (zi defs (k+1)) (hlacking k) hb hd
 have hplaces:∀ k,vZ (zi defs (k+3)):=fun k pots cs D hp hb hcl hD=>Ka (zi defs (k+2)) (hcells k) (hlower (k+1)) (hwax k) hp hb hcl hD
 have hsettle:∀ k,Wp (zi defs (k+14)):=fun k=>zdV defs (fun _=>rfl) k
 have hfoll:∀ k,K3 (zi defs (k+15)):=fun k pots cs D hp hD=>zc5 hp hD cs (zi defs (k+14)) (hsettle k)
 have hrow:∀ k,K5 (zi defs (k+1)):=fun k D F n p hF he hn hp=>zgk (zi defs k) hF he hn hp
 have hstr:∀ k,zeG (zi defs (k+16)):=fun k pots cs hp hb hcl=>vQ (zi defs (k+15)) (hneeded (k+13)) (hplaces (k+12)) (hfoll k) (hrow (k+14)) hp hb hcl
 have hkeep:∀ k,yb (zi defs (k+1)):=fun k pots cs hb d hd=>zdj (zi defs k) hb hd
 have hhas:∀ k,zeE (zi defs (k+1)):=fun k cs a hl=>zfE (zi defs k) hl a
 have hwax2:∀ k,ye (zi defs (k+2)):=fun k cs xs hl hx=>zew (zi defs (k+1)) (hhas k) hl hx
 have hsmoves:∀ k,JF (zi defs (k+3)):=fun k pots P ds hb hP hd hl=>Kl (zi defs (k+2)) (hkeep (k+1)) (hwax2 k) hb hP hd hl
 have hboiled:∀ k,vV (zi defs (k+1)):=fun k cs h=>kh (zi defs k) h
 have hplanB:∀ k,zeF (zi defs (k+17)):=fun k pots cs fr hp hb hc hfl=>⟨fun hf=>⟨_,zbs (zi defs (k+16)) (hbars (k+14)) (hstr k) (hsmoves (k+13)) (hboiled (k+15)) hp hb hc hfl hf⟩,fun hf=>zbr (zi defs (k+16)) (hbars (k+14)) hp hb hc hfl hf⟩
 have hhind:∀ k,K4 (zi defs (k+18)):=fun k pots cs fr hp hb hc hfl=>zdd (zi defs (k+17)) (hplanB k) hp hb hc hfl
 have hwhole:∀ k,Yn (zi defs (k+1)):=fun k i=>zcx (zi defs k) i
 have hbkind:∀ k,Ye (zi defs (k+2)):=fun k xs h=>zai (zi defs (k+1)) (hwhole k) h
 exact⟨htake (n+18),hdraw (n+15),hlbars (n+19),hhind (n+2),hbkind (n+18)⟩
theorem zc6(cf:CF)(ht:jk cf){b:OV}(hb:zH b){good:Int}{n:Nat}{o2 o3:Option OV} :
  ∃ (fr:List Bool) (b':OV),fr.length=n/\zH b'/\Zz 1 (.nm 0 11) fYes (lawB_1.ev cf).1 (zM n) [] [none,some b,o2,o3,some (.d (.int good)),none,none,none,none,none,none]=.ok (fr.map .bool,[none,some b',o2,o3,some (.d (.int good)),none,none,none,none,none,none]):=by
 obtain⟨ys,Γ',e,⟨fr,b',hp,hb',rfl,rfl⟩⟩:=qu (k:=1) (t:=.nm 0 11) (cond:=fYes) (elt:=(lawB_1.ev cf).1) (ds:=zM n) (Γ:= [none,some b,o2,o3,some (.d (.int good)),none,none,none,none,none,none])
  (fun pre ys Γ=>∃ (fr:List Bool) (b':OV),fr.length=pre.length/\zH b'/\ys=fr.map .bool/\Γ= [none,some b',o2,o3,some (.d (.int good)),none,none,none,none,none,none]) ⟨[],b,rfl,hb,rfl,rfl⟩ (by
   rintro pre d post e ys Γ ⟨fr,b1,hp,hb1,rfl,rfl⟩
   refine⟨_,true,_,by simp[tgF];rfl,rfl,fun _=>?_,fun z=>nomatch z⟩
   by_cases hg:2<good
   ·refine⟨.dat (.bool true),[none,some b1,o2,o3,some (.d (.int good)),none,none,none,none,none,none,some (.d d)],_,?_,rfl,fr++ [true],b1,by simp[hp],hb1,by simp,by simp⟩
    simp![lawB_1,hg,zA,zX,OV.view,OV.views,zC,ixN,atI]
   ·obtain⟨r2,b2,h2,h2',hb2,e2⟩:=ht b1 hb1 5 (by decide) (by decide)
    refine⟨.dat (.bool (decide (good<r2))),[none,some b2,o2,o3,some (.d (.int good)),none,none,none,none,none,none,some (.d d)],_,?_,rfl,fr++ [decide (good<r2)],b2,by simp[hp],hb2,by simp,by simp⟩
    simp![lawB_1,hg,e2,zA,zX,OV.view,OV.views,zC,ixN,atI])
 rw[zy]at hp
 exact⟨fr,b',hp,hb',e⟩
theorem law_run(cf:CF)(h:zhe cf)(cells:List Int)(i l t s:Int)(hi:0<=i):∃ Γ',lawB.ex cf [] (none::some (Zu cells i l t s)::List.replicate (LN.length-2) none)=.ok (.ret (.d (.bool true)),Γ'):=by
 have hB:zH (Zu cells i l t s):=⟨_,_,_,_,_,hi,rfl⟩
 generalize Zu cells i l t s=b at hB
 obtain⟨r1,b1,h1,h1',hb1,e1⟩:=h.take b hB 2 (by decide) (by decide)
 obtain⟨pots,cs,b2,hp,hcl,hb,hb2,e2⟩:=h.draw b1 hb1 (10*r1) (by omega) (by omega)
 obtain⟨good,b3,h3,h3',hb3,e3⟩:=h.take b2 hb2 6 (by decide) (by decide)
 obtain⟨fr,b4,hfl,hb4,e4⟩:=zc6 cf h.take hb3 (good:=good) (n:=pots) (o2:=some (.d (.int pots))) (o3:=some (.d (zc cs)))
 have e5:=h.lbars pots cs fr (by omega) hb.2 hfl (by omega)
 have e6:=h.hind pots cs fr hp hb (by omega) hfl
 have e7:=h.bkind _ (Q8 (fr:=fr) (cs:=cs) (n:=cs.length))
 have hy:lay 20 (zc cs)=true:=zaW 17 _
 have hq:=Jx hy
 have hy2:lay 20 (.list (zf fr cs cs.length))=true:=zaV Q8
 have hq2:=Jx hy2
 have hy3:lay 20 (zx fr)=true:=Qj fun x hx=>by
  obtain⟨i,_,rfl⟩:=xI.mp hx
  exact wC _ _
 have hq3:=Jx hy3
 have hbl:=qO fr hb.2 cs.length
 have hbl2:(zf fr cs cs.length).length<1000000:=Nat.lt_of_le_of_lt (xH hbl (Nat.mul_le_mul (show cs.length<=100 by omega) (show pots<=100 by omega))) (by decide)
 have v:=jO (zf fr cs cs.length)
 have vt:(OV.t [.d (.bool (!(zf fr cs cs.length).isEmpty)),.l ((zf fr cs cs.length).map .d)]).view=.tuple [.bool (!(zf fr cs cs.length).isEmpty),.list (zf fr cs cs.length)]:=by
  rw[OV.view]
  show PyData.tuple [_,(OV.l ((zf fr cs cs.length).map .d)).view]=_
  rw[v];rfl
 have z1:(cs.map Cl.D).length<=1000000:=by simp;omega
 have z2:(fr.map PyData.bool).length<=1000000:=by simp;omega
 have g1:∀ Γ,zC Γ (.dat (zc cs))=some (cs.map Cl.D):=fun _=>rfl
 have g2:∀ Γ,zC Γ (.dat (zx fr))=some (fr.map .bool):=fun _=>rfl
 have g3:PyData.list (cs.map Cl.D)=zc cs:=rfl
 have g4:PyData.list (fr.map .bool)=zx fr:=rfl
 have zr: -1000000<=(pots:Int)/\(pots:Int)<=1000000:=by omega
 have zp:pots<=1000000:=by omega
 have hm: -(2:Int) ^ 64<=10*r1/\10*r1<=2 ^ 64:=by omega
 have hem:(!(zf fr cs cs.length).isEmpty)=decide (0<(zf fr cs cs.length).length):=by
  cases zf fr cs cs.length<;>simp
 rw[hem]at e6 vt
 generalize zf fr cs cs.length=X at *
 have hyb:lay 20 (.bool (decide (0<X.length)))=true:=wC _ _
 have hqb:=Jx hyb
 have a21:atI [PyData.bool (decide (0<X.length)),PyData.list X] 1=some (.list X):=rfl
 generalize cs.map Cl.D=CD at *
 generalize zc cs=BB at *
 generalize fr.map PyData.bool=FD at *
 generalize zx fr=FF at *
 unfold lawB
 generalize lawB_1=L1 at *
 simp only[LN,xn,ui]
 simp![e1,e2,e3,e4,e5,e6,e7,hy,hq,hy2,hq2,hy3,hq3,hbl2,v,vt,z1,z2,g1,g2,g3,g4,zr,zp,hm,YU,zy,zA,zX,hyb,hqb,a21,qM]
section
variable [L2.Cs]{P:Program}{w:World}{K:PySem.W.Frag}{mg:Str->Option Value}{base:Heap}
theorem zao(ns:List Int)(lo hi:Option Int):∃ ms:List Int,wd (ns.map V.int) lo hi=ms.map V.int/\ms.length<=ns.length:=by
 refine⟨(ns.drop (HT.sIx (ns.map V.int).length 0 lo)).take (HT.sIx (ns.map V.int).length (ns.map V.int).length hi-HT.sIx (ns.map V.int).length 0 lo),?_,?_⟩
 ·unfold wd
  rw[List.map_take,List.map_drop]
 ·rw[ud,List.length_drop];omega
theorem scBox:qN ["_law_script","_law_seed","_law_cell_here"] ["_law_script"] (defScope sBox):=⟨rfl,rfl,rfl,by decide +kernel,rfl,by decide +kernel,by decide +kernel⟩
theorem kn_box (D:Df K mg "_law_box" sBox ["_law_script"]) (B:mg "list" =none):Kn P w K mg base CX0 "_law_box" 1 (zbX K) :=
 D.kn (k:=0) scBox (fun vs H Q E ⟨a,ns,e,_⟩=>by rw[e];rfl) fun f cdv A outer s H vs Q E hr ⟨a,ns,e,hS,hlen,kk⟩=>by
  subst e
  refine PSs.wp (jv (QY (i:=1) scBox.nd rfl (Or.inl rfl) pe_int)
   (jv (zbu PassesOwn.never rfl (YQ (VJ YV (pv 0) vG (vH pe_int))) (JB (i:=2) scBox.nd rfl (Or.inl rfl))
    (Zo (QY (i:=1) scBox.nd rfl (Or.inl rfl) (WP zbi (WP yL (WP yL (WP zbj (pv 1) pe_int) (pv 2)) pe_int) pe_int))))
   (Zo (zbv (zbn (zo (ju jA rfl B jz (zo (VJ YV (pv 0) vG (vH pe_int)) pa_nil)) (zo pe_int (zo pe_int (zo pe_int (zo (pv 1) pa_nil)))))))))) ?_
  obtain⟨ms,ems,hms⟩:=zao ns none (some 63)
  refine⟨_,rfl,_,rfl,a,_,rfl,hS,fun q nq=>⟨q,rfl,⟨_,SqL.of zk⟩,zaC (K:=K) (a:=q) (xs:=wd (ns.map V.int) none (some 63)) (fun i σ H2=>H2=upd H q (.lst (wd (ns.map V.int) none (some 63)))/\∃ sd v,σ= [some (.ref a),some (.int sd),v])
   ⟨rfl,0,none,rfl⟩ (fun i σ H2 _ ⟨e,_⟩=>by rw[e];exact SqL.of zk) ?_ ?_⟩⟩
  ·rintro i x σ H2 hx ⟨rfl,sd,v,rfl⟩
   obtain⟨z,rfl⟩:∃ z,x=V.int z:=by
    rw[ems]at hx
    have:=xJ hx
    obtain⟨z,_,rfl⟩:=xI.mp this
    exact⟨z,rfl⟩
   refine⟨_,rfl,_,_,rfl,rfl,.inr (by decide),_,rfl,_,_,rfl,rfl,_,_,rfl,rfl,_,_,rfl,rfl,(by show (0:Int)<2147483647;decide),?_⟩
   exact⟨rfl,_,_,rfl⟩
  ·rintro σ H2 ⟨rfl,sd,v,rfl⟩
   have s1:Same H (upd H q (.lst (wd (ns.map V.int) none (some 63)))):=zB nq
   refine⟨_,rfl,_,rfl,a,_,rfl,s1.seq hS,fun q2 nq2=>⟨q2,_,rfl,.inl (SqL.of zk),fun l nl=>⟨_,rfl,(by show 5<=sizeLine;decide),fun b nb=>?_⟩⟩⟩
   have s2:=s1.trans (zB (o:=.lst (wd (ns.map V.int) none (some 63))) nq2)
   have s3:=s2.trans (zB (o:=.lst (wd (ns.map V.int) none (some 63))) nl)
   have hlb:l≠b:=fun e=>by rw[<- e,zk]at nb;cases nb
   refine kk b _ (s3.trans (zB nb)) (s3.free nb) (by rw[zk];exact fun z=>nomatch z) ⟨l,ms,0,0,0,sd,rfl,zk,?_,Int.le_refl 0⟩
   refine .list (vs:=ms.map V.int) (by rw[zg hlb,zk,ems]) hlb (RepL.ints ms)
theorem hw:wOk defs W=true:=by kernel_rfl
theorem hgd:∀ x kf,W.gd.contains (x,kf)=true->GD w K mg x kf:=fun x kf h=>nomatch h
theorem hbr (B0:∃ C f A,KnB P w K mg base "Barred" "bars" 2 C f A):∀ c a,W.br.contains (c,a)=true->∃ C f A,KnB P w K mg base c a 2 C f A:=by
 intro x kf h
 have h2:=ul.mp h
 simp only[W,xt,List.not_mem_nil,or_false,Prod.mk.injEq]at h2
 obtain⟨rfl,rfl⟩:=h2
 ·exact B0
theorem okS:ZT LN ["_law_script"] (defScope sLaw)=true:=by kernel_rfl
theorem oks:(defs.all fun d=>d.ok W)=true:=by kernel_rfl
theorem hdd {h:Heap}(X:K.In h) (G:h.Ns mainGlobals mg) (D0:Df K mg "with_wax" (top 6) ["bolt","cells"]) (D1:Df K mg "boiled" (top 7) ["bolt"]) (D2:Df K mg "has_cell" (top 8) ["bolt","at"]) (D3:Df K mg "lacking" (top 10) ["bolt","dye"]) (D4:Df K mg "needed" (top 11) ["bolt"]) (D5:Df K mg "bars" (top 12) ["bolt","fresh"]) (D6:Df K mg "bar_word" (top 13) ["gap","is_fresh"]) (D7:Df K mg "with_cells" (top 15) ["bolt","dyes"]) (D8:Df K mg "is_lower" (top 16) ["one","other"]) (D9:Df K mg "lacking_under_wax" (top 17) ["bolt","dye"]) (D10:Df K mg "stretches" (top 19) ["bolt"]) (D11:Df K mg "places_above" (top 20) ["bolt","dyes"]) (D12:Df K mg "followers" (top 21) ["above"]) (D13:Df K mg "settle" (top 22) ["at","above","follower","tried"]) (D14:Df K mg "row_behind" (top 23) ["dyes","follower","at"]) (D15:Df K mg "plan" (top 25) ["bolt","fresh"]) (D16:Df K mg "stretch_moves" (top 26) ["bolt","dyes"]) (D17:Df K mg "to_keep_off" (top 27) ["bolt","dye"]) (D18:Df K mg "_law_whole" (top 29) ["_law_found"]) (D19:Df K mg "_law_mixed" (top 31) ["_law_number","_law_turn"]) (D20:Df K mg "_law_take" (top 32) ["_law_box_here","_law_many"]) (D21:Df K mg "_law_lacks" (top 33) ["_law_box_here","_law_pots","_law_size"]) (D22:Df K mg "_law_cell" (top 34) ["_law_box_here","_law_row","_law_loose","_law_wet"]) (D23:Df K mg "_law_bolt" (top 35) ["_law_box_here","_law_pots","_law_size","_law_loose"]) (D24:Df K mg "_law_sizes" (top 36) ["_law_box_here"]) (D25:Df K mg "_law_bars" (top 37) ["_law_rows","_law_fresh"]) (D26:Df K mg "_law_bars_kind" (top 38) ["_law_found","_law_size"]) (D27:Df K mg "_law_draw" (top 39) ["_law_box_here","_law_loose"]) (D28:Df K mg "_law_hindered" (top 40) ["_law_rows","_law_fresh"]):AllX K mg defs:=⟨zP rfl D0,zP rfl D1,zP rfl D2,zP rfl D3,zP rfl D4,zP rfl D5,zP rfl D6,zP rfl D7,zP rfl D8,zP rfl D9,zP rfl D10,zP rfl D11,zP rfl D12,zP rfl D13,zP rfl D14,zP rfl D15,zP rfl D16,zP rfl D17,zP rfl D18,zP rfl D19,zP rfl D20,zP rfl D21,zP rfl D22,zP rfl D23,zP rfl D24,zP rfl D25,zP rfl D26,zP rfl D27,zP rfl D28,trivial⟩
end
noncomputable def dP(s:Stmt):Arguments:=match s with
 |.FunctionDef _ a _ _ _ _ _ _ _ _=>a
 |_=>⟨[],[],none,[],[],none,[]⟩
noncomputable abbrev dB:=L2.defBody
noncomputable abbrev dS:=L2.defScope
noncomputable abbrev dE(P:PySem.Params)(n:Str)(t:Nat)(v:Value):DictEntry:=.mk (PySem.PyData.keyHash P n) (.str n t) v
noncomputable abbrev dR(P:PySem.Params)(n:Str)(t a:Nat):DictEntry:=.mk (PySem.PyData.keyHash P n) (.str n t) (.ref a)
noncomputable def v3(c:Nat):List (Nat×Nat)->List Value
 |[]=> []
 | (l,a)::r=>.int l 0::.int c 0::.ref a::v3 c r
noncomputable abbrev o3(c:Nat)(l:List (Nat×Nat)):Obj:=.mk .none none (.fields (v3 c l).toArray) #[]
noncomputable def sL:Nat->List Str->List Value
 |_,[]=> []
 |t,s::r=>.str s t::sL (t+1) r
noncomputable abbrev sN(t:Nat)(l:List Str):Array Value:=(sL t l).toArray
noncomputable def rL:List Nat->List Value
 |[]=> []
 |a::r=>.ref a::rL r
noncomputable abbrev rN(l:List Nat):Array Value:=(rL l).toArray
noncomputable abbrev oA:Obj:=PySem.Obj.mk (.type "tuple") none (.seq #[] 0) #[]
noncomputable abbrev oB (P:PySem.Params) (s2 s5:Str) (n0 n1 n3 n4 n6 n7:Nat):Obj:=PySem.Obj.mk (.type "dict") none (.dict #[(dE P "__module__" n0 (.str "waxcloth.errors" 187)),(dE P "__firstlineno__" (n0+4) (.int ((n1:Nat):Int) (n0+3))),dR P s2 n3 n4,dR P s5 (n3+2) n6,(dE P "__doc__" (n3+3) .none)] n7) #[]
noncomputable abbrev oC:Obj:=PySem.Obj.mk (.type "tuple") none (.seq #[(.ref 24)] 0) #[]
noncomputable abbrev oD (P:PySem.Params) (n0 n1 n2:Nat):Obj:=PySem.Obj.mk (.type "dict") none (.dict #[(dE P "__module__" n0 (.str "waxcloth.errors" 187)),(dE P "__firstlineno__" (n0+4) (.int ((n1:Nat):Int) (n0+3))),dR P "__static_attributes__" (n0+5) n2,(dE P "__doc__" (n0+6) .none)] 2) #[]
noncomputable abbrev oE (s0:Str) (n1 n2 n3 n4:Nat):Obj:=PySem.Obj.mk (.type "type") none (.cls (PySem.ClassData.mk s0 [(.ref 24)] [(.ref n1),(.ref 24),(.type "ValueError"),(.type "Exception"),(.type "BaseException"),(.type "object")] n2 s0 true [] [] false none false)) #[(some (.ref n3)),none,(some (.str s0 n4)),(some (.str s0 (n4+8))),(some (.builtin "ValueError.__new__")),(some (.bool true))]
noncomputable abbrev oF (s1 s2:Str) (n0:Nat):Obj:=PySem.Obj.mk (.type "tuple") none (.seq (sN n0 [s1,s2]) 0) #[]
noncomputable abbrev oG (s0 s2:Str) (n1 n3 n4 n5 n6:Nat):Obj:=PySem.Obj.mk (.type "code") none (.fields #[(.str s0 n1),(.str s2 (n1+1)),(.str "/claim/cut.py" (n1+2)),(.int ((n3:Nat):Int) 0),(.int ((n4:Nat):Int) 0),(.int 0 0),(.int 0 0),(.int 3 0),(.ref n5),(.bool true),(.int 181 0),(.ref (n5+1)),.none,(.ref (n5+2)),(.ref (n5+3)),(.ref (n5+4)),(.int ((n6:Nat):Int) 0),(.int ((n3:Nat):Int) 0),(.str "/claim/cut.py" (n6+1))]) #[]
noncomputable abbrev oH (s1:Str) (n0:Nat):Obj:=PySem.Obj.mk (.type "tuple") none (.seq (sN n0 [s1]) 0) #[]
noncomputable abbrev oI (s0:Str) (n1 n2 n3 n4:Nat):Obj:=PySem.Obj.mk (.type "code") none (.fields #[(.str s0 n1),(.str s0 (n1+1)),(.str "/claim/cut.py" (n1+2)),(.int ((n2:Nat):Int) 0),(.int ((n3:Nat):Int) 0),(.int 0 0),(.int 0 0),(.int 3 0),(.ref n4),(.bool true),(.int 181 0),(.ref (n4+1)),.none,.none,.none,(.ref (n4+2)),(.int ((n1+3:Nat):Int) 0),(.int ((n2:Nat):Int) 0),(.str "/claim/cut.py" (n1+4))]) #[]
noncomputable abbrev oJ (s0 s2:Str) (n1 n3 n4:Nat):Obj:=PySem.Obj.mk (.type "function") none (.func (PySem.FuncData.mk s0 s0 (dP (top n1)) (.stmts (dB (top n1))) (dS (top n1)) 3 [] .none .none .none (.str s2 n3) none (.ref n4) .none 0)) #[]
noncomputable abbrev oK (s1 s2 s3 s4 s5:Str) (n0:Nat):Obj:=PySem.Obj.mk (.type "tuple") none (.seq (sN n0 [s1,s2,s3,s4,s5]) 0) #[]
noncomputable abbrev oL (s1 s2 s3 s4:Str) (n0:Nat):Obj:=PySem.Obj.mk (.type "tuple") none (.seq (sN n0 [s1,s2,s3,s4]) 0) #[]
noncomputable abbrev oM (s0:Str) (n1 n2 n3:Nat):Obj:=PySem.Obj.mk (.type "code") none (.fields #[(.str s0 n1),(.str s0 (n1+1)),(.str "/claim/cut.py" (n1+2)),(.int ((n2:Nat):Int) 0),(.int 0 0),(.int 0 0),(.int 0 0),(.int 0 0),(.ref n3),(.bool false),(.int 181 0),(.ref (n3+1)),.none,.none,.none,.none,(.int ((n1+3:Nat):Int) 0),(.int ((n2:Nat):Int) 0),(.str "/claim/cut.py" (n1+4))]) #[]
noncomputable abbrev oN (s2:Str) (n0 n1 n3:Nat):Obj:=PySem.Obj.mk (.type "frame") none .plain #[(some (.ref n0)),(some (.ref 3)),(some (.ref n1)),none,(some (.str s2 n3)),none,(some (.ref 0))]
noncomputable abbrev oO:Obj:=PySem.Obj.mk (.type "builtin_function_or_method") none (.fields #[(.builtin "type.__prepare__"),(.type "type")]) #[]
noncomputable abbrev oP (P:PySem.Params) (s1:Str) (n0 n2 n3:Nat):Obj:=PySem.Obj.mk (.type "dict") none (.dict #[(dE P "__module__" n0 (.str "waxcloth.errors" 187)),(dE P "__qualname__" (n0+2) (.str s1 (n0+1))),(dE P "__firstlineno__" (n0+4) (.int ((n2:Nat):Int) (n0+3))),dR P "__static_attributes__" (n0+5) n3] 4) #[]
noncomputable abbrev oQ:Obj:=PySem.Obj.mk .none none (.fields #[]) #[]
noncomputable abbrev oR (n0:Nat):Obj:=PySem.Obj.mk (.type "super") none (.fields (rN [n0,n0,n0])) #[]
noncomputable abbrev oS (n0:Nat):Obj:=PySem.Obj.mk (.type "builtin_function_or_method") none (.fields #[(.builtin "object.__init_subclass__"),(.ref n0)]) #[]
noncomputable abbrev oT(s0:Str)(n1:Nat):Obj:=PySem.Obj.mk .none none (.func (PySem.FuncData.mk s0 s0 (dP (top n1)) (.stmts (dB (top n1))) (dS (top n1)) 0 [] .none .none .none .none none .none .none 0)) #[]
noncomputable def K(P:PySem.Params):PySem.W.Frag :=
 (nat_lit 2,(PySem.Obj.mk .none none (.dict #[] 0) #[])) ::
 (nat_lit 3,(PySem.Obj.mk (.type "dict") none (.dict #[(dE P "__name__" 165 (.str "law_waxcloth_k26_barred" 423)),(dE P "__doc__" 166 .none),(dE P "__package__" 167 .none),(dE P "__loader__" 168 (.builtin "__main__.__loader__#opaque")),(dE P "__spec__" 169 .none),dR P "__annotations__" 170 6,dR P "__builtins__" 171 4,(dE P "__file__" 173 (.str "/claim/cut.py" 172)),(dE P "__cached__" 174 .none),dR P "WaxError" 206 24,dR P "NoCell" 222 37,dR P "Twice" 238 49,dR P "Barred" 263 68,dR P "with_wax" 271 75,dR P "boiled" 277 80,dR P "has_cell" 285 87,dR P "lacking" 293 92,dR P "needed" 299 97,dR P "bars" 314 104,dR P "bar_word" 322 111,dR P "with_cells" 330 116,dR P "is_lower" 342 123,dR P "lacking_under_wax" 348 128,dR P "stretches" 356 133,dR P "places_above" 362 138,dR P "followers" 368 143,dR P "settle" 379 150,dR P "row_behind" 389 157,dR P "plan" 405 164,dR P "stretch_moves" 416 171,dR P "to_keep_off" 422 176,dR P "_law_whole" 431 183,dR P "_law_box" 440 190,dR P "_law_mixed" 450 197,dR P "_law_take" 460 204,dR P "_law_lacks" 466 209,dR P "_law_cell" 480 216,dR P "_law_bolt" 486 221,dR P "_law_sizes" 493 228,dR P "_law_bars" 505 235,dR P "_law_bars_kind" 514 242,dR P "_law_draw" 524 249,dR P "_law_hindered" 535 256,dR P "law" 541 261] 44) #[])) ::
 (nat_lit 15,(PySem.Obj.mk (.type "tuple") none (.seq #[(.type "ValueError")] 0) #[])) ::
 (nat_lit 22,oA) ::
 (nat_lit 23,(oB P "__static_attributes__" "__weakref__" 196 2 201 22 25 3)) ::
 (nat_lit 24,(PySem.Obj.mk (.type "type") none (.cls (PySem.ClassData.mk "WaxError" [(.type "ValueError")] [(.ref 24),(.type "ValueError"),(.type "Exception"),(.type "BaseException"),(.type "object")] 23 "WaxError" true [] (rL [37,49,68]) false none false)) #[(some (.ref 15)),none,(some (.str "WaxError" 189)),(some (.str "WaxError" 197)),(some (.builtin "ValueError.__new__")),(some (.bool true))])) ::
 (nat_lit 25,(PySem.Obj.mk (.type "getset_descriptor") none (.fields #[(.str "__weakref__" 202),(.ref 24),(.builtin "ExceptionGroup.__weakref__"),.none]) #[])) ::
 (nat_lit 28,oC) ::
 (nat_lit 35,oA) ::
 (nat_lit 36,(oD P 214 4 35)) ::
 (nat_lit 37,(oE "NoCell" 37 36 28 207)) ::
 (nat_lit 40,oC) ::
 (nat_lit 47,oA) ::
 (nat_lit 48,(oD P 230 6 47)) ::
 (nat_lit 49,(oE "Twice" 49 48 40 223)) ::
 (nat_lit 52,oC) ::
 (nat_lit 59,oA) ::
 (nat_lit 61,(oF "self" "bars" 254)) ::
 (nat_lit 62,oA) ::
 (nat_lit 64,(oG "__init__" "Barred.__init__" 251 10 2 59 256)) ::
 (nat_lit 65,(PySem.Obj.mk (.type "function") none (.func (PySem.FuncData.mk "__init__" "Barred.__init__" (dP (mtop 4 0)) (.stmts (dB (mtop 4 0))) (dS (mtop 4 0)) 3 [] .none .none .none (.str "waxcloth.errors" 187) none (.ref 64) .none 0)) #[])) ::
 (nat_lit 66,(oH "bars" 259)) ::
 (nat_lit 67,(oB P "__init__" "__static_attributes__" 246 8 258 65 66 2)) ::
 (nat_lit 68,(oE "Barred" 68 67 52 239)) ::
 (nat_lit 71,oA) ::
 (nat_lit 74,(oI "with_wax" 266 14 2 71)) ::
 (nat_lit 75,(oJ "with_wax" "waxcloth.bolt" 6 264 74)) ::
 (nat_lit 76,oA) ::
 (nat_lit 79,(oI "boiled" 272 20 1 76)) ::
 (nat_lit 80,(oJ "boiled" "waxcloth.bolt" 7 264 79)) ::
 (nat_lit 81,oA) ::
 (nat_lit 83,(oF "bolt" "at" 281)) ::
 (nat_lit 84,oA) ::
 (nat_lit 86,(oG "has_cell" "has_cell" 278 22 2 81 283)) ::
 (nat_lit 87,(oJ "has_cell" "waxcloth.bolt" 8 264 86)) ::
 (nat_lit 88,oA) ::
 (nat_lit 91,(oI "lacking" 288 25 2 88)) ::
 (nat_lit 92,(oJ "lacking" "waxcloth.needs" 10 286 91)) ::
 (nat_lit 93,oA) ::
 (nat_lit 96,(oI "needed" 294 27 1 93)) ::
 (nat_lit 97,(oJ "needed" "waxcloth.needs" 11 286 96)) ::
 (nat_lit 98,oA) ::
 (nat_lit 100,(PySem.Obj.mk (.type "tuple") none (.seq (sN 303 ["bolt","fresh","told","at","stain","waxed","wish","dye","word"]) 0) #[])) ::
 (nat_lit 101,oA) ::
 (nat_lit 103,(oG "bars" "bars" 300 32 2 98 312)) ::
 (nat_lit 104,(oJ "bars" "waxcloth.needs" 12 286 103)) ::
 (nat_lit 105,oA) ::
 (nat_lit 107,(oF "gap" "is_fresh" 318)) ::
 (nat_lit 108,oA) ::
 (nat_lit 110,(oG "bar_word" "bar_word" 315 40 2 105 320)) ::
 (nat_lit 111,(oJ "bar_word" "waxcloth.needs" 13 286 110)) ::
 (nat_lit 112,oA) ::
 (nat_lit 115,(oI "with_cells" 325 49 2 112)) ::
 (nat_lit 116,(oJ "with_cells" "waxcloth.order" 15 323 115)) ::
 (nat_lit 117,oA) ::
 (nat_lit 119,(PySem.Obj.mk (.type "tuple") none (.seq (sN 334 ["one","other","dye","cells","other_dye","other_cells"]) 0) #[])) ::
 (nat_lit 120,oA) ::
 (nat_lit 122,(oG "is_lower" "is_lower" 331 51 2 117 340)) ::
 (nat_lit 123,(oJ "is_lower" "waxcloth.order" 16 323 122)) ::
 (nat_lit 124,oA) ::
 (nat_lit 127,(oI "lacking_under_wax" 343 57 2 124)) ::
 (nat_lit 128,(oJ "lacking_under_wax" "waxcloth.order" 17 323 127)) ::
 (nat_lit 129,oA) ::
 (nat_lit 132,(oI "stretches" 351 60 1 129)) ::
 (nat_lit 133,(oJ "stretches" "waxcloth.sharing" 19 349 132)) ::
 (nat_lit 134,oA) ::
 (nat_lit 137,(oI "places_above" 357 65 2 134)) ::
 (nat_lit 138,(oJ "places_above" "waxcloth.sharing" 20 349 137)) ::
 (nat_lit 139,oA) ::
 (nat_lit 142,(oI "followers" 363 74 1 139)) ::
 (nat_lit 143,(oJ "followers" "waxcloth.sharing" 21 349 142)) ::
 (nat_lit 144,oA) ::
 (nat_lit 146,(oK "at" "above" "follower" "tried" "place" 372)) ::
 (nat_lit 147,oA) ::
 (nat_lit 149,(oG "settle" "settle" 369 79 4 144 377)) ::
 (nat_lit 150,(oJ "settle" "waxcloth.sharing" 22 349 149)) ::
 (nat_lit 151,oA) ::
 (nat_lit 153,(oL "dyes" "follower" "at" "row" 383)) ::
 (nat_lit 154,oA) ::
 (nat_lit 156,(oG "row_behind" "row_behind" 380 87 3 151 387)) ::
 (nat_lit 157,(oJ "row_behind" "waxcloth.sharing" 23 349 156)) ::
 (nat_lit 158,oA) ::
 (nat_lit 160,(PySem.Obj.mk (.type "tuple") none (.seq (sN 395 ["bolt","fresh","found","present","others","moves","clean","dyes"]) 0) #[])) ::
 (nat_lit 161,oA) ::
 (nat_lit 163,(oG "plan" "plan" 392 95 2 158 403)) ::
 (nat_lit 164,(oJ "plan" "waxcloth.plans" 25 390 163)) ::
 (nat_lit 165,oA) ::
 (nat_lit 167,(oK "bolt" "dyes" "moves" "dye" "cells" 409)) ::
 (nat_lit 168,oA) ::
 (nat_lit 170,(oG "stretch_moves" "stretch_moves" 406 106 2 165 414)) ::
 (nat_lit 171,(oJ "stretch_moves" "waxcloth.plans" 26 390 170)) ::
 (nat_lit 172,oA) ::
 (nat_lit 175,(oI "to_keep_off" 417 115 2 172)) ::
 (nat_lit 176,(oJ "to_keep_off" "waxcloth.plans" 27 390 175)) ::
 (nat_lit 177,oA) ::
 (nat_lit 179,(oH "_law_found" 428)) ::
 (nat_lit 180,oA) ::
 (nat_lit 182,(oG "_law_whole" "_law_whole" 425 118 1 177 429)) ::
 (nat_lit 183,(oJ "_law_whole" "law_waxcloth_k26_barred" 29 423 182)) ::
 (nat_lit 184,oA) ::
 (nat_lit 186,(PySem.Obj.mk (.type "tuple") none (.seq (sN 435 ["_law_script","_law_seed","_law_cell_here"]) 0) #[])) ::
 (nat_lit 187,oA) ::
 (nat_lit 189,(oG "_law_box" "_law_box" 432 120 1 184 438)) ::
 (nat_lit 190,(oJ "_law_box" "law_waxcloth_k26_barred" 30 423 189)) ::
 (nat_lit 191,oA) ::
 (nat_lit 193,(oL "_law_number" "_law_turn" "_law_one" "_law_two" 444)) ::
 (nat_lit 194,oA) ::
 (nat_lit 196,(oG "_law_mixed" "_law_mixed" 441 125 2 191 448)) ::
 (nat_lit 197,(oJ "_law_mixed" "law_waxcloth_k26_barred" 31 423 196)) ::
 (nat_lit 198,oA) ::
 (nat_lit 200,(oL "_law_box_here" "_law_many" "_law_left" "_law_cell_here" 454)) ::
 (nat_lit 201,oA) ::
 (nat_lit 203,(oG "_law_take" "_law_take" 451 129 2 198 458)) ::
 (nat_lit 204,(oJ "_law_take" "law_waxcloth_k26_barred" 32 423 203)) ::
 (nat_lit 205,oA) ::
 (nat_lit 208,(oI "_law_lacks" 461 143 3 205)) ::
 (nat_lit 209,(oJ "_law_lacks" "law_waxcloth_k26_barred" 33 423 208)) ::
 (nat_lit 210,oA) ::
 (nat_lit 212,(PySem.Obj.mk (.type "tuple") none (.seq (sN 470 ["_law_box_here","_law_row","_law_loose","_law_wet","_law_stain","_law_want","_law_bit","_law_shade"]) 0) #[])) ::
 (nat_lit 213,oA) ::
 (nat_lit 215,(oG "_law_cell" "_law_cell" 467 160 4 210 478)) ::
 (nat_lit 216,(oJ "_law_cell" "law_waxcloth_k26_barred" 34 423 215)) ::
 (nat_lit 217,oA) ::
 (nat_lit 220,(oI "_law_bolt" 481 171 4 217)) ::
 (nat_lit 221,(oJ "_law_bolt" "law_waxcloth_k26_barred" 35 423 220)) ::
 (nat_lit 222,oA) ::
 (nat_lit 224,(oH "_law_box_here" 490)) ::
 (nat_lit 225,oA) ::
 (nat_lit 227,(oG "_law_sizes" "_law_sizes" 487 175 1 222 491)) ::
 (nat_lit 228,(oJ "_law_sizes" "law_waxcloth_k26_barred" 36 423 227)) ::
 (nat_lit 229,oA) ::
 (nat_lit 231,(PySem.Obj.mk (.type "tuple") none (.seq (sN 497 ["_law_rows","_law_fresh","_law_found","_law_at","_law_dye","_law_many"]) 0) #[])) ::
 (nat_lit 232,oA) ::
 (nat_lit 234,(oG "_law_bars" "_law_bars" 494 179 2 229 503)) ::
 (nat_lit 235,(oJ "_law_bars" "law_waxcloth_k26_barred" 37 423 234)) ::
 (nat_lit 236,oA) ::
 (nat_lit 238,(PySem.Obj.mk (.type "tuple") none (.seq (sN 509 ["_law_found","_law_size","_law_bar"]) 0) #[])) ::
 (nat_lit 239,oA) ::
 (nat_lit 241,(oG "_law_bars_kind" "_law_bars_kind" 506 191 2 236 512)) ::
 (nat_lit 242,(oJ "_law_bars_kind" "law_waxcloth_k26_barred" 38 423 241)) ::
 (nat_lit 243,oA) ::
 (nat_lit 245,(oL "_law_box_here" "_law_loose" "_law_pots" "_law_size" 518)) ::
 (nat_lit 246,oA) ::
 (nat_lit 248,(oG "_law_draw" "_law_draw" 515 200 2 243 522)) ::
 (nat_lit 249,(oJ "_law_draw" "law_waxcloth_k26_barred" 39 423 248)) ::
 (nat_lit 250,oA) ::
 (nat_lit 252,(oK "_law_rows" "_law_fresh" "_law_found" "_law_said" "e" 528)) ::
 (nat_lit 253,oA) ::
 (nat_lit 255,(oG "_law_hindered" "_law_hindered" 525 203 2 250 533)) ::
 (nat_lit 256,(oJ "_law_hindered" "law_waxcloth_k26_barred" 40 423 255)) ::
 (nat_lit 257,oA) ::
 (nat_lit 260,(oI "law" 536 212 1 257)) ::
 (nat_lit 261,(oJ "law" "law_waxcloth_k26_barred" 41 423 260)):: []
noncomputable abbrev RR:PySem.W.RowW:=PySem.W.OpenRow.toRowW (PySem.W.OpenLaw.row PySem.Challenge.rw_waxcloth_k26_barred)
noncomputable def Q:Program:={ RR.prog with main:={ RR.prog.main with body:= [top 1,top 2,top 3,top 4,top 6,top 7,top 8,top 10,top 11,top 12,top 13,top 15,top 16,top 17,top 19,top 20,top 21,top 22,top 23,top 25,top 26,top 27,top 29,top 30,top 31,top 32,top 33,top 34,top 35,top 36,top 37,top 38,top 39,top 40,top 41] } }
noncomputable def asL:List Nat:= [2,3,15,22,23,24,25,28,35,36,37,40,47,48,49,52,59,61,62,64,65,66,67,68,71,74,75,76,79,80,81,83,84,86,87,88,91,92,93,96,97,98,100,101,103,104,105,107,108,110,111,112,115,116,117,119,120,122,123,124,127,128,129,132,133,134,137,138,139,142,143,144,146,147,149,150,151,153,154,156,157,158,160,161,163,164,165,167,168,170,171,172,175,176,177,179,180,182,183,184,186,187,189,190,191,193,194,196,197,198,200,201,203,204,205,208,209,210,212,213,215,216,217,220,221,222,224,225,227,228,229,231,232,234,235,236,238,239,241,242,243,245,246,248,249,250,252,253,255,256,257,260,261]
theorem asE:∀ P,asL=(K P).map (·.1):=fun _=>by kernel_rfl
noncomputable def zhJ(P:PySem.Params):List (Nat×Obj) :=
 (0,PySem.W.boot_o_0 P) ::
 (1,PySem.W.boot_o_1 P) ::
 (4,PySem.W.boot_o_4 P) ::
 (5,PySem.W.boot_o_5 P) ::
 (6,PySem.W.boot_o_6 P) ::
 (7,PySem.W.boot_o_7 P) ::
 (8,PySem.W.boot_o_8 P) ::
 (9,PySem.W.boot_o_9 P) ::
 (10,PySem.W.boot_o_10 P) ::
 (11,oA) ::
 (12,(o3 0 [(2,20),(4,33),(6,45),(8,57),(14,74),(20,79),(22,86),(25,91),(27,96),(32,103),(40,110),(49,115),(51,122),(57,127),(60,132),(65,137),(74,142),(79,149),(87,156),(95,163),(106,170),(115,175),(118,182),(120,189),(125,196),(129,203),(143,208),(160,215),(171,220),(175,227),(179,234),(191,241),(200,248),(203,255),(212,260)])) ::
 (13,(oM "<module>" 182 1 11)) ::
 (14,(oN "__main__" 13 3 164)) ::
 (16,oO) ::
 (17,(oP P "WaxError" 196 2 22)) ::
 (18,oA) ::
 (19,oQ) ::
 (20,(oM "WaxError" 191 2 18)) ::
 (21,(oN "waxcloth.errors" 20 17 187)) ::
 (26,(oR 24)) ::
 (27,(oS 24)) ::
 (29,oO) ::
 (30,(oP P "NoCell" 214 4 35)) ::
 (31,oA) ::
 (32,oQ) ::
 (33,(oM "NoCell" 209 4 31)) ::
 (34,(oN "waxcloth.errors" 33 30 187)) ::
 (38,(oR 37)) ::
 (39,(oS 37)) ::
 (41,oO) ::
 (42,(oP P "Twice" 230 6 47)) ::
 (43,oA) ::
 (44,oQ) ::
 (45,(oM "Twice" 225 6 43)) ::
 (46,(oN "waxcloth.errors" 45 42 187)) ::
 (50,(oR 49)) ::
 (51,(oS 49)) ::
 (53,oO) ::
 (54,(PySem.Obj.mk (.type "dict") none (.dict #[(dE P "__module__" 246 (.str "waxcloth.errors" 187)),(dE P "__qualname__" 248 (.str "Barred" 247)),(dE P "__firstlineno__" 250 (.int 8 249)),dR P "__init__" 258 65,dR P "__static_attributes__" 260 66] 5) #[])) ::
 (55,oA) ::
 (56,(o3 4 [(10,64)])) ::
 (57,(oM "Barred" 241 8 55)) ::
 (58,(oN "waxcloth.errors" 57 54 187)) ::
 (60,oQ) ::
 (63,(PySem.Obj.mk .none none (.func (PySem.FuncData.mk "__init__" "Barred.__init__" (dP (mtop 4 0)) (.stmts (dB (mtop 4 0))) (dS (mtop 4 0)) 0 [] .none .none .none .none none .none .none 0)) #[])) ::
 (69,(oR 68)) ::
 (70,(oS 68)) ::
 (72,oQ) ::
 (73,(oT "with_wax" 6)) ::
 (77,oQ) ::
 (78,(oT "boiled" 7)) ::
 (82,oQ) ::
 (85,(oT "has_cell" 8)) ::
 (89,oQ) ::
 (90,(oT "lacking" 10)) ::
 (94,oQ) ::
 (95,(oT "needed" 11)) ::
 (99,oQ) ::
 (102,(oT "bars" 12)) ::
 (106,oQ) ::
 (109,(oT "bar_word" 13)) ::
 (113,oQ) ::
 (114,(oT "with_cells" 15)) ::
 (118,oQ) ::
 (121,(oT "is_lower" 16)) ::
 (125,oQ) ::
 (126,(oT "lacking_under_wax" 17)) ::
 (130,oQ) ::
 (131,(oT "stretches" 19)) ::
 (135,oQ) ::
 (136,(oT "places_above" 20)) ::
 (140,oQ) ::
 (141,(oT "followers" 21)) ::
 (145,oQ) ::
 (148,(oT "settle" 22)) ::
 (152,oQ) ::
 (155,(oT "row_behind" 23)) ::
 (159,oQ) ::
 (162,(oT "plan" 25)) ::
 (166,oQ) ::
 (169,(oT "stretch_moves" 26)) ::
 (173,oQ) ::
 (174,(oT "to_keep_off" 27)) ::
 (178,oQ) ::
 (181,(oT "_law_whole" 29)) ::
 (185,oQ) ::
 (188,(oT "_law_box" 30)) ::
 (192,oQ) ::
 (195,(oT "_law_mixed" 31)) ::
 (199,oQ) ::
 (202,(oT "_law_take" 32)) ::
 (206,oQ) ::
 (207,(oT "_law_lacks" 33)) ::
 (211,oQ) ::
 (214,(oT "_law_cell" 34)) ::
 (218,oQ) ::
 (219,(oT "_law_bolt" 35)) ::
 (223,oQ) ::
 (226,(oT "_law_sizes" 36)) ::
 (230,oQ) ::
 (233,(oT "_law_bars" 37)) ::
 (237,oQ) ::
 (240,(oT "_law_bars_kind" 38)) ::
 (244,oQ) ::
 (247,(oT "_law_draw" 39)) ::
 (251,oQ) ::
 (254,(oT "_law_hindered" 40)) ::
 (258,oQ) ::
 (259,(oT "law" 41)):: []
noncomputable def mix:Nat->Nat->List (Nat×Obj)->List (Nat×Obj)->List Obj
 |0,_,_,_=> []
 |n+1,i,(a,x)::l,(b,y)::r=>match Nat.beq a i with
  |true=>x::mix n (i+1) l ((b,y)::r)
  |false=>y::mix n (i+1) ((a,x)::l) r
 |n+1,i,(_,x)::l,[]=>x::mix n (i+1) l []
 |n+1,i,[],(_,y)::r=>y::mix n (i+1) [] r
 |_+1,_,[],[]=> []
noncomputable def ev:Bool->List Obj->List Obj
 |_,[]=> []
 |true,x::r=>x::ev false r
 |false,_::r=>ev true r
noncomputable def bt:Nat->List Obj->PySem.W.BT
 |0,_=>.nil
 |_+1,[]=>.nil
 |n+1,x::r=>.node x (bt n (ev true r)) (bt n (ev false r))
noncomputable def lf:Life:=(.mk [] [] [] 0 [] [] false #[] [] 0 false false false 0 [2000,10,10] false 0 true [] [] 0 false)
noncomputable def zhI(P:PySem.Params):List Obj:=mix 262 0 (K P) (zhJ P)
noncomputable def zfu:Env:={ scope:=RR.prog.main.scope,locals:=mainNs,globals:=mainNs,cells:= [],code:=.ref 13,frame:=some 14 }
noncomputable def bH:List Stmt:=PySem.W.behindTheImports RR.prog
noncomputable def cH:Code:=.body bH zfu
noncomputable abbrev BH:List Frame:= [PySem.W.topFrame ⟨0,0,0,0⟩]
noncomputable def zfY (P:PySem.Params):List Obj:= [PySem.W.boot_o_0 P,PySem.W.boot_o_1 P,PySem.W.boot_o_2 P,PySem.W.boot_o_3 P,PySem.W.boot_o_4 P,PySem.W.boot_o_5 P,PySem.W.boot_o_6 P,PySem.W.boot_o_7 P,PySem.W.boot_o_8 P,PySem.W.boot_o_9 P,PySem.W.boot_o_10 P,oA,oQ,(oM "<module>" 182 1 11),(oN "__main__" 13 3 164)]
theorem preH:∀ w:World,(fun os=>PySem.W.topGo treeTable RR.prog w 11 (some (.ref 6)) 12 ⟨PySem.W.boot_heap w.params,Array.mk [],PySem.W.boot_drawn,PySem.W.boot_toks,os⟩ (PySem.W.topStub RR.prog))=fun os=>some (⟨⟨(zfY w.params).toArray,lf⟩,Array.mk [],PySem.W.boot_drawn,187,os⟩,⟨denote treeTable cH,cH,⟨0,0,0,0⟩,BH⟩):=fun w=>by kernel_rfl
noncomputable def tr0(P:PySem.Params):PySem.W.BT:=bt 14 (zfY P)
theorem zfb:∀ w:World,(fun os=>PySem.W.segRun treeTable RR.prog w 11 (some (.ref 6)) 1 1 ⟨⟨(zfY w.params).toArray,lf⟩,Array.mk [],PySem.W.boot_drawn,187,os⟩ (PySem.W.blockOf bH zfu cH ⟨0,0,0,0⟩ BH))=fun os=>some (.next,(PySem.W.SharedT.mk (tr0 w.params) 15 lf (Array.mk []) PySem.W.boot_drawn 187 os).abs,cH,⟨0,0,0,0⟩):=fun w=>by kernel_rfl
noncomputable def tr1(P:PySem.Params):PySem.W.BT:=bt 14 (zhI P)
noncomputable def zia:List Stmt:=bH
theorem zhZ:∀ w:World,(fun os=>PySem.W.segRunT treeTable RR.prog w 11 (some (.ref 6)) 1 1843 (PySem.W.SharedT.mk (tr0 w.params) 15 lf (Array.mk []) PySem.W.boot_drawn 187 os) (PySem.W.piecesOf zia zfu cH ⟨0,0,0,0⟩ BH))=fun os=>some (.next,(PySem.W.SharedT.mk (tr1 w.params) 262 lf (Array.mk []) PySem.W.boot_drawn 542 os),cH,⟨212,0,226,62⟩):=fun w=>by kernel_rfl
noncomputable def hE(P:PySem.Params):Heap:=⟨(zhI P).toArray,lf⟩
theorem finH:∀ w:World,(fun os=>PySem.W.topRun treeTable RR.prog w 11 (some (.ref 6)) 2 (PySem.W.SharedT.mk (tr1 w.params) 262 lf (Array.mk []) PySem.W.boot_drawn 542 os).abs ⟨PySem.W.doneF .next,cH,⟨212,0,226,62⟩,BH⟩)=fun os=>some ⟨hE w.params,Array.mk [],PySem.W.boot_drawn,542,os⟩:=fun w=>by kernel_rfl
theorem zhl:bH=zia++([]):=by kernel_rfl
theorem runH(w:World)(os:OsState):PySem.W.topRun treeTable RR.prog w 11 (some (.ref 6)) (12+(1+(1843+2))) ⟨PySem.W.boot_heap w.params,Array.mk [],PySem.W.boot_drawn,PySem.W.boot_toks,os⟩ (PySem.W.topStub RR.prog)=some ⟨hE w.params,Array.mk [],PySem.W.boot_drawn,542,os⟩:=by
 refine PySem.W.go_top (congrFun (preH w) os) (PySem.W.piece_block (congrFun (zfb w) os) ?_)
 rw[zhl]
 exact PySem.W.piece_app (PySem.W.segRun_of (congrFun (zhZ w) os)) (PySem.W.piece_nil (congrFun (finH w) os))
noncomputable abbrev XtH:Shared->Bool:=fun s=>PySem.W.xlAt Q [] s&&PySem.W.recOk (PySem.W.RowW.records RR) s
theorem zfV:∀ w:World,(fun os=>((PySem.W.staticsOk (importedModules RR.prog.main.body) (PySem.W.boot_heap w.params) (hE w.params)&&PySem.W.namesBound RR.prog (hE w.params)&&PySem.W.gensDone ⟨hE w.params,Array.mk [],PySem.W.boot_drawn,542,os⟩&&PySem.W.laidKept (PySem.W.boot_heap w.params) (hE w.params)),PySem.W.openSeen Q [] (importedModules RR.prog.main.body) XtH true ⟨hE w.params,Array.mk [],PySem.W.boot_drawn,542,os⟩,(PySem.W.Hook.obs (PySem.W.kHook K asL asE)) ⟨hE w.params,Array.mk [],PySem.W.boot_drawn,542,os⟩))=fun _=>(true,PySem.W.openGood Q [],PySem.W.Hook.val (PySem.W.kHook K asL asE) w):=fun w=>by kernel_rfl
theorem zhO:PySem.W.opening RR.prog=PySem.W.plainProg RR.prog.main.scope.names:=by kernel_rfl
theorem zfy:∀ s,fenceModules? RR.prog s=some s:=fun s=>by kernel_rfl
theorem zh5:∀ w:World,((PySem.W.boot_heap w.params).isNs mainGlobals&&(Array.mk ([]:List GenState)).size==0,(PySem.W.boot_heap w.params).objs.size,(PySem.W.boot_heap w.params).nsMap mainGlobals "__annotations__")=(true,11,(some (.ref 6))):=fun w=>by kernel_rfl
theorem left:PySem.W.LeftO RR.prog Q [] XtH (PySem.W.Hook.obs (PySem.W.kHook K asL asE)) (PySem.W.Hook.val (PySem.W.kHook K asL asE)) 3810 :=
 PySem.W.LeftO.of_pieces (PySem.W.boot_open zhO (by decide +kernel) zfy) zh5 runH (by decide +kernel) zfV
theorem saidL:PySem.W.OpenLaw.wellSaid PySem.Challenge.rw_waxcloth_k26_barred=true:=by kernel_rfl
end Wx
open PySem PySem.W PyProof.Rows
set_option hygiene false in
local macro_rules
 | `(tactic| rotate_left 1)=>`(tactic| (dsimp only [L2.KOf];refine' L2.Df.of KX G ?a ?l ?c ?k (fun _ _ _ _ _ _=>L3.el1 fun _=>rfl);(case a=>k_is);(case l=>k_is);(case c=>k_is);(case k=>k_is)))
 | `(tactic| rotate_left 2)=>`(tactic| (dsimp only [L2.KOf];refine' L2.Df.of KX G ?a ?l ?c ?k (fun _ _ _ _ _ _=>L3.el2 fun _ _=>rfl);(case a=>k_is);(case l=>k_is);(case c=>k_is);(case k=>k_is)))
 | `(tactic| rotate_left 3)=>`(tactic| (dsimp only [L2.KOf];refine' L2.Df.of KX G ?a ?l ?c ?k (fun _ _ _ _ _ _=>L3.el3 fun _ _ _=>rfl);(case a=>k_is);(case l=>k_is);(case c=>k_is);(case k=>k_is)))
 | `(tactic| rotate_left 4)=>`(tactic| (dsimp only [L2.KOf];refine' L2.Df.of KX G ?a ?l ?c ?k (fun _ _ _ _ _ _=>L3.el4 fun _ _ _ _=>rfl);(case a=>k_is);(case l=>k_is);(case c=>k_is);(case k=>k_is)))
theorem PySem.Challenge.cw_waxcloth_k26_barred_holds : PySem.Challenge.rw_waxcloth_k26_barred.Holds := by
 w_on;refine PySem.W.holds_law Wx.saidL fun said=>?_
 refine PySem.W.holds_open (q:=Wx.Q) (loose:= []) (XP:=PySem.W.XL Wx.Q []) (YP:=PySem.W.Hook.says (PySem.W.kHook Wx.K Wx.asL Wx.asE)) (N:=3810) Wx.left (PySem.W.Hook.of (PySem.W.kHook Wx.K Wx.asL Wx.asE)) (PySem.W.Hook.keeps (PySem.W.kHook Wx.K Wx.asL Wx.asE)) (fun s e=>PySem.W.xl_of s (xQ.mp e).1) PySem.W.XL.keeps (by rfl) (by rfl) (by rfl) (fun s e=>PySem.W.recFacts_of (xQ.mp e).2) (by rfl) (by first | assumption | decide +kernel) (by decide +kernel) ⟨rfl,rfl,rfl,rfl,rfl,by decide +kernel⟩ ?hw ?hc
 (case hw=>w_witness2)
 k_fill
 haveI:L2.Cs:=⟨fun _=>0⟩
 refine L2.walkL (l:=PySem.Challenge.rw_waxcloth_k26_barred) (k:=43) (st:=Wx.sLaw) rfl rfl ⟨rfl,by decide,by decide⟩ (fun w h Y=>PySem.W.kIn_of Y) ?F
 case F=>
  intro w mg fa h KX G hmg
  letI:L2.Cs:=L3.csOf mg
  have HD:L3.AllX (L2.KOf KX) mg Wx.defs:=Wx.hdd KX G (by rotate_left 2) (by rotate_left 1) (by rotate_left 2) (by rotate_left 2) (by rotate_left 1) (by rotate_left 2) (by rotate_left 2) (by rotate_left 2) (by rotate_left 2) (by rotate_left 2) (by rotate_left 1) (by rotate_left 2) (by rotate_left 1) (by rotate_left 4) (by rotate_left 3) (by rotate_left 2) (by rotate_left 2) (by rotate_left 2) (by rotate_left 1) (by rotate_left 2) (by rotate_left 2) (by rotate_left 3) (by rotate_left 4) (by rotate_left 4) (by rotate_left 1) (by rotate_left 2) (by rotate_left 2) (by rotate_left 2) (by rotate_left 2)
  have DB:L2.Df (L2.KOf KX) mg "_law_box" Wx.sBox ["_law_script"]:=by rotate_left 1
  have HB:∀ x,Wx.W.bi.contains x=true->mg x=none:=L3.bi_all (K:=L2.KOf KX) KX G (by kernel_rfl)
  have HX:=L3.ex_of (K:=L2.KOf KX) (L:=Wx.W.ex) KX G (by kernel_rfl)
  have L:L2.Dl (L2.KOf KX) "law" Wx.sLaw fa "_law_script" :=by
   dsimp only [L2.KOf]
   refine' L2.Dl.of KX G hmg ?a ?l ?c ?k ?b
   (case a=>k_is);(case l=>k_is);(case c=>k_is);(case k=>k_is)
   (case b=>exact fun s u=>.of_eq rfl)
  have DR0:L3.Db (L2.KOf KX) "Barred" "WaxError" "bars" :=by
   dsimp only [L2.KOf]
   refine' L3.Db.of (st:=Wx.mtop 4 0) (ps:= ["self","bars"]) ?n ?m ?f ?l ?c ?k (fun _ _ _ _ _ _=>L3.el2 fun _ _=>rfl) ?s rfl ?b ?t
   (case n=>k_is);(case m=>k_is);(case f=>k_is);(case l=>k_is);(case c=>k_is);(case k=>k_is);(case s=>kernel_rfl);(case b=>kernel_rfl);(case t=>kernel_rfl)
  refine⟨L,fun fd Ff base=>?_⟩
  exact L3.law_ok Ff Wx.okS (Wx.kn_box DB (HB "list" (by kernel_rfl))) (by decide) (L3.wk_all (L3.dx_all HD Wx.oks) Wx.hw HB (L3.gi_of (K:=L2.KOf KX) KX G (by kernel_rfl)) (L3.gs_of (K:=L2.KOf KX) KX G (by kernel_rfl)) HX.1 HX.2 Wx.hgd (L3.fk_all (K:=L2.KOf KX) KX G (by kernel_rfl)) (Wx.hbr (L3.br_of KX G (HB "list" (by kernel_rfl)) DR0)) 20) (by decide) rfl rfl rfl rfl (by first | exact Or.inl rfl | exact Or.inr rfl) rfl Wx.okLaw (fun cells i l t s hi=>Wx.law_run _ (Wx.ok26 0) cells i l t s hi)

