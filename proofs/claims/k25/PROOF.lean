import PyProof.Rows.All
import Wide.All
import OpenK.AllK
import Wide.FinOn
import Lean
import PyProof.EqAt
import PyProof.EqKinds
import PyProof.TupleCall
import PyProof.NeData
import PyProof.WalksEnum
import PyProof.Rows.SortWalk
import PyProof.Rows.SetFrom
import PyProof.SetKind
import PyProof.SetRoads
import PyProof.Tail
import PyProof.FactsAll.set_2
import KE.KRevIter
import PyProof.Rows.StrWeight2
import PyProof.Rows.StrNews2
import PyProof.CallStr
import PyProof.FString
import PyProof.StrBlockH
import PyProof.SliceStr2
import KE.KIntText
import PySem.Challenge.RW_waxcloth_k25_whole_fewest_boilings
abbrev xa:=@Bool.and_eq_true
abbrev xb:=@List.getElem?_eq_getElem
abbrev xc:=@List.getElem?_eq_some_iff
abbrev xf:=@List.getElem?_append_left
abbrev xg:=@List.getElem?_append_right
abbrev xh:=@List.getElem?_map
abbrev xi:=@List.length_map
abbrev xj:=@List.getElem?_eq_none
abbrev xk:=@List.length_cons
abbrev xl:=@List.mem_cons_of_mem
abbrev xm:=@Nat.le_refl
abbrev xn:=@List.mem_map
abbrev xo:=@List.mem_cons
abbrev xp:=@List.size_toArray
abbrev xq:=@List.mem_append_left
abbrev xr:=@List.mem_filter
abbrev xt:=@List.getElem?_set_self
abbrev xu:=@Nat.ne_of_lt
abbrev xv:=@List.getElem?_set_ne
abbrev xw:=@List.length_append
abbrev xy:=@Nat.lt_of_lt_of_le
abbrev xz:=@List.mem_cons_self
abbrev xA:=@List.all_eq_true
abbrev xB:=@List.mem_append_right
abbrev xC:=@List.nodup_cons
abbrev xD:=@List.lookup_cons
abbrev xE:=@List.mem_range
abbrev xF:=@List.filterMap_cons
abbrev xG:=@Bool.false_eq_true
abbrev xH:=@List.flatten_cons
abbrev xI:=@List.map_cons
abbrev xJ:=@List.mem_append
abbrev xK:=@List.length_range
abbrev xL:=@Bool.or_eq_true
abbrev xM:=@Nat.le_trans
abbrev xN:=@List.mem_of_getElem?
abbrev xO:=@List.filter_append
abbrev xP:=@Bool.eq_iff_iff
abbrev xQ:=@List.getElem?_replicate
abbrev xR:=@List.range_succ
abbrev xS:=@List.length_filter_le
abbrev xT:=@List.getElem_mem
abbrev xU:=@List.ext_getElem?
abbrev xV:=@List.map_append
abbrev xW:=@List.length_take
abbrev xX:=@List.getElem?_take_of_lt
abbrev xY:=@List.getElem?_range
abbrev xZ:=@List.contains_iff_mem
abbrev ua:=@Array.getD_eq_getD_getElem?
abbrev uc:=@Nat.lt_irrefl
abbrev ud:=@List.append_nil
abbrev ue:=@Nat.zero_add
abbrev uf:=@List.length_nil
abbrev ug:=@List.replicate_succ
abbrev uh:=@List.getElem_of_mem
abbrev ui:=@Nat.zero_le
abbrev uj:=@List.pairwise_iff_getElem
abbrev uk:=@List.nodup_append
abbrev ul:=@List.length_set
abbrev um:=@Option.map_some
abbrev uo:=@List.length_pos_iff
abbrev uq:=@Nat.le_of_lt
abbrev ur:=@List.mem_of_find?_eq_some
abbrev ut:=@List.getElem?_of_mem
abbrev uu:=@List.pairwise_map
abbrev uv:=@List.map_congr_left
abbrev uw:=@List.take_length
abbrev ux:=@List.getElem?_cons_succ
abbrev uy:=@List.not_mem_nil
abbrev uz:=@Bool.false_ne_true
abbrev uA:=@List.mem_filterMap
abbrev uB:=@Int.emod_lt_of_pos
abbrev uC:=@List.foldl_cons
abbrev uD:=@List.nil_append
abbrev uE:=@List.all_cons
abbrev uF:=@List.any_cons
abbrev uG:=@List.length_replicate
abbrev uH:=@List.take_add_one
abbrev uI:=@Option.isSome_iff_exists
abbrev uJ:=@Bool.not_true
abbrev uK:=@List.elem_iff
abbrev uL:=@List.find?_some
abbrev uM:=@Int.emod_nonneg
abbrev uN:=@List.filter_map
abbrev uO:=@List.mem_singleton
abbrev uP:=@List.length_eq_zero_iff
abbrev uQ:=@Nat.lt_trichotomy
abbrev uR:=@Nat.lt_succ_of_lt
abbrev uS:=@List.any_map
abbrev uT:=@List.cons_append
abbrev uU:=@Nat.lt_succ_self
abbrev uV:=@List.nodup_range
abbrev uW:=@Option.bind_some
abbrev uX:=@List.filter_cons
abbrev uY:=@List.any_eq_true
abbrev uZ:=@Nat.lt_or_ge
set_option Elab.async false
set_option linter.all false
set_option maxRecDepth 100000
namespace L2
open PySem PySem.Spec PyProof.Rows
noncomputable abbrev Key:=Sum Int Str
noncomputable def zfq:Key->Value->Bool
 |.inl k,v=>Value.isInt k v
 |.inr x,v=>Value.isStrOf x v
noncomputable def keyH(w:World):Key->Int
 |.inl k=>hashInt k
 |.inr x=>hashStr w x
theorem zX:∀ {k:Key}{v:Value},zfq k v=true->(∃ i t,k=Sum.inl i/\v=Value.int i t)∨(∃ x t,k=Sum.inr x/\v=Value.str x t)
 |.inl i,v,h=>by
  obtain⟨t,e⟩:=Value.isInt_shape (k:=i) (v:=v) h
  exact .inl ⟨i,t,rfl,e⟩
 |.inr x,v,h=>by
  obtain⟨t,e⟩:=Value.isStrOf_shape (x:=x) (v:=v) h
  exact .inr ⟨x,t,rfl,e⟩
theorem zhh(a b:Int):decide ((Sum.inl a:Key)=Sum.inl b)=(a==b):=by
 by_cases e:a=b
 ·subst e;simp
 ·have h:¬ (Sum.inl a:Key)=Sum.inl b:=fun q=>e (Sum.inl.inj q)
  rw[decide_eq_false h]
  exact (beq_eq_false_iff_ne.mpr e).symm
theorem zgo(a b:Str):decide ((Sum.inr a:Key)=Sum.inr b)=decide (a=b):=by
 by_cases e:a=b
 ·subst e;simp
 ·have h:¬ (Sum.inr a:Key)=Sum.inr b:=fun q=>e (Sum.inr.inj q)
  rw[decide_eq_false h,decide_eq_false e]
theorem zhc(a:Int)(b:Str):decide ((Sum.inl a:Key)=Sum.inr b)=false:=decide_eq_false (fun q=>nomatch q)
theorem zgn(a:Str)(b:Int):decide ((Sum.inr a:Key)=Sum.inl b)=false:=decide_eq_false (fun q=>nomatch q)
noncomputable def Vt(prog:Program)(w:World):PySem.KeyKind prog w Key where
 is:=zfq
 hash:=keyH w
 inj:=fun v a b ha hb=>by
  rcases zX ha with ⟨i,t,rfl,rfl⟩ | ⟨x,t,rfl,rfl⟩
  ·rcases zX hb with ⟨j,u,rfl,e⟩ | ⟨y,u,rfl,e⟩
   ·injection e with e1 _;rw[e1]
   ·exact nomatch e
  ·rcases zX hb with ⟨j,u,rfl,e⟩ | ⟨y,u,rfl,e⟩
   ·exact nomatch e
   ·injection e with e1 _;rw[e1]
 byValue:=fun k v h=>by
  rcases zX h with ⟨i,t,rfl,rfl⟩ | ⟨x,t,rfl,rfl⟩<;>rfl
 pyHash:=fun hv h=>by
  rcases zX hv with ⟨i,t,rfl,rfl⟩ | ⟨x,t,rfl,rfl⟩
  ·exact wpAny_pyHash_int h
  ·exact wpAny_pyHash_str h
 eqBool:=fun hu hv h=>by
  rcases zX hu with ⟨i,t,rfl,rfl⟩ | ⟨x,t,rfl,rfl⟩
  ·rcases zX hv with ⟨j,u,rfl,rfl⟩ | ⟨y,u,rfl,rfl⟩
   ·rw[zhh]at h;exact wpAny_eqBool_int h
   ·rw[zhc]at h;exact SeqAt.EqAt.int_str i t y u _ _ _ _ h
  ·rcases zX hv with ⟨j,u,rfl,rfl⟩ | ⟨y,u,rfl,rfl⟩
   ·rw[zgn]at h;exact SeqAt.EqAt.str_int x t j u _ _ _ _ h
   ·rw[zgo]at h;exact wpAny_eqBool_str h
 «strs»:=fun k x t v h=>by
  rcases zX h with ⟨i,u,rfl,e⟩ | ⟨y,u,rfl,e⟩
  ·exact nomatch e
  ·injection e with e1 _
   subst e1
   cases v<;>rfl
end L2
namespace L2
open PySem PySem.Spec PyProof.Rows
inductive V where
 |non | bl (b:Bool) | int (i:Int) | str (x:Str) | byt (b:Array UInt8) | flt (b:UInt64) | ref (a:Addr) | ty (n:String)
 deriving DecidableEq
noncomputable def RelV:V->Value->Prop
 |.non,u=>u=Value.none
 |.bl b,u=>u=Value.bool b
 |.int i,u=>∃ t,u=Value.int i t
 |.str x,u=>∃ t,u=Value.str x t
 |.byt b,u=>∃ t,u=Value.bytes b t
 |.flt b,u=>∃ t,u=Value.float b t
 |.ref a,u=>u=Value.ref a
 |.ty n,u=>u=Value.type n
noncomputable abbrev Vals:List V->List Value->Prop:=Paired RelV
theorem Vals.length{xs:List V}{us:List Value}(r:Vals xs us):xs.length=us.length:=Paired.length r
theorem Vals.get:∀ {xs:List V}{us:List Value}{i:Nat}{x:V},Vals xs us->xs[i]?=some x->∃ u,us[i]?=some u/\RelV x u
 |_,_,_,_,.nil,e=>by simp at e
 |_,_,0,_,.cons r _,e=>by simp at e;subst e;exact⟨_,rfl,r⟩
 |_,_,i+1,x,.cons _ t,e=>by
  obtain⟨u,h1,h2⟩:=Vals.get (i:=i) (x:=x) t (by simpa using e)
  exact⟨u,by simpa using h1,h2⟩
theorem Vals.set{x:V}{u:Value}(r:RelV x u):∀ {xs:List V}{us:List Value}(i:Nat),Vals xs us->Vals (xs.set i x) (us.set i u)
 |_,_,_,.nil=>.nil
 |_,_,0,.cons _ t=>.cons r t
 |_,_,i+1,.cons q t=>.cons q (Vals.set r i t)
theorem Vals.append:∀ {xs ys:List V}{us ws:List Value},Vals xs us->Vals ys ws->Vals (xs++ys) (us++ws)
 |_,_,_,_,.nil,s=>s
 |_,_,_,_,.cons r t,s=>.cons r (Vals.append t s)
theorem Vals.take:∀ {xs:List V}{us:List Value}(n:Nat),Vals xs us->Vals (xs.take n) (us.take n)
 |_,_,0,_=>.nil
 |_,_,_+1,.nil=>.nil
 |_,_,n+1,.cons r t=>.cons r (Vals.take n t)
theorem Vals.drop:∀ {xs:List V}{us:List Value}(n:Nat),Vals xs us->Vals (xs.drop n) (us.drop n)
 |_,_,0,r=>r
 |_,_,_+1,.nil=>.nil
 |_,_,n+1,.cons _ t=>Vals.drop n t
noncomputable def zf0:Option V->Option Value->Prop
 |some v,some u=>RelV v u
 |none,none=>True
 |_,_=>False
noncomputable def KV{κ:Type}:List (κ×V)->List (κ×Value)->Prop:=Paired fun (p:κ×V) (q:κ×Value)=>p.1=q.1/\RelV p.2 q.2
noncomputable def kV:Key->V
 |.inl i=>.int i
 |.inr x=>.str x
inductive HO where
 /-- a list -/
 |lst (xs:List V)
 /-- a tuple (never changes) -/
 |tup (xs:List V)
 /-- a dict whose keys are ints and texts;one whose keys are tuples of ints and texts (the empty one is qD) -/
 |dK (kvs:List (Key×V)) | dT (kvs:List (List Key×V))
 /-- a set of ints: its members,its size -/
 |set (S:Int->Bool) (n:Nat)
 /-- an instance of the class at C,its dict at dx,its attributes -/
 |ins (C dx:Addr) (fs:List (Str×V))
 /-- the dict of the instance at x -/
 |own (x:Addr)
 /-- the dict of an exception -/
 |xd (fs:List (Str×V))
 /-- a bound method,f of x -/
 |met (f x:Addr)
 /-- a range object lo,lo+1,.. below hi -/
 |rng (lo hi:Int)
 /-- a thing that is known to the object (the script;a dict while a loop walks it): read,never written while it is so -/
 |frz (o:Obj) (u:HO)
 /-- a code object's table -/
 |tbl (ps:Array Value)
 /-- any other thing,by what is true of its one object (a def of one's own: SetO a S n:=HO.ext fun h=>..) -/
 |ext (φ:Heap->Prop)
noncomputable abbrev Hp:=Addr->Option HO
noncomputable def upd(H:Hp)(a:Addr)(o:HO):Hp:=fun b=>if b=a then some o else H b
theorem zA{H:Hp}{a:Addr}{o:HO}:upd H a o a=some o:=by unfold upd;rw[if_pos rfl]
theorem zo{H:Hp}{a b:Addr}{o:HO}(h:b≠a):upd H a o b=H b:=by unfold upd;rw[if_neg h]
theorem zh4{H:Hp}{a b:Addr}{o u:HO}(h:H a=some o)(h':H b=some u)(d:o≠u):a≠b:=by
 intro e;subst e;rw[h]at h';exact d (Option.some.inj h')
theorem zV{H:Hp}{a b:Addr}{o:HO}(h:H a=some o)(h':H b=none):a≠b:=by
 intro e;subst e;rw[h]at h';cases h'
section
variable (P:Program) (w:World)
noncomputable def ObjOk(H:Hp)(h:Heap)(a:Addr):HO->Prop
 |.lst xs=>xs.length<=sizeLine/\∃ (its:List Value) (n:Nat),Vals xs its/\h.get? a=some { cls:=.type "list",data:=.seq its.toArray n }
 |.tup xs=>xs.length<=sizeLine/\∃ its:List Value,Vals xs its/\IsTup h a its.toArray
 |.dK kvs=>kvs.length<=sizeLine/\(a==sysModules)=false/\∃ vs,KV kvs vs/\h.DictOf (Vt P w) a vs
 |.dT kvs=>kvs.length<=sizeLine/\(a==sysModules)=false/\∃ xs:List (List Key×Addr×Value),
   Paired (fun (p:List Key×V) (q:List Key×Addr×Value)=>p.1=q.1/\H q.2.1=some (.tup (p.1.map kV))/\RelV p.2 q.2.2) kvs xs /\
   ∃ o es ep,h.get? a=some o/\o.ExactDict/\o.data=.dict es ep/\es.toList=xs.map (entryOfKey (tupleKind (Vt P w)))/\(xs.map (·.1)).Nodup
 |.set S n=>h.SetOf (intKind P w) a S n
 |.ins C dx fs=>H dx=some (.own a)/\fs.length<=1000/\dx≠a/\h.get? a=some (PySem.W.instObj C dx) /\
   ∃ mA,h.Ns1 dx mA/\(∀ f,zf0 (fs.lookup f) (mA f))/\PySem.Within mA (fs.map (·.1))
 |.own _=>∃ o,h.get? a=some o
 |.xd fs=>∃ mA,h.Ns1 a mA/\∀ f,zf0 (fs.lookup f) (mA f)
 |.rng lo hi=>∃ t u v,h.get? a=some { cls:=.type "range",data:=.fields #[.int lo t,.int hi u,.int 1 v] }
 |.frz o u=>h.get? a=some o/\ObjOk H h a u
 |.tbl ps=>h.get? a=some { cls:=.none,data:=.fields ps }
 |.met f x=>h.get? a=some (PySem.W.methodObj (.ref f) (.ref x))
 |.ext φ=>φ h/\(∃ o,h.get? a=some o)/\∀ h1 h2:Heap,φ h1->(∀ o,h1.get? a=some o->h2.get? a=some o)->φ h2
noncomputable def HOk(H:Hp)(h:Heap):Prop:=∀ a o,H a=some o->ObjOk P w H h a o
end
section
variable {P:Program} {w:World} {H H':Hp} {h h':Heap} {a:Addr} {o:HO}
theorem ObjOk.lt(x:ObjOk P w H h a o):a<h.objs.size:=by
 cases o with
 |lst xs=>obtain⟨_,_,_,_,e⟩:=x;exact Heap.lt_size e
 |tup xs=>obtain⟨_,_,_,p⟩:=x;exact p.lt
 |dK kvs=>obtain⟨_,_,_,_,o,_,_,e,_⟩:=x;exact Heap.lt_size e
 |dT kvs=>obtain⟨_,_,_,_,o,_,_,e,_⟩:=x;exact Heap.lt_size e
 |set S n=>obtain⟨o,_,_,_,e,_⟩:=x;exact Heap.lt_size e
 |ins C dx fs=>obtain⟨_,_,_,e,_⟩:=x;exact Heap.lt_size e
 |own y=>obtain⟨_,e⟩:=x;exact Heap.lt_size e
 |xd fs=>obtain⟨_,⟨_,_,_,e,_⟩,_⟩:=x;exact Heap.lt_size e
 |rng lo hi=>obtain⟨_,_,_,e⟩:=x;exact Heap.lt_size e
 |frz ob u=>obtain⟨e,_⟩:=x;exact Heap.lt_size e
 |tbl ps=>exact Heap.lt_size (show h.get? a=some _ from x)
 |met f y=>exact Heap.lt_size (show h.get? a=some _ from x)
 |ext φ=>obtain⟨_,⟨_,e⟩,_⟩:=x;exact Heap.lt_size e
theorem Paired.mapP{α β:Type}{F G:α->β->Prop}:∀ {l₁:List α} {l₂:List β},Paired F l₁ l₂->(∀ a b,F a b->G a b)->Paired G l₁ l₂
 |_,_,.nil,_=>.nil
 |_,_,.cons r t,f=>.cons (f _ _ r) (Paired.mapP t f)
theorem ObjOk.stay(x:ObjOk P w H h a o)(k:∀ b u,(b=a∨H b=some (.own a))->h.get? b=some u->h'.get? b=some u)
  (ho:∀ b,H b=some (.own a)->H' b=some (.own a)) (ht:∀ b xs,H b=some (.tup xs)->H' b=some (.tup xs)):ObjOk P w H' h' a o:=by
 induction o with
 |lst xs=>obtain⟨z,its,n,r,e⟩:=x;exact⟨z,its,n,r,k _ _ (.inl rfl) e⟩
 |tup xs=>obtain⟨z,its,r,ob,e,c⟩:=x;exact⟨z,its,r,ob,k _ _ (.inl rfl) e,c⟩
 |dK kvs=>obtain⟨z,y,vs,r,ob,es,ep,e,c⟩:=x;exact⟨z,y,vs,r,ob,es,ep,k _ _ (.inl rfl) e,c⟩
 |dT kvs=>
  obtain⟨z,y,xs,r,ob,es,ep,e,c⟩:=x
  exact⟨z,y,xs,Paired.mapP r fun p q z=>⟨z.1,ht _ _ z.2.1,z.2.2⟩,ob,es,ep,k _ _ (.inl rfl) e,c⟩
 |set S n=>obtain⟨ob,es,ep,t,e,c⟩:=x;exact⟨ob,es,ep,t,k _ _ (.inl rfl) e,c⟩
 |ins C dx fs=>
  obtain⟨d,z,ne,e,mA,⟨od,es,ep,e2,c⟩,r⟩:=x
  exact⟨ho _ d,z,ne,k _ _ (.inl rfl) e,mA,⟨od,es,ep,k _ _ (.inr d) e2,c⟩,r⟩
 |own y=>obtain⟨ob,e⟩:=x;exact⟨ob,k _ _ (.inl rfl) e⟩
 |xd fs=>obtain⟨mA,⟨od,es,ep,e,c⟩,r⟩:=x;exact⟨mA,⟨od,es,ep,k _ _ (.inl rfl) e,c⟩,r⟩
 |rng lo hi=>obtain⟨t,u,v,e⟩:=x;exact⟨t,u,v,k _ _ (.inl rfl) e⟩
 |frz ob u ih=>obtain⟨e,q⟩:=x;exact⟨k _ _ (.inl rfl) e,ih q⟩
 |tbl ps=>
  have e:h.get? a=some { cls:=.none,data:=.fields ps }:=x
  show h'.get? a=some { cls:=.none,data:=.fields ps }
  exact k a _ (.inl rfl) e
 |met f y=>
  have e:h.get? a=some (PySem.W.methodObj (.ref f) (.ref y)):=x
  show h'.get? a=some (PySem.W.methodObj (.ref f) (.ref y))
  exact k a _ (.inl rfl) e
 |ext φ=>obtain⟨p,⟨o,e⟩,st⟩:=x;exact⟨st _ _ p fun o q=>k _ _ (.inl rfl) q,⟨o,k _ _ (.inl rfl) e⟩,st⟩
theorem HOk.lt(x:HOk P w H h)(e:H a=some o):a<h.objs.size:=(x a o e).lt
theorem HOk.fresh(x:HOk P w H h)(e:h.objs.size<=a):H a=none:=by
 cases q:H a with
 |none=>rfl
 |some u=>exact absurd (xy (x.lt q) e) (uc _)
theorem HOk.kept(x:HOk P w H h)(k:∀ b u,h.get? b=some u->h'.get? b=some u):HOk P w H h':=fun a o e=>
 (x a o e).stay (fun b u _ q=>k b u q) (fun _ q=>q) fun _ _ q=>q
theorem HOk.laid(x:HOk P w H h)(k:∀ b u,h.get? b=some u->h'.get? b=some u)(hp:h.objs.size<=a)(new:ObjOk P w (upd H a o) h' a o):HOk P w (upd H a o) h':=fun b u e=>by
 have hn:=x.fresh hp
 by_cases hb:b=a
 ·subst hb;rw[zA]at e;cases e;exact new
 ·rw[zo hb]at e
  exact (x b u e).stay (fun c v _ q=>k c v q) (fun c q=>by rw[zo (zV q hn)];exact q) fun c xs q=>by rw[zo (zV q hn)];exact q
end
noncomputable def Rd(H:Hp)(a:Addr)(u:HO):Prop:=H a=some u∨∃ o,H a=some (.frz o u)
theorem Rd.ok{P:Program}{w:World}{H:Hp}{h:Heap}{a:Addr}{u:HO}(r:Rd H a u)(x:HOk P w H h):ObjOk P w H h a u:=by
 rcases r with r | ⟨o,r⟩
 ·exact x a u r
 ·obtain⟨_,q⟩:=x a _ r
  exact q
noncomputable def Mut:Option HO->Prop
 |some (.lst _)=>True
 |some (.dK _)=>True
 |some (.dT _)=>True
 |some (.set _ _)=>True
 |some (.ins _ _ _)=>True
 |some (.ext _)=>True
 |_=>False
section
variable {P:Program} {w:World} {H:Hp} {h h':Heap} {x e:Addr} {o':HO}
theorem HOk.write(ok:HOk P w H h)(mu:Mut (H x))(he:e=x∨H e=some (.own x))(k:∀ b u,b≠e->h.get? b=some u->h'.get? b=some u)(heo:∃ u,h'.get? e=some u)
  (new:ObjOk P w (upd H x o') h' x o'):HOk P w (upd H x o') h':=fun b u q=>by
 have nown:∀ c y,H c=some (.own y)->c≠x:=fun c y r z=>by subst z;rw[r]at mu;exact mu
 have ntup:∀ c xs,H c=some (.tup xs)->c≠x:=fun c xs r z=>by subst z;rw[r]at mu;exact mu
 by_cases hb:b=x
 ·subst hb;rw[zA]at q;cases q;exact new
 ·rw[zo hb]at q
  by_cases hbe:b=e
  ·have q':H b=some (.own x):=by
    rcases he with z | z
    ·exact absurd (hbe.trans z) hb
    ·rw[hbe];exact z
   rw[q]at q';cases q'
   obtain⟨v,hv⟩:=heo
   exact⟨v,by rw[hbe];exact hv⟩
  ·refine (ok b u q).stay (fun c v hc r=>k c v ?_ r) (fun c r=>by rw[zo (nown c b r)];exact r) fun c xs r=>by rw[zo (ntup c xs r)];exact r
   rcases hc with rfl | hc
   ·exact hbe
   ·rintro rfl
    rcases he with z | z
    ·exact nown c b hc z
    ·rw[hc]at z;cases z;exact hb rfl
end
structure Un(fs ex:List Addr)(H H':Hp)(h h':Heap):Prop where
 keep:∀ b o,h.get? b=some o->H b=none->b∉fs->b∉ex->h'.get? b=some o
 slot:∀ b o,h.get? b=some o->H b=none->b∈fs->b∉ex->∃ sl,h'.get? b=some { o with slots:=sl }
 free:∀ b o,h.get? b=some o->H b=none->b∉ex->H' b=none
 there:∀ b o,h.get? b=some o->b∉ex->∃ o',h'.get? b=some o'
 tups:∀ b xs,H b=some (.tup xs)->H' b=some (.tup xs)
 frzs:∀ b o u,H b=some (.frz o u)->H' b=some (.frz o u)
 tbls:∀ b ps,H b=some (.tbl ps)->∃ more,H' b=some (.tbl (ps++more))
section
variable {fs fs' ex ex':List Addr} {H H1 H2:Hp} {h h1 h2 h':Heap} {a x e:Addr} {o:HO}
theorem Un.any(u:Un fs ex H H1 h h1){b:Addr}{ob:Obj}(q:h.get? b=some ob)(n:H b=none)(hx:b∉ex):∃ sl,h1.get? b=some { ob with slots:=sl }:=by
 by_cases hb:b∈fs
 ·exact u.slot b ob q n hb hx
 ·exact⟨ob.slots,u.keep b ob q n hb hx⟩
theorem Un.kept(k:∀ b u,h.get? b=some u->h'.get? b=some u):Un fs ex H H h h' :=
 ⟨fun b ob q _ _ _=>k b ob q,fun b ob q _ _ _=>⟨ob.slots,k b ob q⟩,fun _ _ _ n _=>n,fun b ob q _=>⟨ob,k b ob q⟩,fun _ _ q=>q,fun _ _ _ q=>q,fun _ ps q=>⟨#[],by rw[q];simp⟩⟩
theorem Un.refl:Un fs ex H H h h:=Un.kept fun _ _ q=>q
theorem Un.laid(k:∀ b u,h.get? b=some u->h'.get? b=some u)(hp:h.objs.size<=a)(hn:H a=none):Un fs ex H (upd H a o) h h' where
 keep:=fun b u q _ _ _=>k b u q
 slot:=fun b u q _ _ _=>⟨u.slots,k b u q⟩
 free:=fun b u q n _=>by rw[zo (xu (xy (Heap.lt_size q) hp))];exact n
 there:=fun b u q _=>⟨u,k b u q⟩
 tups:=fun b xs q=>by rw[zo (zV q hn)];exact q
 frzs:=fun b u xs q=>by rw[zo (zV q hn)];exact q
 tbls:=fun b ps q=>⟨#[],by rw[zo (zV q hn),q];simp⟩
theorem Un.write(mu:Mut (H x))(he:e=x∨H e=some (.own x))(k:∀ b u,b≠e->h.get? b=some u->h'.get? b=some u)(heo:∃ u,h'.get? e=some u):Un fs ex H (upd H x o) h h':=by
 have hx:∀ b,H b=none->b≠x:=fun b n z=>by subst z;rw[n]at mu;exact mu
 have hb:∀ b,H b=none->b≠e:=fun b n z=>by
  subst z
  rcases he with r | r
  ·exact hx b n r
  ·rw[n]at r;cases r
 have hm:∀ b u,H b=some u->¬ Mut (some u)->b≠x:=fun b u q nm z=>by subst z;rw[q]at mu;exact nm mu
 refine⟨fun b u q n _ _=>k b u (hb b n) q,fun b u q n _ _=>⟨u.slots,k b u (hb b n) q⟩,fun b u q n _=>by rw[zo (hx b n)];exact n,fun b u q _=>?_,
  fun b xs q=>by rw[zo (hm b _ q fun z=>z)];exact q,fun b u xs q=>by rw[zo (hm b _ q fun z=>z)];exact q,fun b ps q=>⟨#[],by rw[zo (hm b _ q fun z=>z),q];simp⟩⟩
 by_cases hbe:b=e
 ·subst hbe;exact heo
 ·exact⟨u,k b u hbe q⟩
end
noncomputable def trk(h:Heap)(H:Hp):List Addr:=(List.range h.objs.size).filter fun a=>(H a).isSome
noncomputable def Vk(h:Heap)(H:Hp):Heap:=PySem.W.hideAll h (trk h H)
theorem K3(h:Heap)(H:Hp):(Vk h H).objs.size=h.objs.size:=PySem.W.hideAll_size _ _
theorem zcv{h:Heap}{H:Hp}{b:Addr}{o:Obj}(e:h.get? b=some o)(n:H b=none):(Vk h H).get? b=some o :=
 PySem.W.hideAll_get _ e fun hm=>by
  have q:(H b).isSome=true:=(xr.mp hm).2
  rw[n]at q;simp at q
theorem zeY{h:Heap}{H:Hp}{b:Addr}{o:Obj}(e:(Vk h H).get? b=some o):h.get? b=some o/\H b=none:=by
 have e':h.get? b=some o:=PySem.W.of_hideAll (trk h H) e
 refine⟨e',?_⟩
 cases q:H b with
 |none=>rfl
 |some x=>
  have hm:b∈trk h H:=xr.mpr ⟨xE.mpr (Heap.lt_size e'),by simp[q]⟩
  have z:(Vk h H).get? b=none:=PySem.W.hideAll_none (trk h H) hm
  rw[z]at e;cases e
end L2
namespace L2
open PySem PySem.Spec PyProof.Rows
structure Mod(K:PySem.W.Frag)(mg:Str->Option Value)(base:Heap):Prop where
 kin:K.In base
 glob:base.Ns mainGlobals mg
 blt:∃ mb,base.Ns builtinsNs mb/\∀ x:Str,x≠ "__name__" ->mb x=bootBuiltins x
 nolimit:base.NoLimit
structure Cx where
 prog:Program
 w:World
 K:PySem.W.Frag
 mg:Str->Option Value
 base:Heap
 A:Around
 N:List Str
 s₀:Shared
 H₀:Hp
 env:Env
 outer:List Env
 stack:List Env
 ex:List Addr
 fn:Str->Bool
 calm:Bool
 pn:List (Addr×Obj)
 xe:Value->Shared->Prop
noncomputable def frs(l:List Env):List Addr:=l.filterMap (·.frame)
noncomputable abbrev Cx.fs(X:Cx):List Addr:=frs X.outer
noncomputable def Vis(sc:Scope)(x:Str):Prop:=sc.names.lookup x=some .local∨sc.names.lookup x=some .cell∨sc.names.lookup x=some .free
noncomputable def Loc(sc:Scope)(x:Str):Prop:=sc.names.lookup x=some .local∨sc.names.lookup x=some .cell
noncomputable def Look(env:Env)(h:Heap)(m:Str->Option Value)(x:Str)(u:Value):Prop :=
 (env.kindOf x=some .local/\m x=some u)∨((env.kindOf x=some .cell∨env.kindOf x=some .free)/\∃ c,env.cells.lookup x=some c/\h.IsCell c (some u))
structure Cx.Ok(X:Cx):Prop where
 mod:Mod X.K X.mg X.base
 kind:X.env.scope.kind=.function
 glob:X.env.globals=mainGlobals
 blt:X.env.builtins=builtinsNs
 above:X.s₀.heap.objs.size<=X.env.locals
 inj:∀ x y c,X.env.cells.lookup x=some c->X.env.cells.lookup y=some c->x=y
 has:∀ x,(X.env.kindOf x=some .cell∨X.env.kindOf x=some .free)->∃ c,X.env.cells.lookup x=some c
 cab:∀ x c,X.fn x=true->X.env.cells.lookup x=some c->X.s₀.heap.objs.size<=c
 hd:X.calm=true->X.A.handled=none
 frames:X.A.frames=some X.stack
 stk:X.stack=X.outer∨(X.stack=X.env::X.outer/\X.env.frame=some X.env.locals)
 exf:∀ b∈X.ex,b≠X.env.locals/\∀ x c,X.env.cells.lookup x=some c->c≠b
 bs:∀ b o,X.base.get? b=some o->X.s₀.heap.get? b=some o/\X.H₀ b=none
 bsz:X.base.objs.size<=X.s₀.heap.objs.size
 noex:∀ b o,X.base.get? b=some o->b∉X.ex
 exfs:∀ b∈X.ex,b∉X.fs
 funs:X.s₀.heap.FunFrames X.base X.outer
 frf:∀ b∈X.fs,X.H₀ b=none
structure Inv(X:Cx)(pins:List (Addr×Obj))(σ:List (Option V))(H:Hp)(s:Shared):Prop where
 ok:X.Ok
 os:s.os=X.s₀.os
 bare:AllBare s.gens
 base:Un X.fs X.ex X.H₀ H X.s₀.heap s.heap
 loc:∃ m,s.heap.Ns X.env.locals m/\∀ (i:Nat) (x:Str) (v:V),X.N[i]?=some x->σ[i]?=some (some v)->Vis X.env.scope x->∃ u,RelV v u/\Look X.env s.heap m x u
 cell:∀ x c,X.env.cells.lookup x=some c->∃ v,s.heap.IsCell c v
 free:H X.env.locals=none
 freeC:∀ x c,X.env.cells.lookup x=some c->H c=none
 pin:∀ p∈X.pn++pins,s.heap.get? p.1=some p.2/\H p.1=none/\p.1≠X.env.locals/\p.1∉X.fs/\∀ v,p.2.data≠ .cell v
 hok:HOk X.prog X.w H s.heap
 len:σ.length=X.N.length
section
variable {X:Cx} {pins:List (Addr×Obj)} {σ:List (Option V)} {H H':Hp} {s:Shared} {h':Heap}
theorem Cx.Ok.nofr(ok:X.Ok){b:Addr}{o:Obj}(e:X.base.get? b=some o):b∉X.fs:=fun hb=>by
 have:=(ok.funs.mem hb).1
 rw[e]at this;cases this
theorem Inv.bs(I:Inv X pins σ H s):∀ b o,X.base.get? b=some o->s.heap.get? b=some o/\H b=none:=fun b o e=>
 ⟨I.base.keep b o (I.ok.bs b o e).1 (I.ok.bs b o e).2 (I.ok.nofr e) (I.ok.noex b o e),I.base.free b o (I.ok.bs b o e).1 (I.ok.bs b o e).2 (I.ok.noex b o e)⟩
theorem Inv.bk(I:Inv X pins σ H s):∀ b o,X.base.get? b=some o->s.heap.get? b=some o:=fun b o e=>(I.bs b o e).1
theorem Inv.mod(I:Inv X pins σ H s):Mod X.K X.mg X.base:=I.ok.mod
theorem Inv.kIn(I:Inv X pins σ H s):X.K.In s.heap:=I.ok.mod.kin.keeps I.bk
theorem Inv.fr(I:Inv X pins σ H s):∃ m,Fr X.base X.env.locals s.heap m :=
 let ⟨m,hn,_⟩:=I.loc
 ⟨m,hn,I.bk,xM I.ok.bsz I.ok.above⟩
theorem Inv.lt(I:Inv X pins σ H s):X.env.locals<s.heap.objs.size:=let ⟨_,hn,_⟩:=I.loc;hn.lt
theorem Inv.sz(I:Inv X pins σ H s):X.s₀.heap.objs.size<=s.heap.objs.size:=xM I.ok.above (uq I.lt)
theorem Inv.nofs(I:Inv X pins σ H s){a:Addr}(h:s.heap.objs.size<=a):a∉X.fs:=fun hb=>by
 obtain⟨_,o,ho,_⟩:=I.ok.funs.mem hb
 exact absurd (xy (Heap.lt_size ho) (xM I.sz h)) (uc _)
theorem Inv.cne(I:Inv X pins σ H s):∀ x c,X.env.cells.lookup x=some c->c≠X.env.locals:=fun x c e z=>by
 obtain⟨v,o,ho,hd⟩:=I.cell x c e
 obtain⟨m,⟨o',es,ep,ho',hd',_⟩,_⟩:=I.loc
 rw[z,ho']at ho;cases ho;rw[hd']at hd;cases hd
theorem Inv.funs(I:Inv X pins σ H s):s.heap.FunFrames X.base X.outer:=by
 have all:∀ (l:List Env),(∀ b∈frs l,b∈X.fs)->X.s₀.heap.FunFrames X.base l->s.heap.FunFrames X.base l:=by
  intro l
  induction l with
  |nil=>intro _ _;trivial
  |cons env r ih=>
   intro hs hl
   obtain⟨hk,⟨L,o,hf,hn,ho,hd⟩,hr⟩:=hl
   have hL:L∈X.fs:=hs L (by unfold frs;rw[xF,hf];exact xz)
   obtain⟨sl,e⟩:=I.base.slot L o ho (I.ok.frf L hL) hL fun z=>I.ok.exfs L z hL
   exact⟨hk,⟨L,_,hf,hn,e,hd⟩,ih (fun b hb=>hs b (by unfold frs;rw[xF,hf];exact xl _ hb)) hr⟩
 exact all X.outer (fun _ hb=>hb) I.ok.funs
theorem Inv.stack(I:Inv X pins σ H s):s.heap.FunFrames X.base X.stack:=by
 rcases I.ok.stk with e | ⟨e,hf⟩
 ·rw[e];exact I.funs
 ·rw[e]
  obtain⟨m,hn,_⟩:=I.loc
  refine .cons (by rw[I.ok.kind];decide) hf hn ?_ I.funs
  exact Heap.get?_none_of_le (xM I.ok.bsz I.ok.above)
theorem Inv.stkSub(I:Inv X pins σ H s):∀ b∈frs X.stack,b∈X.env.locals::X.fs:=fun b hb=>by
 rcases I.ok.stk with e | ⟨e,hf⟩
 ·rw[e]at hb;exact xl _ hb
 ·rw[e]at hb
  unfold frs at hb
  rw[xF,hf]at hb
  exact hb
theorem Inv.stkFree(I:Inv X pins σ H s):∀ b∈frs X.stack,H b=none:=fun b hb=>by
 rcases xo.mp (I.stkSub b hb)with e | hb
 ·rw[e];exact I.free
 ·obtain⟨_,o,ho,_⟩:=I.ok.funs.mem hb
  exact I.base.free b o ho (I.ok.frf b hb) fun z=>I.ok.exfs b z hb
theorem Inv.step{g':Array GenState}{t':Nat}{d':Drawn}{ch:List Addr}(I:Inv X pins σ H s)
  (hch:∀ b∈ch,(b∈X.ex∨X.s₀.heap.objs.size<=b)/\b≠X.env.locals/\(∀ x c,X.env.cells.lookup x=some c->c≠b)/\∀ p∈X.pn++pins,p.1≠b)
  (keep:∀ b o,b≠X.env.locals->b∉X.fs->b∉ch->s.heap.get? b=some o->H b=none->h'.get? b=some o)
  (slot:∀ b o,b≠X.env.locals->b∈X.fs->b∉ch->s.heap.get? b=some o->H b=none->∃ sl,h'.get? b=some { o with slots:=sl }) (free:∀ b o,b∉ch->s.heap.get? b=some o->H b=none->H' b=none)
  (there:∀ b o,b∉ch->s.heap.get? b=some o->∃ o',h'.get? b=some o')
  (tups:∀ b xs,H b=some (.tup xs)->H' b=some (.tup xs)) (frzs:∀ b o u,H b=some (.frz o u)->H' b=some (.frz o u)) (tbls:∀ b ps,H b=some (.tbl ps)->∃ more,H' b=some (.tbl (ps++more)))
  (ns:∀ m,s.heap.Ns X.env.locals m->h'.Ns X.env.locals m) (hok:HOk X.prog X.w H' h') (hg:AllBare g') :
  Inv X pins σ H' { s with heap:=h',gens:=g',drawn:=d',toks:=t' }:=by
 have neL:∀ b o,X.s₀.heap.get? b=some o->b≠X.env.locals:=fun b o e=>xu (xy (Heap.lt_size e) I.ok.above)
 have neC:∀ b o,X.s₀.heap.get? b=some o->b∉X.ex->b∉ch:=fun b o e hx hb=>by
  rcases (hch b hb).1 with z | z
  ·exact hx z
  ·exact absurd (xy (Heap.lt_size e) z) (uc _)
 have cellK:∀ x c,X.env.cells.lookup x=some c->∀ v,s.heap.IsCell c v->h'.IsCell c v:=fun x c e v ⟨o,ho,hd⟩=>by
  have nch:c∉ch:=fun z=>(hch c z).2.2.1 x c e rfl
  by_cases hc:c∈X.fs
  ·obtain⟨sl,q⟩:=slot c o (I.cne x c e) hc nch ho (I.freeC x c e)
   exact⟨_,q,hd⟩
  ·exact⟨o,keep c o (I.cne x c e) hc nch ho (I.freeC x c e),hd⟩
 refine⟨I.ok,I.os,hg,⟨fun b o e n hb hx=>?_,fun b o e n hb hx=>?_,fun b o e n hx=>?_,fun b o e hx=>?_,fun b xs e=>tups b xs (I.base.tups b xs e),fun b o xs e=>frzs b o xs (I.base.frzs b o xs e),fun b ps e=>?_⟩,?_,fun x c e=>?_,?_,fun x c e=>?_,fun p hp=>?_,hok,I.len⟩
 ·exact keep b o (neL b o e) hb (neC b o e hx) (I.base.keep b o e n hb hx) (I.base.free b o e n hx)
 ·obtain⟨sl,e1⟩:=I.base.slot b o e n hb hx
  obtain⟨sl',e2⟩:=slot b _ (neL b o e) hb (neC b o e hx) e1 (I.base.free b o e n hx)
  exact⟨sl',e2⟩
 ·obtain⟨o',e1⟩:=I.base.there b o e hx
  exact free b o' (neC b o e hx) e1 (I.base.free b o e n hx)
 ·obtain⟨o',e1⟩:=I.base.there b o e hx
  exact there b o' (neC b o e hx) e1
 ·obtain⟨m1,e1⟩:=I.base.tbls b ps e
  obtain⟨m2,e2⟩:=tbls b _ e1
  exact⟨m1++m2,by rw[e2,Array.append_assoc]⟩
 ·obtain⟨m,hn,hl⟩:=I.loc
  refine⟨m,ns m hn,fun i x v e1 e2 e3=>?_⟩
  obtain⟨u,r,l⟩:=hl i x v e1 e2 e3
  refine⟨u,r,?_⟩
  rcases l with l | ⟨k,c,e,z⟩
  ·exact .inl l
  ·exact .inr ⟨k,c,e,cellK x c e _ z⟩
 ·obtain⟨v,z⟩:=I.cell x c e
  exact⟨v,cellK x c e v z⟩
 ·obtain⟨m,⟨o,_,_,ho,_⟩,_⟩:=I.loc
  exact free _ o (fun z=>(hch _ z).2.1 rfl) ho I.free
 ·obtain⟨v,o,ho,hd⟩:=I.cell x c e
  exact free c o (fun z=>(hch c z).2.2.1 x c e rfl) ho (I.freeC x c e)
 ·obtain⟨e,n,ne,nf,d⟩:=I.pin p hp
  have nch:p.1∉ch:=fun z=>(hch p.1 z).2.2.2 p hp rfl
  exact⟨keep p.1 p.2 ne nf nch e n,free p.1 p.2 nch e n,ne,nf,d⟩
theorem Inv.un{t':Nat}(I:Inv X pins σ H s)(u:Un X.fs [] H H' s.heap h')(hok:HOk X.prog X.w H' h'):Inv X pins σ H' { s with heap:=h',toks:=t' }:=by
 obtain⟨m,⟨o,es,ep,ho,r⟩,_⟩:=id I.loc
 obtain⟨sl,hL⟩:=u.any ho I.free (by simp)
 exact I.step (g':=s.gens) (d':=s.drawn) (ch:= []) (fun _ z=>nomatch z) (fun b o _ hb _ e n=>u.keep b o e n hb (by simp)) (fun b o _ hb _ e n=>u.slot b o e n hb (by simp)) (fun b o _ e n=>u.free b o e n (by simp)) (fun b o _ e=>u.there b o e (by simp)) u.tups u.frzs u.tbls (fun m' hm=>by
  obtain⟨o',es',ep',ho',r'⟩:=hm
  rw[ho]at ho';cases ho'
  exact⟨_,es',ep',hL,r'⟩) hok I.bare
theorem Inv.call{g':Array GenState}{t':Nat}{d':Drawn}{ch:List Addr}(I:Inv X pins σ H s)(u:Un (frs X.stack) ch H H' s.heap h')(hok:HOk X.prog X.w H' h')(hg:AllBare g')
  (hch:∀ b∈ch,(b∈X.ex∨X.s₀.heap.objs.size<=b)/\b≠X.env.locals/\(∀ x c,X.env.cells.lookup x=some c->c≠b)/\∀ p∈X.pn++pins,p.1≠b) :
  Inv X pins σ H' { s with heap:=h',gens:=g',drawn:=d',toks:=t' }:=by
 obtain⟨m,⟨o,es,ep,ho,r⟩,_⟩:=id I.loc
 obtain⟨sl,hL⟩:=u.any ho I.free fun z=>(hch _ z).2.1 rfl
 exact I.step (ch:=ch) hch (fun b o hL hb hc e n=>u.keep b o e n (fun z=>(xo.mp (I.stkSub b z)).elim hL hb) hc) (fun b o _ _ hc e n=>u.any e n hc) (fun b o hc e n=>u.free b o e n hc) (fun b o hc e=>u.there b o e hc) u.tups u.frzs u.tbls (fun m' hm=>by
  obtain⟨o',es',ep',ho',r'⟩:=hm
  rw[ho]at ho';cases ho'
  exact⟨_,es',ep',hL,r'⟩) hok hg
theorem Inv.turned{t':Nat}{it:Addr}(I:Inv X pins σ H s)(k:∀ b o,b≠it->s.heap.get? b=some o->h'.get? b=some o)(hn:H it=none)(hL:it≠X.env.locals)
  (h1:it∈X.ex∨X.s₀.heap.objs.size<=it) (h2:∀ x c,X.env.cells.lookup x=some c->c≠it) (h3:∀ p∈X.pn++pins,p.1≠it):Inv X pins σ H { s with heap:=h',toks:=t' }:=by
 have nit:∀ b u,H b=some u->b≠it:=fun b u e z=>by rw[z,hn]at e;cases e
 refine I.step (g':=s.gens) (d':=s.drawn) (ch:= [it]) (fun b hb=>?_) (fun b o _ _ hc e _=>k b o (fun z=>hc (by simp[z])) e) (fun b o _ _ hc e _=>⟨o.slots,k b o (fun z=>hc (by simp[z])) e⟩) (fun _ _ _ _ n=>n)
  (fun b o hc e=>⟨o,k b o (fun z=>hc (by simp[z])) e⟩) (fun _ _ e=>e) (fun _ _ _ e=>e) (fun b ps e=>⟨#[],by rw[e];simp⟩) (fun m hm=>?_) (fun b u e=>?_) I.bare
 ·have e:b=it:=by simpa using hb
  subst e
  exact⟨h1,hL,h2,h3⟩
 ·obtain⟨o,es,ep,ho,r⟩:=hm
  exact⟨o,es,ep,k _ o (Ne.symm hL) ho,r⟩
 ·refine (I.hok b u e).stay (fun c v hc q=>k c v ?_ q) (fun _ q=>q) fun _ _ q=>q
  rcases hc with z | z
  ·rw[z];exact nit b u e
  ·exact nit c _ z
theorem Inv.tok(I:Inv X pins σ H s)(t:Nat):Inv X pins σ H { s with toks:=t }:=I.un (h':=s.heap) (t':=t) Un.refl I.hok
theorem Inv.kept{t':Nat}(I:Inv X pins σ H s)(k:∀ b u,s.heap.get? b=some u->h'.get? b=some u):Inv X pins σ H { s with heap:=h',toks:=t' }:=I.un (Un.kept k) (I.hok.kept k)
theorem Inv.laid{a:Addr}{o:HO}{t':Nat}(I:Inv X pins σ H s)(k:∀ b u,s.heap.get? b=some u->h'.get? b=some u)(hp:s.heap.objs.size<=a)(new:ObjOk X.prog X.w (upd H a o) h' a o) :
  Inv X pins σ (upd H a o) { s with heap:=h',toks:=t' }:=I.un (Un.laid k hp (I.hok.fresh hp)) (I.hok.laid k hp new)
theorem Inv.write{x e:Addr}{o:HO}{t':Nat}(I:Inv X pins σ H s)(mu:Mut (H x))(he:e=x∨H e=some (.own x))(k:∀ b u,b≠e->s.heap.get? b=some u->h'.get? b=some u)(heo:∃ u,h'.get? e=some u)
  (new:ObjOk X.prog X.w (upd H x o) h' x o):Inv X pins σ (upd H x o) { s with heap:=h',toks:=t' }:=I.un (Un.write mu he k heo) (I.hok.write mu he k heo new)
theorem Inv.weak{σ':List (Option V)}(I:Inv X pins σ H s)(hl:σ'.length=σ.length)(w:∀ (i:Nat) v,σ'[i]?=some (some v)->σ[i]?=some (some v)):Inv X pins σ' H s :=
 ⟨I.ok,I.os,I.bare,I.base,let ⟨m,hn,hl'⟩:=I.loc;⟨m,hn,fun i x v e1 e2 e3=>hl' i x v e1 (w i v e2) e3⟩,I.cell,I.free,I.freeC,I.pin,I.hok,hl.trans I.len⟩
theorem Inv.pins_of{pins':List (Addr×Obj)}(I:Inv X pins σ H s)(h:∀ p∈pins',s.heap.get? p.1=some p.2/\H p.1=none/\p.1≠X.env.locals/\p.1∉X.fs/\∀ v,p.2.data≠ .cell v):Inv X pins' σ H s :=
 ⟨I.ok,I.os,I.bare,I.base,I.loc,I.cell,I.free,I.freeC,fun p hp=>(xJ.mp hp).elim (fun z=>I.pin p (xq _ z)) (h p),I.hok,I.len⟩
theorem yV{N:List Str}(hN:N.Nodup){i j:Nat}{x:Str}(a:N[i]?=some x)(b:N[j]?=some x):i=j:=by
 obtain⟨h1,e1⟩:=xc.mp a
 obtain⟨h2,e2⟩:=xc.mp b
 exact (List.getElem_inj hN).mp (e1.trans e2.symm)
theorem WS{M:Model}{A:Around}{E:Value->Shared->Prop}{i:Nat}{x:Str}{v:V}{u:Value}{Q:Unit->Shared->Prop}(I:Inv X pins σ H s)(hN:X.N.Nodup)(hi:X.N[i]?=some x)(hx:Loc X.env.scope x)(r:RelV v u)
  (h:∀ s',Inv X pins (σ.set i (some v)) H s'->(∃ a,Heap.SameBut a s.heap s'.heap/\(a=X.env.locals∨X.env.cells.lookup x=some a))->Q () s') (hf:X.fn x=true∨X.env.scope.names.lookup x=some .local:=by first | exact .inl rfl | exact .inr rfl | assumption):wpAny M A (storeName X.env x u) Q E s:=by
 obtain⟨m,hn,hl⟩:=id I.loc
 have hcls:(X.env.scope.kind==.class||(X.env.scope.kind==.module&&X.env.locals !=X.env.globals))=false:=by rw[I.ok.kind];rfl
 have hiσ:i<σ.length:=by rw[I.len];exact (xc.mp hi).1
 have cne:=I.cne
 have tracked:∀ {a:Addr} {h':Heap},(∃ o,s.heap.get? a=some o/\H a=none)->Heap.SameBut a s.heap h'->HOk X.prog X.w H h':=fun {a h'} ha hs b ob e=>by
  obtain⟨_,_,hfree⟩:=ha
  refine (I.hok b ob e).stay (fun c w' hc q=>(hs.2 c ?_).trans q) (fun _ q=>q) fun _ _ q=>q
  rintro rfl
  rcases hc with rfl | hc
  ·rw[hfree]at e;cases e
  ·rw[hfree]at hc;cases hc
 rcases hx with hk | hk
 ·refine wpAny_storeName_local hk hn (fun h' hn' hs=>?_) hcls
  obtain⟨oL,_,_,hoL,_⟩:=id hn
  refine h _ ⟨I.ok,I.os,I.bare,⟨fun b o e n hb hx=>?_,fun b o e n hb hx=>?_,I.base.free,fun b o e hx=>?_,I.base.tups,I.base.frzs,I.base.tbls⟩,⟨_,hn',fun j y v' e1 e2 e3=>?_⟩,fun y c e=>?_,I.free,I.freeC,fun p hp=>?_,tracked ⟨oL,hoL,I.free⟩ hs,by simpa using I.len⟩ ⟨_,hs,.inl rfl⟩
  ·exact (hs.2 b (xu (xy (Heap.lt_size e) I.ok.above))).trans (I.base.keep b o e n hb hx)
  ·obtain⟨sl,e1⟩:=I.base.slot b o e n hb hx
   exact⟨sl,(hs.2 b (xu (xy (Heap.lt_size e) I.ok.above))).trans e1⟩
  ·obtain⟨o',e1⟩:=I.base.there b o e hx
   exact⟨o',(hs.2 b (xu (xy (Heap.lt_size e) I.ok.above))).trans e1⟩
  ·by_cases hj:j=i
   ·subst hj
    rw[hi]at e1;cases e1
    rw[xt hiσ]at e2
    cases e2
    exact⟨u,r,.inl ⟨hk,by simp⟩⟩
   ·rw[xv (Ne.symm hj)]at e2
    obtain⟨u',r',q⟩:=hl j y v' e1 e2 e3
    refine⟨u',r',?_⟩
    rcases q with ⟨k,e⟩ | ⟨k,c,e,z⟩
    ·refine .inl ⟨k,?_⟩
     have:y≠x:=fun e=>hj (yV hN e1 (e ▸ hi))
     simp[this,e]
    ·exact .inr ⟨k,c,e,z.sameBut hs (cne y c e)⟩
  ·obtain⟨w',z⟩:=I.cell y c e
   exact⟨w',z.sameBut hs (cne y c e)⟩
  ·obtain⟨e,n,ne,nf,d⟩:=I.pin p hp
   exact⟨(hs.2 p.1 ne).trans e,n,ne,nf,d⟩
 ·have hfn:X.fn x=true:=by
   rcases hf with z | z
   ·exact z
   ·rw[z]at hk;cases hk
  obtain⟨c,hc⟩:=I.ok.has x (.inl hk)
  obtain⟨w',z⟩:=I.cell x c hc
  refine wpAny_storeName_cell I.ok.kind hk hc z (fun h' hc' hs=>?_)
  obtain⟨oc,hoc,hocd⟩:=id z
  refine h { s with heap:=h' } ⟨I.ok,I.os,I.bare,⟨fun b o e n hb hx=>?_,fun b o e n hb hx=>?_,I.base.free,fun b o e hx=>?_,I.base.tups,I.base.frzs,I.base.tbls⟩,⟨m,hn.sameBut hs (Ne.symm (cne x c hc)),fun j y v' e1 e2 e3=>?_⟩,fun y c' e=>?_,I.free,I.freeC,fun p hp=>?_,tracked ⟨oc,hoc,I.freeC x c hc⟩ hs,by simpa using I.len⟩ ⟨c,hs,.inr hc⟩
  ·exact (hs.2 b (xu (xy (Heap.lt_size e) (I.ok.cab x c hfn hc)))).trans (I.base.keep b o e n hb hx)
  ·obtain⟨sl,e1⟩:=I.base.slot b o e n hb hx
   exact⟨sl,(hs.2 b (xu (xy (Heap.lt_size e) (I.ok.cab x c hfn hc)))).trans e1⟩
  ·obtain⟨o',e1⟩:=I.base.there b o e hx
   exact⟨o',(hs.2 b (xu (xy (Heap.lt_size e) (I.ok.cab x c hfn hc)))).trans e1⟩
  ·by_cases hj:j=i
   ·subst hj
    rw[hi]at e1;cases e1
    rw[xt hiσ]at e2
    cases e2
    exact⟨u,r,.inr ⟨.inl hk,c,hc,hc'⟩⟩
   ·rw[xv (Ne.symm hj)]at e2
    obtain⟨u',r',q⟩:=hl j y v' e1 e2 e3
    refine⟨u',r',?_⟩
    rcases q with q | ⟨k,c',e,z'⟩
    ·exact .inl q
    ·refine .inr ⟨k,c',e,z'.sameBut hs ?_⟩
     rintro rfl
     exact hj (yV hN e1 (I.ok.inj _ _ _ e hc ▸ hi))
  ·by_cases hcc:c'=c
   ·subst hcc;exact⟨_,hc'⟩
   ·obtain⟨w2,z2⟩:=I.cell y c' e
    exact⟨w2,z2.sameBut hs hcc⟩
  ·obtain⟨e,n,ne,nf,d⟩:=I.pin p hp
   refine⟨(hs.2 p.1 ?_).trans e,n,ne,nf,d⟩
   intro q
   rw[q,hoc]at e
   have q':oc=p.2:=Option.some.inj e
   exact d w' (by rw[<- q'];exact hocd)
theorem Zb{M:Model}{A:Around}{E:Value->Shared->Prop}{i:Nat}{x:Str}{v:V}{u:Value}{Q:Unit->Shared->Prop}(I:Inv X pins σ H s)(hN:X.N.Nodup)(hi:X.N[i]?=some x)(hx:Loc X.env.scope x)(r:RelV v u)
  (h:∀ s',Inv X pins (σ.set i (some v)) H s'->Q () s') (hf:X.fn x=true∨X.env.scope.names.lookup x=some .local:=by first | exact .inl rfl | exact .inr rfl | assumption):wpAny M A (storeName X.env x u) Q E s :=
 WS I hN hi hx r (fun s' I' _=>h s' I') hf
theorem Inv.call'{s':Shared}{ch:List Addr}(I:Inv X pins σ H s)(ho:s'.os=s.os)(u:Un (frs X.stack) ch H H' s.heap s'.heap)(hok:HOk X.prog X.w H' s'.heap)(hg:AllBare s'.gens)
  (hch:∀ b∈ch,(b∈X.ex∨X.s₀.heap.objs.size<=b)/\b≠X.env.locals/\(∀ x c,X.env.cells.lookup x=some c->c≠b)/\∀ p∈X.pn++pins,p.1≠b):Inv X pins σ H' s':=by
 obtain⟨h',g',d',t',o'⟩:=s'
 have e:o'=s.os:=ho
 subst e
 exact I.call (g':=g') (t':=t') (d':=d') u hok hg hch
end
noncomputable abbrev XK:=Value->Option Addr->Hp->Prop
noncomputable abbrev St:=List (Option V)
noncomputable abbrev VK:=V->Hp->Prop
noncomputable abbrev TE:=St->Hp->VK->Prop
noncomputable abbrev TT:=St->Hp->(Bool->Hp->Prop)->Prop
noncomputable abbrev TA:=St->Hp->(List V->Hp->Prop)->Prop
structure jk where
 nx:St->Hp->Prop
 rt:VK
 bk:St->Hp->Prop:=fun _ _=>False
 ct:St->Hp->Prop:=fun _ _=>False
noncomputable abbrev TS:=jk->St->Hp->Prop
noncomputable def EP(X:Cx)(pins:List (Addr×Obj))(σ:St)(Q:VK)(u:Value)(s':Shared):Prop:=∃ v H',Inv X pins σ H' s'/\RelV v u/\Q v H'
noncomputable def TP(X:Cx)(pins:List (Addr×Obj))(σ:St)(Q:Bool->Hp->Prop)(b:Bool)(s':Shared):Prop:=∃ H',Inv X pins σ H' s'/\Q b H'
noncomputable def AP(X:Cx)(pins:List (Addr×Obj))(σ:St)(Q:List V->Hp->Prop)(us:List Value)(s':Shared):Prop:=∃ vs H',Inv X pins σ H' s'/\Vals vs us/\Q vs H'
noncomputable def SP(X:Cx)(pins:List (Addr×Obj))(D:jk)(f:Flow)(s':Shared):Prop :=
 match f with
 |.next=>∃ σ' H',Inv X pins σ' H' s'/\D.nx σ' H'
 |.brk=>∃ σ' H',Inv X pins σ' H' s'/\D.bk σ' H'
 |.cont=>∃ σ' H',Inv X pins σ' H' s'/\D.ct σ' H'
 |.ret u=>∃ v σ' H',Inv X pins σ' H' s'/\RelV v u/\D.rt v H'
noncomputable def PE(X:Cx)(e:Expr)(t:TE):Prop :=
 ∀ (pins:List (Addr×Obj)) (s:Shared) (σ:St) (H:Hp) (Q:VK),Inv X pins σ H s->t σ H Q->wpAny (model X.prog X.w) X.A (eval e X.env) (EP X pins σ Q) X.xe s
noncomputable def PT(X:Cx)(e:Expr)(t:TT):Prop :=
 ∀ (pins:List (Addr×Obj)) (s:Shared) (σ:St) (H:Hp) (Q:Bool->Hp->Prop),Inv X pins σ H s->t σ H Q->wpAny (model X.prog X.w) X.A (isTrue e X.env (eval e X.env)) (TP X pins σ Q) X.xe s
noncomputable def PW(X:Cx)(e:Expr)(t:TT):Prop :=
 ∀ (whole:Sem Value) (pins:List (Addr×Obj)) (s:Shared) (σ:St) (H:Hp) (Q:Bool->Hp->Prop),Inv X pins σ H s->t σ H Q->wpAny (model X.prog X.w) X.A (isTrue e X.env whole) (TP X pins σ Q) X.xe s
noncomputable def PA(X:Cx)(es:List Expr)(t:TA):Prop :=
 ∀ (pos:Pos) (pins:List (Addr×Obj)) (s:Shared) (σ:St) (H:Hp) (Q:List V->Hp->Prop),Inv X pins σ H s->t σ H Q->wpAny (model X.prog X.w) X.A (spliced (backTo pos (starEach es X.env))) (AP X pins σ Q) X.xe s
noncomputable def PS(X:Cx)(st:Stmt)(t:TS):Prop :=
 ∀ (pins:List (Addr×Obj)) (s:Shared) (σ:St) (H:Hp) (D:jk),Inv X pins σ H s->t D σ H->wpAny (model X.prog X.w) X.A (exec st X.env) (SP X pins D) X.xe s
noncomputable def PSs(X:Cx)(st:List Stmt)(t:TS):Prop :=
 ∀ (pins:List (Addr×Obj)) (s:Shared) (σ:St) (H:Hp) (D:jk),Inv X pins σ H s->t D σ H->wpAny (model X.prog X.w) X.A (execs st X.env) (SP X pins D) X.xe s
theorem thn{α:Type}{t:Sem α}{Q Q':α->Shared->Prop}{M:Model}{A:Around}{E:Value->Shared->Prop}{s:Shared}(h:wpAny M A t Q E s)(hQ:∀ a s,Q a s->Q' a s):wpAny M A t Q' E s:=wpAny_mono h hQ fun _ _ x=>x
end L2
namespace L2
open PySem PySem.Spec PyProof.Rows
section
variable {X:Cx}
theorem bin{a b:Expr}{ta tb:TE}(ha:PE X a ta)(hb:PE X b tb){pins:List (Addr×Obj)}{s:Shared}{σ:St}{H:Hp}{R:V->V->Hp->Prop}(I:Inv X pins σ H s)(h:ta σ H fun x H1=>tb σ H1 fun y H2=>R x y H2)
  {α:Type} {Q:α->Shared->Prop} {f:Value->Value->Sem α}
  (hf:∀ v u s2 x y H2,Inv X pins σ H2 s2->RelV x v->RelV y u->R x y H2->wpAny (model X.prog X.w) X.A (f v u) Q X.xe s2) :
  wpAny (model X.prog X.w) X.A (eval a X.env) (fun v s₁=>wpAny (model X.prog X.w) X.A (eval b X.env) (fun u s₂=>wpAny (model X.prog X.w) X.A (f v u) Q X.xe s₂) X.xe s₁) X.xe s:=by
 refine thn (ha pins s σ H _ I h) fun v s1 ⟨x,H1,I1,r1,q1⟩=>?_
 refine thn (hb pins s1 σ H1 _ I1 q1) fun u s2 ⟨y,H2,I2,r2,q2⟩=>?_
 exact hf v u s2 x y H2 I2 r1 r2 q2
noncomputable def zhB(i:Nat):TE:=fun σ H Q=>∃ v,σ[i]?=some (some v)/\Q v H
noncomputable def tC(v:V):TE:=fun _ H Q=>Q v H
theorem jT {i:Nat}{x:Str}{pos:Pos}(hN:X.N[i]?=some x) (hv:Vis X.env.scope x) (hd:(x==("__debug__" :Str))=false:=by decide) (hcd:(x==("__classdict__" :Str))=false:=by decide):PE X (.Name x pos) (zhB i):=by
 intro pins s σ H Q I h
 obtain⟨v,e,h⟩:=h
 obtain⟨m,hn,hl⟩:=I.loc
 obtain⟨u,r,l⟩:=hl i x v hN e hv
 have fin:EP X pins σ Q u s:=⟨v,H,I,r,h⟩
 rcases l with ⟨hk,hm⟩ | ⟨hk,c,hc,hcell⟩
 ·exact wpAny_Name (wpAny_loadName_local I.ok.kind hk hn hm fin) hd
 ·rcases hk with hk | hk
  ·exact wpAny_Name (wpAny_loadName_cell I.ok.kind hk hc hcell fin) hd
  ·exact wpAny_Name (wpAny_loadName_free I.ok.kind hk hc hcell fin hcd) hd
theorem pe_int{i j pos}:PE X (.Constant (.int i) j pos) (tC (.int i)):=fun _ _ _ H _ I h=>wpAny_Constant_int ⟨.int i,H,I.tok _,⟨_,rfl⟩,h⟩
theorem pe_bl{b j pos}:PE X (.Constant (.bool b) j pos) (tC (.bl b)):=fun _ _ _ H _ I h=>Constant_bool ⟨.bl b,H,I,rfl,h⟩
theorem pe_non{j pos}:PE X (.Constant .none j pos) (tC .non):=fun _ _ _ H _ I h=>Constant_none ⟨.non,H,I,rfl,h⟩
theorem pe_str{x j pos}:PE X (.Constant (.str x) j pos) (tC (.str x)):=fun _ _ _ H _ I h=>Calls.Constant_str ⟨.str x,H,I.tok _,⟨_,rfl⟩,h⟩
noncomputable def Gl(X:Cx)(x:Str):Prop:=X.env.kindOf x=some .globalImplicit
theorem wj{E:Value->Shared->Prop}{pins:List (Addr×Obj)}{s:Shared}{σ:St}{H:Hp}{x:Str}{u:Value}{pos:Pos}{Q:Value->Shared->Prop}(I:Inv X pins σ H s)(hg:Gl X x)(hm:X.mg x=some u)(h:Q u s)
  (hd:(x==("__debug__" :Str))=false:=by decide):wpAny (model X.prog X.w) X.A (eval (.Name x pos) X.env) Q E s :=
 Calls.Name_function_global I.ok.kind hg (Calls.loadGlobal_global (by rw[I.ok.glob];exact I.mod.glob.keeps I.bk) hm h) hd
theorem jt{E:Value->Shared->Prop}{pins:List (Addr×Obj)}{s:Shared}{σ:St}{H:Hp}{x:Str}{u:Value}{pos:Pos}{Q:Value->Shared->Prop}(I:Inv X pins σ H s)(hg:Gl X x)(hm:X.mg x=none)(hv:bootBuiltins x=some u)(h:Q u s)
  (hn:x≠ "__name__" :=by decide) (hd:(x==("__debug__" :Str))=false:=by decide):wpAny (model X.prog X.w) X.A (eval (.Name x pos) X.env) Q E s:=by
 obtain⟨mb,h1,h2⟩:=I.mod.blt
 exact Calls.Name_function_global I.ok.kind hg (Calls.loadGlobal_builtin (by rw[I.ok.glob];exact I.mod.glob.keeps I.bk) hm (by rw[I.ok.blt];exact h1.keeps I.bk) ((h2 x hn).trans hv) h) hd
theorem zeF {x:Str}{v:V}{u:Value}{pos:Pos}(hg:Gl X x) (hm:X.mg x=some u) (r:RelV v u) (hd:(x==("__debug__" :Str))=false:=by decide):PE X (.Name x pos) (tC v) :=
 fun _ _ _ H _ I h=>wj I hg hm ⟨v,H,I,r,h⟩ hd
theorem zdS {x:Str}{v:V}{u:Value}{pos:Pos}(hg:Gl X x) (hm:X.mg x=none) (hv:bootBuiltins x=some u) (r:RelV v u) (hn:x≠ "__name__" :=by decide) (hd:(x==("__debug__" :Str))=false:=by decide):PE X (.Name x pos) (tC v) :=
 fun _ _ _ H _ I h=>jt I hg hm hv ⟨v,H,I,r,h⟩ hn hd
variable {a b:Expr} {ta tb:TE} {pos:Pos}
variable {tA tB':TT} {rest:List Expr}
noncomputable def tAnd(t u:TT):TT:=fun σ H Q=>t σ H fun c H1=>if c=true then u σ H1 Q else Q false H1
noncomputable def tOr(t u:TT):TT:=fun σ H Q=>t σ H fun c H1=>if c=true then Q true H1 else u σ H1 Q
noncomputable def tNot(t:TT):TT:=fun σ H Q=>t σ H fun c H1=>Q (!c) H1
theorem zdn(ha:PT X a tA):PW X (.BoolOp .And [a] pos) tA:=by
 intro wh pins s σ H Q I h
 refine isTrue_and (thn (ha pins s σ H Q I h) fun c s1 e=>?_)
 cases c with
 |true=>exact isTrue_and_nil e
 |false=>exact e
theorem zgp(ha:PT X a tA):PW X (.BoolOp .Or [a] pos) tA:=by
 intro wh pins s σ H Q I h
 refine isTrue_or (thn (ha pins s σ H Q I h) fun c s1 e=>?_)
 cases c with
 |false=>exact isTrue_or_nil e
 |true=>exact e
theorem zgV(ha:PT X a tA)(hb:PW X (.BoolOp .And (b::rest) pos) tB'):PW X (.BoolOp .And (a::b::rest) pos) (tAnd tA tB'):=by
 intro wh pins s σ H Q I h
 refine isTrue_and (thn (ha pins s σ H _ I h) fun c s1 ⟨H1,I1,q1⟩=>?_)
 cases c with
 |true=>exact hb wh pins s1 σ H1 Q I1 q1
 |false=>exact⟨H1,I1,q1⟩
theorem zhz(ha:PT X a tA)(hb:PW X (.BoolOp .Or (b::rest) pos) tB'):PW X (.BoolOp .Or (a::b::rest) pos) (tOr tA tB'):=by
 intro wh pins s σ H Q I h
 refine isTrue_or (thn (ha pins s σ H _ I h) fun c s1 ⟨H1,I1,q1⟩=>?_)
 cases c with
 |true=>exact⟨H1,I1,q1⟩
 |false=>exact hb wh pins s1 σ H1 Q I1 q1
theorem zf7(ha:PT X a tA):PT X (.UnaryOp .Not a pos) (tNot tA):=by
 intro pins s σ H Q I h
 exact isTrue_not (ha pins s σ H (fun c H1=>Q (!c) H1) I h)
noncomputable def zhy(ta tb:TE):TE:=fun σ H Q=>ta σ H fun x H1=>∃ c,x=.bl c/\if c=true then tb σ H1 Q else Q (.bl false) H1
noncomputable def tOrV(ta tb:TE):TE:=fun σ H Q=>ta σ H fun x H1=>∃ c,x=.bl c/\if c=true then Q (.bl true) H1 else tb σ H1 Q
theorem zfQ{op}{t:TE}(h:PE X a t):PE X (.BoolOp op [a] pos) t:=fun pins s σ H Q I hw=>BoolOp_one (h pins s σ H Q I hw)
theorem zgA(ha:PE X a ta)(hb:PE X (.BoolOp .And (b::rest) pos) tb):PE X (.BoolOp .And (a::b::rest) pos) (zhy ta tb):=by
 intro pins s σ H Q I h
 refine BoolOp_and (thn (ha pins s σ H _ I h) fun v s1 ⟨x,H1,I1,r1,q1⟩=>?_)
 obtain⟨c,rfl,q1⟩:=q1
 cases r1
 refine wpAny_truthy_bool ?_
 cases c with
 |true=>exact hb pins s1 σ H1 Q I1 q1
 |false=>exact⟨.bl false,H1,I1,rfl,q1⟩
theorem zh2(ha:PE X a ta)(hb:PE X (.BoolOp .Or (b::rest) pos) tb):PE X (.BoolOp .Or (a::b::rest) pos) (tOrV ta tb):=by
 intro pins s σ H Q I h
 refine BoolOp_or (thn (ha pins s σ H _ I h) fun v s1 ⟨x,H1,I1,r1,q1⟩=>?_)
 obtain⟨c,rfl,q1⟩:=q1
 cases r1
 refine wpAny_truthy_bool ?_
 cases c with
 |false=>exact hb pins s1 σ H1 Q I1 q1
 |true=>exact⟨.bl true,H1,I1,rfl,q1⟩
noncomputable def tIf(t:TT)(ta tb:TE):TE:=fun σ H Q=>t σ H fun c H1=>if c=true then ta σ H1 Q else tb σ H1 Q
theorem zdc{c:Expr}(hc:PT X c tA)(ha:PE X a ta)(hb:PE X b tb):PE X (.IfExp c a b pos) (tIf tA ta tb):=by
 intro pins s σ H Q I h
 refine wpAny_IfExp (thn (hc pins s σ H _ I h) fun d s1 ⟨H1,I1,q1⟩=>?_)
 cases d with
 |true=>exact ha pins s1 σ H1 Q I1 q1
 |false=>exact hb pins s1 σ H1 Q I1 q1
end
end L2
namespace L2
open PySem PySem.Spec PyProof.Rows
noncomputable def SqL(K:PySem.W.Frag)(H:Hp)(a:Addr)(xs:List V):Prop :=
 Rd H a (.lst xs) ∨
  ∃ (o:Obj) (its:Array Value) (n:Nat),K.lookup a=some o/\o.cls=.type "list" /\o.dict=none/\o.data=.seq its n/\its.size<=sizeLine/\Vals xs its.toList
noncomputable def SqT(K:PySem.W.Frag)(H:Hp)(a:Addr)(xs:List V):Prop :=
 Rd H a (.tup xs) ∨
  ∃ (o:Obj) (its:Array Value) (n:Nat),K.lookup a=some o/\o.cls=.type "tuple" /\o.data=.seq its n/\its.size<=sizeLine/\Vals xs its.toList
noncomputable def absV:Value->Option V
 |.none=>some .non
 |.bool b=>some (.bl b)
 |.int i _=>some (.int i)
 |.str x _=>some (.str x)
 |.bytes b _=>some (.byt b)
 |.float b _=>some (.flt b)
 |.ref a=>some (.ref a)
 |.type n=>some (.ty n)
 |_=>none
theorem RelV.abs{x:V}{u:Value}(r:RelV x u):absV u=some x:=by
 cases x with
 |non=>cases r;rfl
 |bl _=>cases r;rfl
 |int _=>obtain⟨t,rfl⟩:=r;rfl
 |str _=>obtain⟨t,rfl⟩:=r;rfl
 |byt _=>obtain⟨t,rfl⟩:=r;rfl
 |flt _=>obtain⟨t,rfl⟩:=r;rfl
 |ref _=>cases r;rfl
 |ty _=>cases r;rfl
theorem RelV.inj{x y:V}{u:Value}(r:RelV x u)(q:RelV y u):x=y:=Option.some.inj (r.abs.symm.trans q.abs)
theorem Vals.inj:∀ {xs ys:List V}{us:List Value},Vals xs us->Vals ys us->xs=ys
 |_,_,_,.nil,.nil=>rfl
 |_,_,_,.cons r t,.cons r' t'=>by rw[r.inj r',Vals.inj t t']
section
variable {X:Cx} {pins:List (Addr×Obj)} {σ:St} {H:Hp} {s:Shared} {a:Addr} {xs ys:List V}
theorem SqL.of{K:PySem.W.Frag}(h:H a=some (.lst xs)):SqL K H a xs:=.inl (.inl h)
theorem SqT.of{K:PySem.W.Frag}(h:H a=some (.tup xs)):SqT K H a xs:=.inl (.inl h)
theorem Inv.list(I:Inv X pins σ H s)(h:SqL X.K H a xs):∃ its:List Value,Vals xs its/\PlainL s.heap a its.toArray/\xs.length<=sizeLine:=by
 rcases h with h | ⟨o,its,n,hk,hc,hd,hs,hz,r⟩
 ·obtain⟨z,its,n,r,e⟩:=h.ok I.hok
  exact⟨its,r,⟨_,n,e,rfl,rfl,rfl⟩,z⟩
 ·refine⟨its.toList,r,⟨o,n,I.kIn a o hk,hc,hd,by simpa using hs⟩,?_⟩
  have e:=r.length
  simp only[Array.length_toList]at e
  omega
theorem Inv.tuple(I:Inv X pins σ H s)(h:SqT X.K H a xs):∃ its:List Value,Vals xs its/\IsTup s.heap a its.toArray/\xs.length<=sizeLine:=by
 rcases h with h | ⟨o,its,n,hk,hc,hs,hz,r⟩
 ·obtain⟨z,its,r,p⟩:=h.ok I.hok
  exact⟨its,r,p,z⟩
 ·refine⟨its.toList,r,⟨o,I.kIn a o hk,hc,n,by simpa using hs⟩,?_⟩
  have e:=r.length
  simp only[Array.length_toList]at e
  omega
theorem Inv.list_inj(I:Inv X pins σ H s)(h:SqL X.K H a xs)(h':SqL X.K H a ys):xs=ys:=by
 obtain⟨its,r,⟨o,n,e,_,_,d⟩,_⟩:=I.list h
 obtain⟨its',r',⟨o',n',e',_,_,d'⟩,_⟩:=I.list h'
 rw[e]at e';cases e'
 rw[d]at d'
 injection d' with d1 _
 have:its=its':=by simpa using congrArg Array.toList d1
 subst this
 exact r.inj r'
theorem Inv.tuple_inj(I:Inv X pins σ H s)(h:SqT X.K H a xs)(h':SqT X.K H a ys):xs=ys:=by
 obtain⟨its,r,⟨o,e,_,n,d⟩,_⟩:=I.tuple h
 obtain⟨its',r',⟨o',e',_,n',d'⟩,_⟩:=I.tuple h'
 rw[e]at e';cases e'
 rw[d]at d'
 injection d' with d1 _
 have:its=its':=by simpa using congrArg Array.toList d1
 subst this
 exact r.inj r'
end
noncomputable abbrev Cx.wish(X:Cx)(E:Value->Shared->Prop):Cx:={ X with xe:=E }
noncomputable abbrev Cx.nox(X:Cx):Cx:=X.wish fun _ _=>False
theorem Cx.Ok.wish{X:Cx}(ok:X.Ok)(E:Value->Shared->Prop):(X.wish E).Ok :=
 ⟨ok.mod,ok.kind,ok.glob,ok.blt,ok.above,ok.inj,ok.has,ok.cab,ok.hd,ok.frames,ok.stk,ok.exf,ok.bs,ok.bsz,ok.noex,ok.exfs,ok.funs,ok.frf⟩
theorem Cx.Ok.unwish{X:Cx}{E:Value->Shared->Prop}(ok:(X.wish E).Ok):X.Ok :=
 ⟨ok.mod,ok.kind,ok.glob,ok.blt,ok.above,ok.inj,ok.has,ok.cab,ok.hd,ok.frames,ok.stk,ok.exf,ok.bs,ok.bsz,ok.noex,ok.exfs,ok.funs,ok.frf⟩
section
variable {X:Cx} {pins:List (Addr×Obj)} {σ:St} {H:Hp} {s:Shared} {E:Value->Shared->Prop}
theorem Inv.wish(I:Inv X pins σ H s)(E:Value->Shared->Prop):Inv (X.wish E) pins σ H s:=⟨I.ok.wish E,I.os,I.bare,I.base,I.loc,I.cell,I.free,I.freeC,I.pin,I.hok,I.len⟩
theorem Inv.unwish(I:Inv (X.wish E) pins σ H s):Inv X pins σ H s:=⟨I.ok.unwish,I.os,I.bare,I.base,I.loc,I.cell,I.free,I.freeC,I.pin,I.hok,I.len⟩
theorem SP.unwish{D:jk}{f:Flow}{s':Shared}(h:SP (X.wish E) pins D f s'):SP X pins D f s':=by
 cases f with
 |next=>obtain⟨σ',H',I,q⟩:=h;exact⟨σ',H',I.unwish,q⟩
 |brk=>obtain⟨σ',H',I,q⟩:=h;exact⟨σ',H',I.unwish,q⟩
 |cont=>obtain⟨σ',H',I,q⟩:=h;exact⟨σ',H',I.unwish,q⟩
 |ret u=>obtain⟨v,σ',H',I,r,q⟩:=h;exact⟨v,σ',H',I.unwish,r,q⟩
theorem PSs.nox{st:List Stmt}{t:TS}(h:PSs X.nox st t):PSs X st t:=fun pins s σ H D I hw=>
 wpAny_mono (h pins s σ H D (I.wish _) hw) (fun _ _ q=>q.unwish) fun _ _ z=>False.elim z
end
section
variable {X:Cx} {st:Stmt} {rest:List Stmt} {t u:TS} {e:Expr} {te:TE} {pos:Pos}
noncomputable def ze5:TS:=fun D σ H=>D.nx σ H
noncomputable def tSeq(t u:TS):TS:=fun D σ H=>t { D with nx:=u D } σ H
theorem pss_nil:PSs X [] ze5:=fun _ _ σ H _ I h=>wpAny_execs_nil ⟨σ,H,I,h⟩
theorem QR(h1:PS X st t)(h2:PSs X rest u):PSs X (st::rest) (tSeq t u):=by
 intro pins s σ H D I h
 refine wpAny_execs_cons (thn (h1 pins s σ H { D with nx:=u D } I h) fun f s1 q=>?_)
 cases f with
 |next=>
  obtain⟨σ',H',I',q⟩:=q
  exact h2 pins s1 σ' H' D I' q
 |ret v=>exact q
 |brk=>exact q
 |cont=>exact q
theorem Vp(h1:PS X st t):PSs X [st] t:=by
 intro pins s σ H D I h
 refine wpAny_execs_cons (thn (h1 pins s σ H D I h) fun f s1 q=>?_)
 cases f with
 |next=>exact wpAny_execs_nil q
 |ret v=>exact q
 |brk=>exact q
 |cont=>exact q
theorem ps_pass:PS X (.Pass pos) ze5:=fun _ _ σ H _ I h=>wpAny_Pass ⟨σ,H,I,h⟩
theorem Inv.quiet{pins:List (Addr×Obj)}{σ:St}{H:Hp}{s:Shared}(I:Inv X pins σ H s):interactive X.env=false:=by simp[interactive,I.ok.kind]
noncomputable def zhp(te:TE):TS:=fun D σ H=>te σ H fun _ H1=>D.nx σ H1
theorem Ke(he:PE X e te)(hs:swapsWith e none pos.line X.env=pure false:=by rfl):PS X (.Expr e pos) (zhp te):=by
 intro pins s σ H D I h
 exact wpAny_Expr_any (thn (he pins s σ H _ I h) fun v s1 ⟨x,H1,I1,r1,q1⟩=>⟨σ,H1,I1,q1⟩) I.quiet hs
noncomputable def tRet(te:TE):TS:=fun D σ H=>te σ H D.rt
theorem zbR(he:PE X e te):PS X (.Return (some e) pos) (tRet te):=by
 intro pins s σ H D I h
 exact wpAny_Return_some (thn (he pins s σ H _ I h) fun v s1 ⟨x,H1,I1,r1,q1⟩=>⟨x,σ,H1,I1,r1,q1⟩)
noncomputable def tIfS(c:TT)(t u:TS):TS:=fun D σ H=>c σ H fun b H1=>if b=true then t D σ H1 else u D σ H1
theorem zhM{c:Expr}{a b:List Stmt}{tc:TT}(hc:PT X c tc)(ha:PSs X a t)(hb:PSs X b u):PS X (.If c a b pos) (tIfS tc t u):=by
 intro pins s σ H D I h
 refine wpAny_If (thn (hc pins s σ H _ I h) fun d s1 ⟨H1,I1,q1⟩=>?_)
 cases d with
 |true=>exact ha pins s1 σ H1 D I1 q1
 |false=>exact hb pins s1 σ H1 D I1 q1
end
noncomputable abbrev TG:=V->St->Hp->(St->Hp->Prop)->Prop
noncomputable abbrev TGs:=List V->St->Hp->(St->Hp->Prop)->Prop
noncomputable def PG(X:Cx)(target:Expr)(t:TG):Prop :=
 ∀ (pins:List (Addr×Obj)) (s:Shared) (σ:St) (H:Hp) (v:V) (u:Value) (Q:St->Hp->Prop),Inv X pins σ H s->RelV v u->t v σ H Q ->
  wpAny (model X.prog X.w) X.A (assign target X.env u) (fun _ s'=>∃ σ' H',Inv X pins σ' H' s'/\Q σ' H') X.xe s
noncomputable def PGs(X:Cx)(ts:List Expr)(t:TGs):Prop :=
 ∀ (pins:List (Addr×Obj)) (s:Shared) (σ:St) (H:Hp) (vs:List V) (us:List Value) (Q:St->Hp->Prop),Inv X pins σ H s->Vals vs us->t vs σ H Q ->
  wpAny (model X.prog X.w) X.A (assignInOrder ((assignEach ts X.env).map (·.2)) us) (fun _ s'=>∃ σ' H',Inv X pins σ' H' s'/\Q σ' H') X.xe s
noncomputable abbrev zdx:=V->V->V->Hp->(Hp->Prop)->Prop
noncomputable def zgB(X:Cx)(t:zdx):Prop :=
 ∀ (pins:List (Addr×Obj)) (s:Shared) (σ:St) (H:Hp) (o i v:V) (ov iv u:Value) (Q:Hp->Prop),Inv X pins σ H s->RelV o ov->RelV i iv->RelV v u->t o i v H Q ->
  wpAny (model X.prog X.w) X.A (setItem ov iv u) (fun _ s'=>∃ H',Inv X pins σ H' s'/\Q H') X.xe s
noncomputable abbrev TIp:=V->V->Hp->VK->Prop
noncomputable def PIp(X:Cx)(op:Operator)(t:TIp):Prop :=
 ∀ (pins:List (Addr×Obj)) (s:Shared) (σ:St) (H:Hp) (x y:V) (v u:Value) (Q:VK),Inv X pins σ H s->RelV x v->RelV y u->t x y H Q ->
  wpAny (model X.prog X.w) X.A (inplaceOp op v u) (EP X pins σ Q) X.xe s
section
variable {X:Cx} {pos:Pos}
noncomputable def V7(i:Nat):TG:=fun v σ H Q=>Q (σ.set i (some v)) H
theorem k7{i:Nat}{x:Str}(hN:X.N.Nodup)(hi:X.N[i]?=some x)(hx:Loc X.env.scope x)(hf:X.fn x=true∨X.env.scope.names.lookup x=some .local:=by first | exact .inl rfl | exact .inr rfl | assumption):PG X (.Name x pos) (V7 i):=by
 intro pins s σ H v u Q I r h
 exact wpAny_assign_Name (Zb I hN hi hx r (fun s' I'=>⟨_,H,I',h⟩) hf)
noncomputable def gNil:TGs:=fun vs σ H Q=>vs= []/\Q σ H
noncomputable def zie(t:TG)(u:TGs):TGs:=fun vs σ H Q=>∃ v r,vs=v::r/\t v σ H fun σ' H'=>u r σ' H' Q
theorem pgs_nil:PGs X [] gNil:=by
 intro pins s σ H vs us Q I r h
 obtain⟨e,h⟩:=h
 subst e
 cases r
 exact assignInOrder_nil ⟨σ,H,I,h⟩
theorem zcc{e:Expr}{es:List Expr}{t:TG}{u:TGs}(h1:PG X e t)(h2:PGs X es u)
  (hs:(assignEach (e::es) X.env).map (·.2)=assign e X.env::(assignEach es X.env).map (·.2):=by rfl):PGs X (e::es) (zie t u):=by
 intro pins s σ H vs us Q I r h
 obtain⟨v,vr,e1,h⟩:=h
 subst e1
 cases r with
 |cons r rr=>
  rw[hs]
  refine assignInOrder_cons (thn (h1 pins s σ H _ _ _ I r h) fun _ s1 ⟨σ1,H1,I1,q1⟩=>?_)
  exact h2 pins s1 σ1 H1 _ _ Q I1 rr q1
noncomputable def gTup(K:PySem.W.Frag)(n:Nat)(t:TGs):TG:=fun v σ H Q=>∃ a xs,v=.ref a/\SqT K H a xs/\xs.length=n/\t xs σ H Q
theorem zhi{es:List Expr}{k:Nat}{t:TGs}{n:Nat}(hc:X.calm=true)(h:PGs X es t)
  (hn:(assignEach es X.env).length=n:=by rfl) (hst:(assignEach es X.env).findIdx? (·.1)=none:=by rfl):PG X (.Tuple es k pos) (gTup X.K n t):=by
 intro pins s σ H v u Q I r hw
 obtain⟨a,xs,e1,hq,hl,hw⟩:=hw
 subst e1
 cases r
 obtain⟨its,rv,ht,hz⟩:=I.tuple hq
 refine assign_Tuple_tuple (I.ok.hd hc) ht (by simp[hn,<- hl,rv.length]) hst fun h' hx=>?_
 have I1:Inv X pins σ H { s with heap:=h' }:=I.kept (t':=s.toks) fun b o e=>hx b o (xu (Heap.lt_size e)) e
 exact h pins _ σ H xs _ Q I1 (by simpa using rv) hw
noncomputable def zia(to ti:TE)(t:zdx):TG:=fun v σ H Q=>to σ H fun o H1=>ti σ H1 fun i H2=>t o i v H2 fun H3=>Q σ H3
theorem zgM{o i:Expr}{to ti:TE}{t:zdx}(ho:PE X o to)(hi:PE X i ti)(hs:zgB X t)
  (ha:∀ v,assign (.Subscript o i pos) X.env v=(do
   let ov<-holding [v] (eval o X.env)
   let iv<-holding [v,ov] (eval i X.env)
   standAt pos
   holding [v,ov,iv] (setItem ov iv v)
   release [v,ov,iv] []):=by intro _;rfl):PG X (.Subscript o i pos) (zia to ti t):=by
 intro pins s σ H v u Q I r h
 rw[ha]
 refine wpAny_bind (wpAny_holding (thn (ho pins s σ H _ I h) fun ov s1 ⟨x,H1,I1,r1,q1⟩=>?_))
 refine wpAny_bind (wpAny_holding (thn (hi pins s1 σ H1 _ I1 q1) fun iv s2 ⟨y,H2,I2,r2,q2⟩=>?_))
 refine wpAny_bind (wpAny_standAt (wpAny_bind (wpAny_holding (thn (hs pins s2 σ H2 x y v ov iv u _ I2 r1 r2 r q2) fun _ s3 ⟨H3,I3,q3⟩=>?_))))
 exact wpAny_release ⟨σ,H3,I3,q3⟩
noncomputable def Ye(te:TE)(g:TG):TS:=fun D σ H=>te σ H fun x H1=>g x σ H1 D.nx
theorem YR{tg e:Expr}{te:TE}{g:TG}(he:PE X e te)(hg:PG X tg g)(hs:swapsWithSole [tg] e pos.line X.env=pure false:=by rfl)(hw:swappedStores [tg] e X.env=pure none:=by rfl)
    (h1:(assignEach [tg] X.env).map (·.2)= [assign tg X.env]:=by rfl):PS X (.Assign [tg] e pos) (Ye te g):=by
  intro pins s σ H D I h
  refine wpAny_Assign_stores (thn (he pins s σ H _ I h) fun v s1 ⟨x,H1,I1,r1,q1⟩=>?_) hs hw
  rw[h1]
  exact thn (hg pins s1 σ H1 x v _ I1 r1 q1) fun _ s2 q=>q
theorem Vj{i:Nat}{x:Str}{e:Expr}{te:TE}{pos':Pos}(hN:X.N.Nodup)(hi:X.N[i]?=some x)(hx:Loc X.env.scope x)(he:PE X e te)(hs:swapsWith e (some (.Name x pos')) pos.line X.env=pure false:=by rfl)(hf:X.fn x=true∨X.env.scope.names.lookup x=some .local:=by first | exact .inl rfl | exact .inr rfl | assumption) :
    PS X (.Assign [.Name x pos'] e pos) (Ye te (V7 i)):=by
  intro pins s σ H D I h
  refine wpAny_Assign_Name (thn (he pins s σ H _ I h) fun v s1 ⟨y,H1,I1,r1,q1⟩=>?_) hs
  exact Zb I1 hN hi hx r1 (fun s2 I2=>⟨_,H1,I2,q1⟩) hf
noncomputable def tAug(i:Nat)(te:TE)(ti:TIp):TS:=fun D σ H=>∃ x,σ[i]?=some (some x)/\te σ H fun y H1=>ti x y H1 fun z H2=>D.nx (σ.set i (some z)) H2
theorem zgx{i:Nat}{x:Str}{e:Expr}{te:TE}{op:Operator}{ti:TIp}{pos':Pos}(hN:X.N.Nodup)(hi:X.N[i]?=some x)(hx:Loc X.env.scope x)(he:PE X e te)(ho:PIp X op ti)(hf:X.fn x=true∨X.env.scope.names.lookup x=some .local:=by first | exact .inl rfl | exact .inr rfl | assumption) :
    PS X (.AugAssign (.Name x pos') op e pos) (tAug i te ti):=by
  intro pins s σ H D I h
  obtain⟨v,e1,h⟩:=h
  obtain⟨m,hn,hl⟩:=I.loc
  have vis:Vis X.env.scope x:=by rcases hx with k | k;exact .inl k;exact .inr (.inl k)
  obtain⟨u,r,l⟩:=hl i x v hi e1 vis
  refine wpAny_AugAssign_Name ?_
  have go:wpAny (model X.prog X.w) X.A (eval e X.env) (fun w s₂=>wpAny (model X.prog X.w) X.A (inplaceOp op u w) (fun r s₃=>wpAny (model X.prog X.w) X.A (storeName X.env x r) (fun _=>SP X pins D .next) X.xe s₃) X.xe s₂) X.xe s:=by
    refine thn (he pins s σ H _ I h) fun w s1 ⟨y,H1,I1,r1,q1⟩=>?_
    refine thn (ho pins s1 σ H1 v y u w _ I1 r r1 q1) fun z s2 ⟨zv,H2,I2,r2,q2⟩=>?_
    exact Zb I2 hN hi hx r2 (fun s3 I3=>⟨_,H2,I3,q2⟩) hf
  rcases l with ⟨hk,hm⟩ | ⟨hk,c,hc,hcell⟩
  · exact wpAny_loadName_local I.ok.kind hk hn hm go
  · rcases hk with hk | hk
    · exact wpAny_loadName_cell I.ok.kind hk hc hcell go
    · rcases hx with k | k
      · have : X.env.scope.names.lookup x = some .free := hk
        rw[k]at this;cases this
      · have : X.env.scope.names.lookup x = some .free := hk
        rw[k]at this;cases this
end
section
variable {X:Cx} {pos:Pos}
noncomputable def zgQ(c:TT)(tb:TS):TS:=fun D σ H=>∃ W:Nat->St->Hp->Prop,(∃ m,W m σ H)/\∀ m σ H,W m σ H ->
 c σ H fun b H1=>if b=true then ∃ N:St->Hp->Prop,(∀ σ' H',N σ' H'->∃ m',m'<m/\W m' σ' H')/\tb { D with nx:=N,ct:=N,bk:=D.nx } σ H1 else D.nx σ H1
theorem zbu{c:Expr}{body:List Stmt}{tc:TT}{tb:TS}(hp:PassesOwn (model X.prog X.w) X.A X.env X.xe)(hc:PT X c tc)(hb:PSs X body tb):PS X (.While c body [] pos) (zgQ tc tb):=by
 intro pins s σ H D I h
 obtain⟨W,⟨m0,w0⟩,turn⟩:=h
 refine wpAny_While (codeAny_whileLoop (fun n s'=>∃ σ' H',Inv X pins σ' H' s'/\W n σ' H') ?_ m0 ⟨σ,H,I,w0⟩)
 rintro n s1 ⟨σ1,H1,I1,w1⟩
 refine wpAny_passesOwn hp (thn (hc pins s1 σ1 H1 _ I1 (turn n σ1 H1 w1)) fun b s2 ⟨H2,I2,q2⟩=>?_)
 cases b with
 |true=>
  obtain⟨N,hN,q2⟩:=q2
  rw[if_pos rfl]
  refine wpAny_passesOwn hp (thn (hb pins s2 σ1 H2 _ I2 q2) fun f s3 q3=>?_)
  cases f with
  |next=>
   obtain⟨σ3,H3,I3,n3⟩:=q3
   obtain⟨m',hm,w3⟩:=hN σ3 H3 n3
   exact⟨m',hm,σ3,H3,I3,w3⟩
  |cont=>
   obtain⟨σ3,H3,I3,n3⟩:=q3
   obtain⟨m',hm,w3⟩:=hN σ3 H3 n3
   exact⟨m',hm,σ3,H3,I3,w3⟩
  |brk=>exact q3
  |ret v=>exact q3
 |false=>
  rw[if_neg uz]
  exact wpAny_execs_nil ⟨σ1,H2,I2,q2⟩
end
structure It where
 go:Nat->Hp->Prop
 yld:Nat->Hp->V->Hp->Prop
 stop:Nat->Hp->Prop
noncomputable def Jn(X:Cx)(pins:List (Addr×Obj))(H:Hp)(b:Addr):Prop :=
 H b=none/\b≠X.env.locals/\b∉X.fs/\(b∈X.ex∨X.s₀.heap.objs.size<=b)/\(∀ x c,X.env.cells.lookup x=some c->c≠b)/\∀ p∈X.pn++pins,p.1≠b
theorem Inv.fpOk{X:Cx}{pins:List (Addr×Obj)}{σ:St}{H H':Hp}{s:Shared}{b:Addr}(I:Inv X pins σ H s)(hb:s.heap.objs.size<=b)(hn:H' b=none):Jn X pins H' b:=by
 refine⟨hn,Nat.ne_of_gt (xy I.lt hb),I.nofs hb,.inr (xM I.sz hb),fun x c e z=>?_,fun p hp z=>?_⟩
 ·obtain⟨v,q⟩:=I.cell x c e
  exact absurd (xy q.lt (by rw[z];exact hb)) (uc _)
 ·exact absurd (xy (Heap.lt_size (I.pin p hp).1) (by rw[z];exact hb)) (uc _)
structure zaw(P:Program)(w:World)(K:PySem.W.Frag)(tg:Expr)(J:It)(fp:List Addr)(it:Addr)(tn:Nat->Heap->Prop):Prop where
 mem:it∈fp
 obj:∀ i h,tn i h->∀ b∈fp,∃ o,h.get? b=some o/\∀ v,o.data≠ .cell v
 keep:∀ i h h',tn i h->(∀ b∈fp,∀ o,h.get? b=some o->h'.get? b=some o)->tn i h'
 item:∀ (X:Cx),X.prog=P->X.w=w->X.K=K->X.calm=true->∀ (i:Nat) (pins:List (Addr×Obj)) (s:Shared) (σ:St) (H:Hp) (E:Value->Shared->Prop),Inv X pins σ H s->(∀ b∈fp,Jn X pins H b)->tn i s.heap->J.go i H ->
  wpAny (model P w) X.A (pyNext (.ref it)) (fun r s1=>∃ u,r=some u /\
   wpAny (model P w) X.A (letOwnedTupleGo tg (.ref it) u) (fun _ s2=>∃ x H',Inv X pins σ H' s2/\RelV x u/\J.yld i H x H'/\tn (i+1) s2.heap/\∀ b∈fp,H' b=none) E s1) E s
 done:∀ (X:Cx),X.prog=P->X.w=w->X.K=K->X.calm=true->∀ (i:Nat) (pins:List (Addr×Obj)) (s:Shared) (σ:St) (H:Hp) (E:Value->Shared->Prop),Inv X pins σ H s->(∀ b∈fp,Jn X pins H b)->tn i s.heap->J.stop i H ->
  wpAny (model P w) X.A (pyNext (.ref it)) (fun r s1=>r=none/\Inv X pins σ H s1) E s
 self:∀ (A:Around) (i:Nat) (s:Shared) (Q:Value->Shared->Prop) (E:Value->Shared->Prop),tn i s.heap->Q (.ref it) s->wpAny (model P w) A (pyIter (.ref it)) Q E s
noncomputable abbrev TI:=St->Hp->(It->Hp->Prop)->Prop
noncomputable def PIE(X:Cx)(pins:List (Addr×Obj))(σ:St)(tg:Expr)(R:It->Hp->Prop)(itv:Value)(s2:Shared):Prop :=
 ∃ (it:Addr) (fp:List Addr) (tn:Nat->Heap->Prop) (J:It) (H':Hp),itv=.ref it/\Inv X pins σ H' s2/\zaw X.prog X.w X.K tg J fp it tn/\tn 0 s2.heap/\(∀ b∈fp,Jn X pins H' b)/\R J H'
noncomputable def PI(X:Cx)(tg iter:Expr)(wi:TI):Prop :=
 ∀ (pins:List (Addr×Obj)) (s:Shared) (σ:St) (H:Hp) (R:It->Hp->Prop),Inv X pins σ H s->wi σ H R ->
  wpAny (model X.prog X.w) X.A (eval iter X.env) (fun v s1=>wpAny (model X.prog X.w) X.A (pyIter v) (PIE X pins σ tg R) X.xe s1) X.xe s
theorem zdm{M:Model}{A:Around}{E:Value->Shared->Prop}{s:Shared}{tg:Expr}{it:Addr}{u:Value}{o:Obj}{n:String}{vs:Array Value}{Q:Unit->Shared->Prop}(ho:s.heap.get? it=some o)(hc:o.cls=.type n)(hd:o.data=.fields vs)
    (hn: ["enumerate","zip","dict_itemiterator","dict_reverseitemiterator","odict_iterator","itertools.zip_longest","itertools.pairwise"].contains n=false) (hQ:Q () s):wpAny M A (letOwnedTupleGo tg (.ref it) u) Q E s:=by
  unfold letOwnedTupleGo
  cases tg<;>first
    |exact wpAny_pure hQ
    | (cases u<;>first
        |exact wpAny_pure hQ
        | (refine wpAny_bind (wpAny_load ho ?_)
           rw[hc,hd]
           show wpAny M A (if (["enumerate","zip","dict_itemiterator","dict_reverseitemiterator","odict_iterator","itertools.zip_longest","itertools.pairwise"].contains n&&vs[0]?==some (rawInt _))=true then _ else _) Q E s
           rw[if_neg (by intro h;rw[hn,Bool.false_and]at h;cases h)]
           exact wpAny_pure hQ))
noncomputable def Itl(K:PySem.W.Frag)(a:Addr):It :=
 ⟨fun i H=>∃ xs x,SqL K H a xs/\xs[i]?=some x,fun i H x H'=>H'=H/\∀ xs,SqL K H a xs->xs[i]?=some x,fun i H=>∃ xs,SqL K H a xs/\xs.length<=i⟩
noncomputable def Itt(K:PySem.W.Frag)(a:Addr):It :=
 ⟨fun i H=>∃ xs x,SqT K H a xs/\xs[i]?=some x,fun i H x H'=>H'=H/\∀ xs,SqT K H a xs->xs[i]?=some x,fun i H=>∃ xs,SqT K H a xs/\xs.length<=i⟩
noncomputable def Itr(lo:Int)(n:Nat):It:=⟨fun i _=>i<n,fun i H x H'=>H'=H/\x=.int (lo+i),fun i _=>n<=i⟩
theorem K4{P:Program}{w:World}{K:PySem.W.Frag}{tg:Expr}(a it:Addr):zaw P w K tg (Itl K a) [it] it (fun i h=>h.IsListIter it a i) where
 mem:=by simp
 obj:=fun i h st b hb=>by
  have e:b=it:=by simpa using hb
  subst e
  obtain⟨o,e,c,d⟩:=st
  exact⟨o,e,fun v z=>by rw[d]at z;cases z⟩
 keep:=fun i h h' st k=>st.at fun o e=>k it (by simp) o e
 item:=by
  intro X hP hw hK hc i pins s σ H E I hf st hg
  subst hP hw hK
  obtain⟨xs,x,hq,hx⟩:=hg
  obtain⟨its,rv,p,hz⟩:=I.list hq
  obtain⟨u,hu,ru⟩:=rv.get hx
  obtain⟨f0,f1,f2,f3,f4,f5⟩:=hf it (by simp)
  refine wpAny_pyNext_list_item st p.isList (x:=u) (by simpa using hu) fun h' st' sb=>?_
  have I1:Inv X pins σ H { s with heap:=h' }:=I.turned (t':=s.toks) (fun b o hb e=>(sb.2 b hb).trans e) f0 f1 f3 f4 f5
  obtain⟨o,e,c,d⟩:=id st'
  exact⟨u,rfl,zdm (s:={ s with heap:=h' }) e c d (by decide) ⟨x,H,I1,ru,⟨rfl,fun ys hy=>by rw[I.list_inj hy hq];exact hx⟩,st',fun b hb=>(hf b hb).1⟩⟩
 done:=by
  intro X hP hw hK hc i pins s σ H E I hf st hg
  subst hP hw hK
  obtain⟨xs,hq,hx⟩:=hg
  obtain⟨its,rv,p,hz⟩:=I.list hq
  obtain⟨f0,f1,f2,f3,f4,f5⟩:=hf it (by simp)
  have hl:=rv.length
  exact wpAny_pyNext_list_end (I.ok.hd hc) st p.isList (by simp;omega) fun h' eb=>⟨rfl,I.turned (t':=s.toks) (fun b o hb e=>eb b o hb e) f0 f1 f3 f4 f5⟩
 self:=fun _ _ _ _ _ st h=>wpAny_pyIter_listiter st h
theorem Yn{P:Program}{w:World}{K:PySem.W.Frag}{tg:Expr}(a it:Addr):zaw P w K tg (Itt K a) [it] it (fun i h=>h.IsTupleIter it a i) where
 mem:=by simp
 obj:=fun i h st b hb=>by
  have e:b=it:=by simpa using hb
  subst e
  obtain⟨o,e,c,d⟩:=st
  exact⟨o,e,fun v z=>by rw[d]at z;cases z⟩
 keep:=fun i h h' st k=>st.at fun o e=>k it (by simp) o e
 item:=by
  intro X hP hw hK hc i pins s σ H E I hf st hg
  subst hP hw hK
  obtain⟨xs,x,hq,hx⟩:=hg
  obtain⟨its,rv,p,hz⟩:=I.tuple hq
  obtain⟨u,hu,ru⟩:=rv.get hx
  obtain⟨f0,f1,f2,f3,f4,f5⟩:=hf it (by simp)
  refine wpAny_pyNext_tuple_item st (show s.heap.IsTuple a its.toArray from p) (x:=u) (by simpa using hu) fun h' st' sb=>?_
  have I1:Inv X pins σ H { s with heap:=h' }:=I.turned (t':=s.toks) (fun b o hb e=>(sb.2 b hb).trans e) f0 f1 f3 f4 f5
  obtain⟨o,e,c,d⟩:=id st'
  exact⟨u,rfl,zdm (s:={ s with heap:=h' }) e c d (by decide) ⟨x,H,I1,ru,⟨rfl,fun ys hy=>by rw[I.tuple_inj hy hq];exact hx⟩,st',fun b hb=>(hf b hb).1⟩⟩
 done:=by
  intro X hP hw hK hc i pins s σ H E I hf st hg
  subst hP hw hK
  obtain⟨xs,hq,hx⟩:=hg
  obtain⟨its,rv,p,hz⟩:=I.tuple hq
  obtain⟨f0,f1,f2,f3,f4,f5⟩:=hf it (by simp)
  have hl:=rv.length
  exact wpAny_pyNext_tuple_end (I.ok.hd hc) st (show s.heap.IsTuple a its.toArray from p) (by simp;omega) fun h' eb=>⟨rfl,I.turned (t':=s.toks) (fun b o hb e=>eb b o hb e) f0 f1 f3 f4 f5⟩
 self:=fun _ _ _ _ _ st h=>wpAny_pyIter_tupleiter st h
theorem Yz{P:Program}{w:World}{K:PySem.W.Frag}{tg:Expr}(it:Addr)(lo:Int)(n:Nat):zaw P w K tg (Itr lo n) [it] it (fun i h=>IsRangeIter h it (lo+(i:Nat)*1) ((n:Int)-(i:Nat)) 1) where
 mem:=by simp
 obj:=fun i h st b hb=>by
  have e:b=it:=by simpa using hb
  subst e
  exact⟨_,st,fun v z=>by
   have z':Data.fields _=Data.cell v:=z
   cases z'⟩
 keep:=fun i h h' st k=>k it (by simp) _ st
 item:=by
  intro X hP hw hK hc i pins s σ H E I hf st hg
  subst hP hw hK
  obtain⟨f0,f1,f2,f3,f4,f5⟩:=hf it (by simp)
  have W:=Walks.range (prog:=X.prog) (w:=X.w) (I.ok.hd hc) it lo 1 n
  refine W.item i s _ _ hg st fun v h' tk hv st' kk=>?_
  obtain⟨t,rfl⟩:=hv
  have I1:Inv X pins σ H { s with heap:=h',toks:=tk }:=I.turned (fun b o hb e=>kk b o (by simpa using hb) e) f0 f1 f3 f4 f5
  refine⟨_,rfl,zdm (s:={ s with heap:=h',toks:=tk }) (n:= "range_iterator") st' rfl rfl (by decide) ⟨.int (lo+i),H,I1,⟨t,?_⟩,⟨rfl,rfl⟩,st',fun b hb=>(hf b hb).1⟩⟩
  rw[Int.mul_one]
 done:=by
  intro X hP hw hK hc i pins s σ H E I hf st hg
  subst hP hw hK
  obtain⟨f0,f1,f2,f3,f4,f5⟩:=hf it (by simp)
  exact wpAny_pyNext_range_end (I.ok.hd hc) st (by have:n<=i:=hg;omega) fun h' eb=>⟨rfl,I.turned (t':=s.toks) (fun b o hb e=>eb b o hb e) f0 f1 f3 f4 f5⟩
 self:=fun _ _ _ _ _ st h=>wpAny_pyIter_rangeiter st h
end L2
namespace L2
open PySem PySem.Spec PyProof.Rows
section
variable {X:Cx} {tg:Expr}
noncomputable def zhZ(K:PySem.W.Frag)(tl:TE):TI:=fun σ H R=>tl σ H fun x H1=>∃ a,x=.ref a/\(∃ xs,SqL K H1 a xs)/\R (Itl K a) H1
noncomputable def iTup(K:PySem.W.Frag)(tl:TE):TI:=fun σ H R=>tl σ H fun x H1=>∃ a,x=.ref a/\(∃ xs,SqT K H1 a xs)/\R (Itt K a) H1
theorem Kq{l:Expr}{tl:TE}(hl:PE X l tl):PI X tg l (zhZ X.K tl):=by
 intro pins s σ H R I h
 refine thn (hl pins s σ H _ I h) fun v s1 ⟨x,H1,I1,r1,q1⟩=>?_
 obtain⟨a,e,⟨xs,hq⟩,q⟩:=q1
 subst e
 cases r1
 obtain⟨its,rv,p,hz⟩:=I1.list hq
 refine wpAny_pyIter_list p.isList ?_
 refine⟨s1.heap.objs.size,[s1.heap.objs.size],_,_,H1,rfl,I1.kept (t':=s1.toks) fun b o e=>Heap.get?_push_of_some _ e,K4 a _,⟨_,Heap.get?_push_size _ rfl,rfl,rfl⟩,fun b hb=>?_,q⟩
 have e:b=s1.heap.objs.size:=by simpa using hb
 subst e
 exact I1.fpOk (xm _) (I1.hok.fresh (xm _))
theorem zfJ{l:Expr}{tl:TE}(hl:PE X l tl):PI X tg l (iTup X.K tl):=by
 intro pins s σ H R I h
 refine thn (hl pins s σ H _ I h) fun v s1 ⟨x,H1,I1,r1,q1⟩=>?_
 obtain⟨a,e,⟨xs,hq⟩,q⟩:=q1
 subst e
 cases r1
 obtain⟨its,rv,p,hz⟩:=I1.tuple hq
 refine wpAny_pyIter_tuple (show s1.heap.IsTuple a its.toArray from p) ?_
 refine⟨s1.heap.objs.size,[s1.heap.objs.size],_,_,H1,rfl,I1.kept (t':=s1.toks) fun b o e=>Heap.get?_push_of_some _ e,Yn a _,⟨_,Heap.get?_push_size _ rfl,rfl,rfl⟩,fun b hb=>?_,q⟩
 have e:b=s1.heap.objs.size:=by simpa using hb
 subst e
 exact I1.fpOk (xm _) (I1.hok.fresh (xm _))
theorem za9{pins:List (Addr×Obj)}{σ:St}{H:Hp}{s:Shared}{R:It->Hp->Prop}{E:Value->Shared->Prop}{lo hi:Int}{t u v:Tok}{tk:Nat}(I:Inv X pins σ H s)(h1: -(2 ^ 62)<=lo)(h2:lo<2 ^ 62)(h3: -(2 ^ 62)<=hi)(h4:hi<2 ^ 62)
  (q:R (Itr lo (hi-lo).toNat) H):wpAny (model X.prog X.w) X.A (pyIter (.ref s.heap.objs.size)) (PIE X pins σ tg R) E { s with heap:=s.heap.push { cls:=.type "range",data:=.fields #[.int lo t,.int hi u,.int 1 v] },toks:=tk }:=by
 refine wpAny_pyIter_range (IsRange.new ..) (small_one h1 h2 h3 h4) ?_
 have I1:Inv X pins σ H { s with heap:=s.heap.push { cls:=.type "range",data:=.fields #[.int lo t,.int hi u,.int 1 v] },toks:=tk }:=I.kept fun b o e=>Heap.get?_push_of_some _ e
 refine⟨(s.heap.push { cls:=.type "range",data:=.fields #[.int lo t,.int hi u,.int 1 v] }).objs.size,[(s.heap.push { cls:=.type "range",data:=.fields #[.int lo t,.int hi u,.int 1 v] }).objs.size],_,_,H,rfl,
  I1.kept (t':=tk) fun b o e=>Heap.get?_push_of_some _ e,Yz _ lo (hi-lo).toNat,?_,fun b hb=>?_,q⟩
 ·have e1:lo+((0:Nat):Int)*1=lo:=by simp
  have e2:(((hi-lo).toNat:Nat):Int)-((0:Nat):Int)=Builtin.Range.rangeSize lo hi 1:=by rw[rangeSize_one];split<;>omega
  show IsRangeIter _ _ (lo+((0:Nat):Int)*1) ((((hi-lo).toNat:Nat):Int)-((0:Nat):Int)) 1
  rw[e1,e2]
  exact Heap.get?_push_size _ rfl
 ·have e:b=(s.heap.push { cls:=.type "range",data:=.fields #[.int lo t,.int hi u,.int 1 v] }).objs.size:=by simpa using hb
  subst e
  exact I1.fpOk (xm _) (I1.hok.fresh (xm _))
noncomputable def zhO(ta:TA):TI:=fun σ H R=>ta σ H fun vs H1=>∃ j:Int,vs= [.int j]/\ -(2 ^ 62)<=j/\j<2 ^ 62/\R (Itr 0 j.toNat) H1
theorem KU {a:Expr}{ta:TA}{p pos:Pos}(hg:Gl X "range") (hm:X.mg "range" =none) (ha:PA X [a] ta) (hs:starEach [a] X.env= [(false,eval a X.env)]:=by rfl):PI X tg (.Call (.Name "range" p) [a] [] pos) (zhO ta):=by
 intro pins s σ H R I h
 refine Call_ (jt I hg hm boot_range (PyProof.Rows.callWith_type1 (thn (ha pos pins s σ H _ I h) fun us s1 ⟨vs,H1,I1,r1,q1⟩=>?_) hs rfl))
 obtain⟨j,e,q1,q2,q⟩:=q1
 subst e
 cases r1 with
 |cons r rr=>
  cases rr
  obtain⟨t,rfl⟩:=r
  exact call_range_1 (za9 I1 (by omega) (by omega) q1 q2 (by simpa using q))
noncomputable def tFor(wi:TI)(g:TG)(tb:TS):TS:=fun D σ H=>wi σ H fun J H1=>∃ W:Nat->Nat->St->Hp->Prop,(∃ m,W 0 m σ H1)/\∀ i m σ H,W i m σ H ->
 (J.stop i H/\D.nx σ H)∨(J.go i H/\∃ N:St->Hp->Prop,(∀ σ' H',N σ' H'->∃ m',m'<m/\W (i+1) m' σ' H')/\∀ x H',J.yld i H x H'->g x σ H' fun σ2 H2=>tb { D with nx:=N,ct:=N,bk:=D.nx } σ2 H2)
noncomputable def Js(fp:List Addr)(h:Heap):List (Addr×Obj):=fp.filterMap fun b=>(h.get? b).map fun o=>(b,o)
theorem jL{fp:List Addr}{h:Heap}{b:Addr}{o:Obj}(hb:b∈fp)(e:h.get? b=some o):(b,o)∈Js fp h:=uA.mpr ⟨b,hb,by rw[e];rfl⟩
theorem KT{fp:List Addr}{h:Heap}{p:Addr×Obj}(hp:p∈Js fp h):p.1∈fp/\h.get? p.1=some p.2:=by
 obtain⟨b,hb,e⟩:=uA.mp hp
 cases q:h.get? b with
 |none=>rw[q]at e;cases e
 |some o=>
  rw[q]at e
  have e':(b,o)=p:=Option.some.inj e
  subst e'
  exact⟨hb,q⟩
theorem Inv.pinned{pins:List (Addr×Obj)}{σ:St}{H:Hp}{s:Shared}{fp:List Addr}(I:Inv X pins σ H s)(hf:∀ b∈fp,Jn X pins H b)(ho:∀ b∈fp,∃ o,s.heap.get? b=some o/\∀ v,o.data≠ .cell v):Inv X (pins++Js fp s.heap) σ H s :=
 I.pins_of fun p hp=>(xJ.mp hp).elim (fun z=>I.pin p (xB _ z)) fun z=>by
  obtain⟨hb,e⟩:=KT z
  obtain⟨f0,f1,f2,_⟩:=hf p.1 hb
  obtain⟨o,e',d⟩:=ho p.1 hb
  rw[e]at e';cases e'
  exact⟨e,f0,f1,f2,d⟩
theorem Inv.unpinned{pins pl:List (Addr×Obj)}{σ:St}{H:Hp}{s:Shared}(I:Inv X (pins++pl) σ H s):Inv X pins σ H s:=I.pins_of fun p hp=>I.pin p (xB _ (xq _ hp))
theorem zdf{iter:Expr}{body:List Stmt}{wi:TI}{g:TG}{tb:TS}{pos:Pos}(hp:PassesOwn (model X.prog X.w) X.A X.env X.xe)(hc:X.calm=true)(hi:PI X tg iter wi)(hg:PG X tg g)(hb:PSs X body tb)
  (hs:∀ x,foldedSetIterable iter X.env x=pure x:=by intro _;rfl):PS X (.For tg iter body [] pos) (tFor wi g tb):=by
 intro pins s σ H D I h
 refine wpAny_For (thn (hi pins s σ H _ I h) fun v s1 h1=>thn h1 fun itv s2 h2=>?_) hs
 obtain⟨it,fp,tn,J,H2,e,I2,T,st2,f2,W,⟨m0,w0⟩,turn⟩:=h2
 subst e
 -- what stays true of the iterator's objects through the loop
 have stat:∀ {H':Hp},(∀ b∈fp,H' b=none)->∀ b∈fp,Jn X pins H' b:=fun hn b hb=>⟨hn b hb,(f2 b hb).2⟩
 refine codeAny_forLoop_any (fun n s'=>∃ i σ' H',Inv X pins σ' H' s'/\tn i s'.heap/\(∀ b∈fp,H' b=none)/\W i n σ' H') ?_ m0 ⟨0,σ,H2,I2,st2,fun b hb=>(f2 b hb).1,w0⟩
 rintro n s3 ⟨i,σ3,H3,I3,st3,fr3,w3⟩
 rcases turn i n σ3 H3 w3 with ⟨stop,qn⟩ | ⟨go,N,hN,step⟩
 ·refine wpAny_passesOwn hp (thn (T.done X rfl rfl rfl hc i pins s3 σ3 H3 X.xe I3 (stat fr3) st3 stop) fun r s4 ⟨hr,I4⟩=>?_)
  subst hr
  exact wpAny_execs_nil ⟨σ3,H3,I4,qn⟩
 ·refine wpAny_passesOwn hp (thn (T.item X rfl rfl rfl hc i pins s3 σ3 H3 X.xe I3 (stat fr3) st3 go) fun r s4 ⟨u,hr,h4⟩=>?_)
  subst hr
  refine wpAny_passesOwn hp (thn h4 fun _ s5 ⟨x,H5,I5,r5,y5,st5,fr5⟩=>?_)
  have I5':=I5.pinned (stat fr5) (T.obj _ _ st5)
  refine wpAny_passesOwn hp (thn (hg _ s5 σ3 H5 x u _ I5' r5 (step x H5 y5)) fun _ s6 ⟨σ6,H6,I6,q6⟩=>?_)
  refine wpAny_passesOwn hp (thn (hb _ s6 σ6 H6 _ I6 q6) fun f s7 q7=>?_)
  have again:∀ {σ7:St} {H7:Hp},Inv X (pins++Js fp s5.heap) σ7 H7 s7->N σ7 H7->∃ m,m<n/\∃ i σ' H',Inv X pins σ' H' s7/\tn i s7.heap/\(∀ b∈fp,H' b=none)/\W i m σ' H':=fun {σ7 H7} I7 n7=>by
   obtain⟨m',hm,w7⟩:=hN σ7 H7 n7
   refine⟨m',hm,i+1,σ7,H7,I7.unpinned,T.keep _ _ _ st5 fun b hb o e=>(I7.pin (b,o) (xB _ (xB _ (jL hb e)))).1,fun b hb=>?_,w7⟩
   obtain⟨o,e,d⟩:=T.obj _ _ st5 b hb
   exact (I7.pin (b,o) (xB _ (xB _ (jL hb e)))).2.1
  cases f with
  |next=>obtain⟨σ7,H7,I7,n7⟩:=q7;exact again I7 n7
  |cont=>obtain⟨σ7,H7,I7,n7⟩:=q7;exact again I7 n7
  |brk=>obtain⟨σ7,H7,I7,q7⟩:=q7;exact⟨σ7,H7,I7.unpinned,q7⟩
  |ret v=>obtain⟨x7,σ7,H7,I7,r7,q7⟩:=q7;exact⟨x7,σ7,H7,I7.unpinned,r7,q7⟩
end
theorem zbP{K:PySem.W.Frag}{a:Addr}{xs:List V}{g:TG}{tb:TS}{D:jk}{σ:St}{H:Hp}(Pv:Nat->St->Hp->Prop)(h0:Pv 0 σ H)(hl:∀ i σ H,i<=xs.length->Pv i σ H->SqL K H a xs)
  (hs:∀ i x σ H,xs[i]?=some x->Pv i σ H->g x σ H fun σ2 H2=>tb { D with nx:=Pv (i+1),ct:=Pv (i+1),bk:=D.nx } σ2 H2) (hd:∀ σ H,Pv xs.length σ H->D.nx σ H) :
  ∃ W:Nat->Nat->St->Hp->Prop,(∃ m,W 0 m σ H)/\∀ i m σ H,W i m σ H ->
   ((Itl K a).stop i H/\D.nx σ H)∨((Itl K a).go i H/\∃ N:St->Hp->Prop,(∀ σ' H',N σ' H'->∃ m',m'<m/\W (i+1) m' σ' H')/\∀ x H',(Itl K a).yld i H x H'->g x σ H' fun σ2 H2=>tb { D with nx:=N,ct:=N,bk:=D.nx } σ2 H2):=by
 refine⟨fun i m σ H=>m=xs.length-i/\i<=xs.length/\Pv i σ H,⟨xs.length,by simp,ui _,h0⟩,?_⟩
 rintro i m σ H ⟨rfl,hi,p⟩
 have q:=hl i σ H hi p
 by_cases hlt:i<xs.length
 ·refine .inr ⟨⟨xs,xs[i],q,by simp[hlt]⟩,Pv (i+1),fun σ' H' p'=>⟨xs.length-(i+1),by omega,rfl,hlt,p'⟩,fun x H' y=>?_⟩
  obtain⟨e,y⟩:=y
  subst e
  exact hs i x σ _ (y xs q) p
 ·have e:i=xs.length:=by omega
  subst e
  exact .inl ⟨⟨xs,q,xm _⟩,hd σ H p⟩
end L2
namespace L2
open PySem PySem.Spec PyProof.Rows
noncomputable abbrev R2:=V->V->Hp->VK->Prop
noncomputable def OpR(X:Cx)(f:Value->Value->Sem Value)(r:R2):Prop :=
 ∀ (pins:List (Addr×Obj)) (s:Shared) (σ:St) (H:Hp) (x y:V) (v u:Value) (Q:VK),Inv X pins σ H s->RelV x v->RelV y u->r x y H Q ->
  wpAny (model X.prog X.w) X.A (f v u) (EP X pins σ Q) X.xe s
noncomputable def UnR(X:Cx)(f:Value->Sem Value)(r:V->Hp->VK->Prop):Prop :=
 ∀ (pins:List (Addr×Obj)) (s:Shared) (σ:St) (H:Hp) (x:V) (v:Value) (Q:VK),Inv X pins σ H s->RelV x v->r x H Q ->
  wpAny (model X.prog X.w) X.A (f v) (EP X pins σ Q) X.xe s
noncomputable def jn(X:Cx)(f:Value)(r:List V->Hp->VK->Prop):Prop :=
 ∀ (pins:List (Addr×Obj)) (s:Shared) (σ:St) (H:Hp) (xs:List V) (us:List Value) (Q:VK),Inv X pins σ H s->Vals xs us->r xs H Q ->
  wpAny (model X.prog X.w) X.A (call f us) (EP X pins σ Q) X.xe s
noncomputable def TruR(X:Cx)(r:V->Hp->(Bool->Hp->Prop)->Prop):Prop :=
 ∀ (pins:List (Addr×Obj)) (s:Shared) (σ:St) (H:Hp) (x:V) (v:Value) (Q:Bool->Hp->Prop),Inv X pins σ H s->RelV x v->r x H Q ->
  wpAny (model X.prog X.w) X.A (truthy v) (TP X pins σ Q) X.xe s
noncomputable def tOp(r:R2)(ta tb:TE):TE:=fun σ H Q=>ta σ H fun x H1=>tb σ H1 fun y H2=>r x y H2 Q
noncomputable def tUn(r:V->Hp->VK->Prop)(ta:TE):TE:=fun σ H Q=>ta σ H fun x H1=>r x H1 Q
noncomputable def rI(C:Int->Int->Prop)(g:Int->Int->V):R2:=fun x y H Q=>∃ i j,x=.int i/\y=.int j/\C i j/\Q (g i j) H
noncomputable def rI0(g:Int->Int->V):R2:=fun x y H Q=>∃ i j,x=.int i/\y=.int j/\Q (g i j) H
noncomputable def rU(g:Int->V):V->Hp->VK->Prop:=fun x H Q=>∃ i,x=.int i/\Q (g i) H
section
variable {X:Cx} {a b c:Expr} {ta tb tc:TE} {pos:Pos}
theorem zfN(ha:PE X a ta)(hb:PE X b tb){pins:List (Addr×Obj)}{s:Shared}{σ:St}{H:Hp}{R:V->V->Hp->Prop}(I:Inv X pins σ H s)
  (h:ta σ H fun x H1=>tb σ H1 fun y H2=>R x y H2) {Q:Value->Shared->Prop} {f:Value->Value->Sem Value}
  (hf:∀ v u s2 x y H2,Inv X pins σ H2 s2->RelV x v->RelV y u->R x y H2->wpAny (model X.prog X.w) X.A (f v u) Q X.xe s2) :
  wpAny (model X.prog X.w) X.A (eval a X.env) (fun v s₁=>wpAny (model X.prog X.w) X.A (eval b X.env) (fun u s₂=>wpAny (model X.prog X.w) X.A (f v u) Q X.xe s₂) X.xe s₁) X.xe s:=by
 refine thn (ha pins s σ H _ I h) fun v s1 ⟨x,H1,I1,r1,q1⟩=>?_
 refine thn (hb pins s1 σ H1 _ I1 q1) fun u s2 ⟨y,H2,I2,r2,q2⟩=>?_
 exact hf v u s2 x y H2 I2 r1 r2 q2
theorem WU{op:Operator}{r:R2}(ho:OpR X (binaryOp op) r)(ha:PE X a ta)(hb:PE X b tb):PE X (.BinOp a op b pos) (tOp r ta tb):=by
 intro pins s σ H Q I h
 exact wpAny_BinOp (zfN ha hb I h fun v u s2 x y H2 I2 rx ry q=>ho pins s2 σ H2 x y v u Q I2 rx ry q)
theorem zfe{op:UnaryOp}{r:V->Hp->VK->Prop}(ho:UnR X (unaryOp op) r)(ha:PE X a ta):PE X (.UnaryOp op a pos) (tUn r ta):=by
 intro pins s σ H Q I h
 exact UnaryOp_ (thn (ha pins s σ H _ I h) fun v s1 ⟨x,H1,I1,r1,q1⟩=>ho pins s1 σ H1 x v Q I1 r1 q1)
theorem opI{f:Value->Value->Sem Value}{C:Int->Int->Prop}{g:Int->Int->Int}
  (rule:∀ (i j:Int) (t u:Tok) (s:Shared) (Q:Value->Shared->Prop) (E:Value->Shared->Prop),C i j->Q (.int (g i j) s.toks) { s with toks:=s.toks+1 }->wpAny (model X.prog X.w) X.A (f (.int i t) (.int j u)) Q E s) :
  OpR X f (rI C fun i j=>.int (g i j)):=by
 intro pins s σ H x y v u Q I rx ry h
 obtain⟨i,j,rfl,rfl,hc,q⟩:=h
 obtain⟨t,rfl⟩:=rx
 obtain⟨t',rfl⟩:=ry
 exact rule i j t t' s _ _ hc ⟨.int (g i j),H,I.tok _,⟨_,rfl⟩,q⟩
theorem zgl{f:Value->Value->Sem Value}{g:Int->Int->Int}
  (rule:∀ (i j:Int) (t u:Tok) (s:Shared) (Q:Value->Shared->Prop) (E:Value->Shared->Prop),Q (.int (g i j) s.toks) { s with toks:=s.toks+1 }->wpAny (model X.prog X.w) X.A (f (.int i t) (.int j u)) Q E s) :
  OpR X f (rI0 fun i j=>.int (g i j)):=by
 intro pins s σ H x y v u Q I rx ry h
 obtain⟨i,j,rfl,rfl,q⟩:=h
 obtain⟨t,rfl⟩:=rx
 obtain⟨t',rfl⟩:=ry
 exact rule i j t t' s _ _ ⟨.int (g i j),H,I.tok _,⟨_,rfl⟩,q⟩
theorem zeM{f:Value->Value->Sem Value}{g:Int->Int->Bool}
  (rule:∀ (i j:Int) (t u:Tok) (s:Shared) (Q:Value->Shared->Prop) (E:Value->Shared->Prop),Q (.bool (g i j)) s->wpAny (model X.prog X.w) X.A (f (.int i t) (.int j u)) Q E s) :
  OpR X f (rI0 fun i j=>.bl (g i j)):=by
 intro pins s σ H x y v u Q I rx ry h
 obtain⟨i,j,rfl,rfl,q⟩:=h
 obtain⟨t,rfl⟩:=rx
 obtain⟨t',rfl⟩:=ry
 exact rule i j t t' s _ _ ⟨.bl (g i j),H,I,rfl,q⟩
noncomputable def CDiv(i j:Int):Prop:=0<j/\j<1073741824
noncomputable def zhN(i j:Int):Prop:=0<=j/\j<=1000000/\i.natAbs<2 ^ 64
noncomputable def CMul(i j:Int):Prop:=(-(2 ^ 64)<i/\i<2 ^ 64)∨(-(2 ^ 64)<j/\j<2 ^ 64)
theorem CMul.ok{i j:Int}(h:CMul i j):IntMulOk i j:=by
 rcases h with ⟨h1,h2⟩ | ⟨h1,h2⟩
 ·exact .of_left (intBits_le_64 h1 h2)
 ·exact .of_right (intBits_le_64 h1 h2)
theorem YU(k:Nat):(0:Int)<=2 ^ k:=by
 rw[two_pow_cast]
 exact Int.natCast_nonneg _
theorem Y0:OpR X (binaryOp .Add) (rI0 fun i j=>.int (i+j)):=zgl fun _ _ _ _ _ _ _ q=>add_int q
theorem zgO:OpR X (binaryOp .Sub) (rI0 fun i j=>.int (i-j)):=zgl fun _ _ _ _ _ _ _ q=>sub_int q
theorem zcG:OpR X (binaryOp .Mult) (rI CMul fun i j=>.int (i*j)):=opI fun _ _ _ _ _ _ _ hc q=>mul_int q hc.ok
theorem zdM:OpR X (binaryOp .FloorDiv) (rI CDiv fun i j=>.int (i / j)):=opI fun i j _ _ _ _ _ hc q=>by
 have h1:(0:Int)<j:=hc.1
 have h2:j<1073741824:=hc.2
 exact floordiv_int (by omega) (by rw[Int.fdiv_eq_ediv_of_nonneg i (by omega)];exact q) (.inl (PyProof.noPylong_small (by omega)))
theorem zch:OpR X (binaryOp .Mod) (rI (fun _ j=>0<j) fun i j=>.int (i % j)):=opI fun i j _ _ _ _ _ hc q=>by
 have h1:(0:Int)<j:=hc
 exact mod_int' (by omega) (by rw[Int.fmod_eq_emod_of_nonneg i (by omega)];exact q)
theorem zgK:OpR X (binaryOp .Pow) (rI zhN fun i j=>.int (i ^ j.toNat)):=opI fun _ _ _ _ _ _ _ hc q=>pow_int_small hc.1 hc.2.1 hc.2.2 q
theorem zfF:OpR X (binaryOp .LShift) (rI zhN fun i j=>.int (i*2 ^ j.toNat)):=opI fun _ _ _ _ _ _ _ hc q=>lshift_int_small hc.1 hc.2.1 hc.2.2 q
theorem zg7:OpR X (binaryOp .RShift) (rI (fun _ j=>0<=j) fun i j=>.int (i / 2 ^ j.toNat)):=opI fun i j _ _ _ _ _ hc q=>
 rshift_int hc (by rw[Int.fdiv_eq_ediv_of_nonneg i (YU _)];exact q)
theorem zgf:OpR X (binaryOp .BitAnd) (rI0 fun i j=>.int (Builtin.bitAnd i j)):=zgl fun _ _ _ _ _ _ _ q=>and_int q
theorem unI{f:Value->Sem Value}{g:Int->Int}
  (rule:∀ (i:Int) (t:Tok) (s:Shared) (Q:Value->Shared->Prop) (E:Value->Shared->Prop),Q (.int (g i) s.toks) { s with toks:=s.toks+1 }->wpAny (model X.prog X.w) X.A (f (.int i t)) Q E s) :
  UnR X f (rU fun i=>.int (g i)):=by
 intro pins s σ H x v Q I rx h
 obtain⟨i,rfl,q⟩:=h
 obtain⟨t,rfl⟩:=rx
 exact rule i t s _ _ ⟨.int (g i),H,I.tok _,⟨_,rfl⟩,q⟩
theorem zgG:UnR X (unaryOp .USub) (rU fun i=>.int (-i)):=unI fun _ _ _ _ _ q=>neg_int q
end
section
variable {X:Cx} {a b c:Expr} {ta tb tc:TE} {pos:Pos}
theorem zcE{pins:List (Addr×Obj)}{σ:St}{H:Hp}{s:Shared}{Q:VK}{k k':Bool}(I:Inv X pins σ H s)(q:Q (.bl k) H)(e:k=k'):EP X pins σ Q (.bool k') s:=by
 subst e
 exact⟨.bl k,H,I,rfl,q⟩
theorem zh9:OpR X (compareOp .Lt) (rI0 fun i j=>.bl (decide (i<j))):=zeM fun _ _ _ _ _ _ _ q=>lt_int q
theorem zhY:OpR X (compareOp .LtE) (rI0 fun i j=>.bl (decide (i<=j))):=zeM fun _ _ _ _ _ _ _ q=>le_int q
theorem zh0:OpR X (compareOp .Gt) (rI0 fun i j=>.bl (decide (j<i))):=zeM fun _ _ _ _ _ _ _ q=>gt_int q
theorem zib:OpR X (compareOp .GtE) (rI0 fun i j=>.bl (decide (j<=i))):=zeM fun _ _ _ _ _ _ _ q=>ge_int q
theorem zfX:OpR X (compareOp .Is) (fun x y H Q=>y=.non/\Q (.bl (decide (x=.non))) H):=by
 intro pins s σ H x y v u Q I rx ry h
 obtain⟨rfl,q⟩:=h
 cases ry
 refine is_none_gen (zcE I q ?_)
 cases x<;>first
  | (cases rx;rfl)
  | (obtain⟨t,rfl⟩:=rx;rfl)
theorem zep:OpR X (compareOp .IsNot) (fun x y H Q=>y=.non/\Q (.bl (!decide (x=.non))) H):=by
 intro pins s σ H x y v u Q I rx ry h
 obtain⟨rfl,q⟩:=h
 cases ry
 refine isnot_none_gen (zcE I q ?_)
 cases x<;>first
  | (cases rx;rfl)
  | (obtain⟨t,rfl⟩:=rx;rfl)
theorem zeo{op:CmpOp}{r:R2}(ho:OpR X (compareOp op) r)(ha:PE X a ta)(hb:PE X b tb)(hm:behindInMarks op b=false):PE X (.Compare a [op] [b] pos) (tOp r ta tb):=by
 intro pins s σ H Q I h
 exact wpAny_Compare1 (zfN ha hb I h fun v u s2 x y H2 I2 rx ry q=>ho pins s2 σ H2 x y v u Q I2 rx ry q) hm
noncomputable def ze7(t:TE):TT:=fun σ H Q=>t σ H fun x H'=>∃ k,x=.bl k/\Q k H'
theorem zeV{op:CmpOp}{r:R2}(ho:OpR X (compareOp op) r)(ha:PE X a ta)(hb:PE X b tb)(hm:behindInMarks op b=false):PT X (.Compare a [op] [b] pos) (ze7 (tOp r ta tb)):=by
 intro pins s σ H Q I h
 refine wpAny_isTrue_Compare1 (thn (ha pins s σ H _ I h) fun v s1 ⟨x,H1,I1,r1,q1⟩=>thn (hb pins s1 σ H1 _ I1 q1) fun u s2 ⟨y,H2,I2,r2,q2⟩=>
  thn (ho pins s2 σ H2 x y v u _ I2 r1 r2 q2) fun c s3 ⟨z,H3,I3,r3,k,e,q3⟩=>?_) hm
 subst e
 cases r3
 exact wpAny_truthy_bool ⟨H3,I3,q3⟩
noncomputable def YT(r r':R2)(ta tb tc:TE):TE:=fun σ H Q=>ta σ H fun x H1=>tb σ H1 fun y H2=>r x y H2 fun z H3=>∃ k,z=.bl k /\
 (if k=true then tc σ H3 fun w' H4=>r' y w' H4 Q else Q (.bl false) H3)
theorem zbB{op op':CmpOp}{r r':R2}(ho:OpR X (compareOp op) r)(ho':OpR X (compareOp op') r')(ha:PE X a ta)(hb:PE X b tb)(hc:PE X c tc)
  (hm:lastMarks [op,op'] [b,c]=false:=by with_unfolding_all rfl):PE X (.Compare a [op,op'] [b,c] pos) (YT r r' ta tb tc):=by
 intro pins s σ H Q I h
 refine Compare_chain (thn (ha pins s σ H _ I h) fun v s1 ⟨x,H1,I1,r1,q1⟩=>chain_link (thn (hb pins s1 σ H1 _ I1 q1) fun u s2 ⟨y,H2,I2,r2,q2⟩=>
  thn (ho pins s2 σ H2 x y v u _ I2 r1 r2 q2) fun d s3 ⟨z,H3,I3,r3,k,e,q3⟩=>?_)) hm
 subst e
 cases r3
 refine wpAny_truthy_bool ?_
 cases k with
 |false=>exact ite_ff ⟨.bl false,H3,I3,rfl,q3⟩
 |true=>exact ite_tt (chain_last (thn (hc pins s3 σ H3 _ I3 q3) fun w' s4 ⟨z',H4,I4,r4,q4⟩=>ho' pins s4 σ H4 y z' u w' Q I4 r2 r4 q4))
theorem zcd{op op':CmpOp}{r r':R2}(ho:OpR X (compareOp op) r)(ho':OpR X (compareOp op') r')(ha:PE X a ta)(hb:PE X b tb)(hc:PE X c tc)
  (hm:lastMarks [op,op'] [b,c]=false:=by with_unfolding_all rfl):PT X (.Compare a [op,op'] [b,c] pos) (ze7 (YT r r' ta tb tc)):=by
 intro pins s σ H Q I h
 refine isTrue_chain (thn (ha pins s σ H _ I h) fun v s1 ⟨x,H1,I1,r1,q1⟩=>test_link (thn (hb pins s1 σ H1 _ I1 q1) fun u s2 ⟨y,H2,I2,r2,q2⟩=>
  thn (ho pins s2 σ H2 x y v u _ I2 r1 r2 q2) fun d s3 ⟨z,H3,I3,r3,k,e,q3⟩=>?_)) hm
 subst e
 cases r3
 refine wpAny_truthy_bool ?_
 cases k with
 |false=>
  obtain⟨k',e',q'⟩:=q3
  cases e'
  exact ite_ff ⟨H3,I3,q'⟩
 |true=>
  refine ite_tt (test_last (thn (hc pins s3 σ H3 _ I3 q3) fun w' s4 ⟨z',H4,I4,r4,q4⟩=>thn (ho' pins s4 σ H4 y z' u w' _ I4 r2 r4 q4) fun d' s5 ⟨z2,H5,I5,r5,k2,e2,q5⟩=>?_))
  subst e2
  cases r5
  exact wpAny_truthy_bool ⟨H5,I5,q5⟩
noncomputable def zeG(K:PySem.W.Frag)(x:V)(H:Hp)(k:Bool):Prop :=
 match x with
 |.non=>k=false
 |.bl b=>k=b
 |.int i=>k=(i !=0)
 |.str y=>y.length<=sizeLine/\k=((y.length:Int) !=0)
 |.byt y=>y.size<=sizeLine/\k=((y.size:Int) !=0)
 |.ref p=>(∃ xs,SqL K H p xs/\k= !xs.isEmpty)∨(∃ xs,SqT K H p xs/\k= !xs.isEmpty)∨∃ kvs,H p=some (.dK kvs)/\k= !kvs.isEmpty
 |_=>False
theorem YH{κ:Type}{kvs:List (κ×V)}{vs:List (κ×Value)}(r:KV kvs vs):(!vs.isEmpty)= !kvs.isEmpty:=by
 cases r<;>rfl
theorem Wg{xs:List V}{its:List Value}(r:Vals xs its):(!its.toArray.isEmpty)= !xs.isEmpty:=by
 cases r<;>simp
theorem We:(sizeLine:Nat)<2 ^ 63:=by rw[sizeLine_eq];decide
theorem zb1:TruR X (fun x H Q=>∃ k,zeG X.K x H k/\Q k H):=by
 intro pins s σ H x v Q I rx h
 obtain⟨k,e,q⟩:=h
 have hl:=We
 have hs:sizeLine=16777216:=sizeLine_eq
 cases x with
 |non=>
  cases rx
  have e':k=false:=e
  subst e'
  exact truthy_none ⟨H,I,q⟩
 |bl b=>
  cases rx
  have e':k=b:=e
  subst e'
  exact wpAny_truthy_bool ⟨H,I,q⟩
 |int i=>
  obtain⟨t,rfl⟩:=rx
  have e':k=(i !=0):=e
  subst e'
  exact PySem.P.truthy_int ⟨H,I,q⟩
 |str y=>
  obtain⟨t,rfl⟩:=rx
  obtain⟨hy,e'⟩:y.length<=sizeLine/\k=((y.length:Int) !=0):=e
  subst e'
  exact PySem.P.truthy_str (by omega) ⟨H,I.tok _,q⟩
 |byt y=>
  obtain⟨t,rfl⟩:=rx
  obtain⟨hy,e'⟩:y.size<=sizeLine/\k=((y.size:Int) !=0):=e
  subst e'
  exact PySem.W.truthy_bytes (by omega) ⟨H,I.tok _,q⟩
 |ref p=>
  cases rx
  have e':(∃ xs,SqL X.K H p xs/\k= !xs.isEmpty)∨(∃ xs,SqT X.K H p xs/\k= !xs.isEmpty)∨∃ kvs,H p=some (.dK kvs)/\k= !kvs.isEmpty:=e
  rcases e' with ⟨xs,hx,e'⟩ | ⟨xs,hx,e'⟩ | ⟨kvs,hx,e'⟩
  ·subst e'
   obtain⟨its,r,pl,hz⟩:=I.list hx
   have hlen:=r.length
   exact wpAny_truthy_list pl.isList (by simp only[xp];omega) ⟨H,I.tok _,by rw[Wg r];exact q⟩
  ·subst e'
   obtain⟨its,r,pl,hz⟩:=I.tuple hx
   have hlen:=r.length
   exact truthy_tuple pl (by simp only[xp];omega) ⟨H,I.tok _,by rw[Wg r];exact q⟩
  ·subst e'
   obtain⟨hz,hS,vs,r,m⟩:kvs.length<=sizeLine/\(p==sysModules)=false/\∃ vs,KV kvs vs/\s.heap.DictOf (Vt X.prog X.w) p vs:=I.hok p _ hx
   have hlen:kvs.length=vs.length:=Paired.length r
   exact wpAny_truthy_dict hS m (by omega) ⟨H,I.tok _,by rw[YH r];exact q⟩
 |_=>exact (show False from e).elim
theorem za7(ha:PE X a ta)(he:∀ whole,isTrue a X.env whole=(do let v<-whole;standAt a.pos;holding [v] (truthy v))) :
  PT X a (fun σ H Q=>ta σ H fun x H'=>∃ k,zeG X.K x H' k/\Q k H'):=by
 intro pins s σ H Q I h
 exact isTrue_plain (thn (ha pins s σ H _ I h) fun v s1 ⟨x,H1,I1,r1,q1⟩=>zb1 pins s1 σ H1 x v Q I1 r1 q1) (he _)
theorem Zg{x:V}{us:List Value}(r:Vals [x] us):∃ u,us= [u]/\RelV x u:=by
 cases r with
 |cons r1 r2=>cases r2;exact⟨_,rfl,r1⟩
theorem zbx{x y:V}{us:List Value}(r:Vals [x,y] us):∃ u w',us= [u,w']/\RelV x u/\RelV y w':=by
 cases r with
 |cons r1 r2=>
  cases r2 with
  |cons r3 r4=>cases r4;exact⟨_,_,rfl,r1,r3⟩
theorem Ks (hc:X.calm=true):jn X (.builtin "max") (fun xs H Q=>∃ i j,xs= [.int i,.int j]/\Q (.int (if j>i then j else i)) H):=by
 intro pins s σ H xs us Q I r h
 obtain⟨i,j,rfl,q⟩:=h
 obtain⟨u,w',rfl,⟨t,rfl⟩,⟨t',rfl⟩⟩:=zbx r
 refine max_two_ints (I.ok.hd hc) fun h' tk k=>⟨_,H,I.kept k,?_,q⟩
 by_cases hj:j>i
 ·rw[if_pos hj,if_pos hj];exact⟨_,rfl⟩
 ·rw[if_neg hj,if_neg hj];exact⟨_,rfl⟩
theorem K9 (hc:X.calm=true):jn X (.builtin "min") (fun xs H Q=>∃ i j,xs= [.int i,.int j]/\Q (.int (if j<i then j else i)) H):=by
 intro pins s σ H xs us Q I r h
 obtain⟨i,j,rfl,q⟩:=h
 obtain⟨u,w',rfl,⟨t,rfl⟩,⟨t',rfl⟩⟩:=zbx r
 refine min_two_ints (I.ok.hd hc) fun h' tk k=>⟨_,H,I.kept k,?_,q⟩
 by_cases hj:j<i
 ·rw[if_pos hj,if_pos hj];exact⟨_,rfl⟩
 ·rw[if_neg hj,if_neg hj];exact⟨_,rfl⟩
theorem WG:jn X (.type "int") (fun xs H Q=>(∃ i,xs= [.int i]/\Q (.int i) H)∨∃ k,xs= [.bl k]/\Q (.int (if k then 1 else 0)) H):=by
 intro pins s σ H xs us Q I r h
 rcases h with ⟨i,rfl,q⟩ | ⟨k,rfl,q⟩
 ·obtain⟨u,rfl,t,rfl⟩:=Zg r
  exact call_int_int ⟨.int i,H,I,⟨_,rfl⟩,q⟩
 ·obtain⟨u,rfl,r1⟩:=Zg r
  cases r1
  exact call_int_bool ⟨.int (if k then 1 else 0),H,I.tok _,⟨_,rfl⟩,q⟩
end
end L2
namespace L2
open PySem PySem.Spec PyProof.Rows
structure ObjM(h:Heap)(x dx C:Addr)(mA:Str->Option Value):Prop where
 obj:h.get? x=some (PySem.W.instObj C dx)
 ns:h.Ns1 dx mA
 ne:dx≠x
theorem Ky{h:Heap}{dx:Addr}{mA:Str->Option Value}(n:h.Ns1 dx mA):∃ od,h.get? dx=some od/\∀ name,PySem.W.lookIn name od=some (mA name):=by
 obtain⟨o,es,ep,ho,hd,hk,_,hm⟩:=n
 refine⟨o,ho,fun name=>?_⟩
 have e:=hm name
 unfold nsFind findBy at e
 rw[<- Array.find?_toList]at e
 unfold PySem.W.lookIn
 rw[hd]
 dsimp only
 split
 ·rename_i y q
  rw[q]at e
  exact congrArg some e
 ·rename_i q
  rw[q]at e
  have a:es.toList.any (·.refKey)=false:=by
   rw[List.any_eq_false]
   intro y hy
   obtain⟨z,t,hkey⟩:=hk y (Array.mem_toList_iff.mp hy)
   simp[DictEntry.refKey,hkey]
  have a':¬ es.toList.any (·.refKey)=true:=by rw[a];exact uz
  rw[if_neg a']
  exact congrArg some e
theorem ObjM.look{h:Heap}{x dx C:Addr}{mA:Str->Option Value}(I:ObjM h x dx C mA):∃ od,PySem.W.InstAt h x (PySem.W.instObj C dx) C (some od)/\∀ name,PySem.W.lookIn name od=some (mA name) :=
 let ⟨od,ho,hl⟩:=Ky I.ns
 ⟨od,⟨I.obj,rfl,rfl,ho⟩,hl⟩
section
variable {prog:Program} {w:World} {A:Around} {E:Value->Shared->Prop} {s:Shared} {K:PySem.W.Frag} {x dx C f:Addr} {mA:Str->Option Value} {name:Str} {v:Value}
end
section
variable {P:Program} {w:World} {H H':Hp} {h h':Heap} {a C dx:Addr} {fs fs':List (Str×V)}
theorem zd6(hok:HOk P w H h)(e:H a=some (.ins C dx fs)):∃ mA,ObjM h a dx C mA/\(∀ f,zf0 (fs.lookup f) (mA f))/\PySem.Within mA (fs.map (·.1))/\fs.length<=1000/\H dx=some (.own a):=by
 obtain⟨d,z,ne,ob,mA,n,r,q⟩:=(show ObjOk P w H h a (.ins C dx fs) from hok a _ e)
 exact⟨mA,⟨ob,n,ne⟩,r,q,z,d⟩
end
structure Cls(K:PySem.W.Frag)(C:Addr):Prop where
 pg:PySem.W.plainGet K C Str.empty=true
 hd:PySem.W.hasDictIn K C=true
 po:PySem.W.plainOver K C=true
 sa:PySem.W.findIn K (.ref C) "__setattr__" =some (some (.builtin "object.__setattr__"))
theorem Cls.get{K:PySem.W.Frag}{C:Addr}(c:Cls K C)(f:Str):PySem.W.plainGet K C f=true:=c.pg
section
variable {X:Cx} {pins:List (Addr×Obj)} {σ:St} {H:Hp} {s:Shared} {a C dx:Addr} {fs:List (Str×V)} {f:Str} {v:V} {A:Around} {E:Value->Shared->Prop}
end
section
variable {X:Cx} {o e value:Expr} {f:Str} {pos pos' tpos:Pos} {ta tv:TE}
end
section
variable {X:Cx} {pins:List (Addr×Obj)} {σ:St} {H:Hp} {s:Shared} {A:Around} {E:Value->Shared->Prop} {Q:Value->Shared->Prop} {c:Value} {b:Bool}
inductive Qm(K:PySem.W.Frag)(H:Hp):V->Value->Prop where
 |non:Qm K H .non (.type "NoneType")
 |bl (x:Bool):Qm K H (.bl x) (.type "bool")
 |int (i:Int):Qm K H (.int i) (.type "int")
 |str (x:Str):Qm K H (.str x) (.type "str")
 |flt (x:UInt64):Qm K H (.flt x) (.type "float")
 |lst {a:Addr} {xs:List V} (e:H a=some (.lst xs)):Qm K H (.ref a) (.type "list")
 |frz {a:Addr} {o:Obj} {xs:List V} (e:H a=some (.frz o (.lst xs))):Qm K H (.ref a) (.type "list")
 |tup {a:Addr} {xs:List V} (e:H a=some (.tup xs)):Qm K H (.ref a) (.type "tuple")
 |dK {a:Addr} {kvs:List (Key×V)} (e:H a=some (.dK kvs)):Qm K H (.ref a) (.type "dict")
 |dT {a:Addr} {kvs:List (List Key×V)} (e:H a=some (.dT kvs)):Qm K H (.ref a) (.type "dict")
 |ins {a C dx:Addr} {fs:List (Str×V)} (e:H a=some (.ins C dx fs)) (cl:Cls K C) (ha:PySem.W.findIn K (.ref C) "__class__" =some (some (.builtin "object.__class__")))
   (hn:PySem.W.specialIn K (.builtin "object.__class__") "__get__" =some (some (.builtin "getset_descriptor.__get__"))) (htk:PySem.W.takesIn K (.builtin "object.__class__")=some true)
   (hm:PySem.W.mroIn K C (.type "object")=some true):Qm K H (.ref a) (.ref C)
theorem K6{x:V}{u t:Value}(I:Inv X pins σ H s)(rx:RelV x u)(ty:Qm X.K H x t)(e:PySem.W.kitOne X.K t c=some b)(h:∀ tk,Q (.bool b) { s with toks:=tk }) :
  wpAny (model X.prog X.w) A (call (.builtin "isinstance") [u,c]) Q E s:=by
 cases ty with
 |non=>cases (show u=Value.none from rx);exact PySem.W.kia_one PySem.W.kitx_none I.kIn True.intro e (fun z=>nomatch z) h
 |bl y=>cases (show u=Value.bool y from rx);exact PySem.W.kia_one PySem.W.kitx_bool I.kIn True.intro e (fun z=>nomatch z) h
 |int i=>obtain⟨t,q⟩:=(show ∃ t,u=Value.int i t from rx);cases q;exact PySem.W.kia_one PySem.W.kitx_int I.kIn True.intro e (fun z=>nomatch z) h
 |str y=>obtain⟨t,q⟩:=(show ∃ t,u=Value.str y t from rx);cases q;exact PySem.W.kia_one PySem.W.kitx_str I.kIn True.intro e (fun z=>nomatch z) h
 |flt y=>obtain⟨t,q⟩:=(show ∃ t,u=Value.float y t from rx);cases q;exact PySem.W.kia_one PySem.W.kitx_float I.kIn True.intro e (fun z=>nomatch z) h
 | @lst a xs ea=>
  cases (show u=Value.ref a from rx)
  obtain⟨_,_,n,_,h1⟩:=(show ObjOk X.prog X.w H s.heap a (.lst xs) from I.hok a _ ea)
  exact PySem.W.kia_one PySem.W.kitx_list I.kIn ⟨_,h1,rfl⟩ e (fun z=>nomatch z) h
 | @frz a ob xs ea=>
  cases (show u=Value.ref a from rx)
  obtain⟨_,_,_,n,_,h1⟩:=(show ObjOk X.prog X.w H s.heap a (.frz ob (.lst xs)) from I.hok a _ ea)
  exact PySem.W.kia_one PySem.W.kitx_list I.kIn ⟨_,h1,rfl⟩ e (fun z=>nomatch z) h
 | @tup a xs ea=>
  cases (show u=Value.ref a from rx)
  obtain⟨_,_,_,p⟩:=(show ObjOk X.prog X.w H s.heap a (.tup xs) from I.hok a _ ea)
  obtain⟨o,h1,h2,_⟩:=p
  exact PySem.W.kia_one PySem.W.kitx_tuple I.kIn ⟨o,h1,h2⟩ e (fun z=>nomatch z) h
 | @dK a kvs ea=>
  cases (show u=Value.ref a from rx)
  obtain⟨_,_,vs,_,p⟩:=(show ObjOk X.prog X.w H s.heap a (.dK kvs) from I.hok a _ ea)
  obtain⟨o,es,ep,h1,h2,_⟩:=p
  exact PySem.W.kia_one PySem.W.kitx_dict I.kIn ⟨o,h1,h2.1⟩ e (fun z=>nomatch z) h
 | @dT a kvs ea=>
  cases (show u=Value.ref a from rx)
  obtain⟨_,_,xs,_,o,es,ep,h1,h2,_⟩:=(show ObjOk X.prog X.w H s.heap a (.dT kvs) from I.hok a _ ea)
  exact PySem.W.kia_one PySem.W.kitx_dict I.kIn ⟨o,h1,h2.1⟩ e (fun z=>nomatch z) h
 | @ins a C dx fs ea cl ha hn htk hm=>
  cases (show u=Value.ref a from rx)
  obtain⟨mA,O,_⟩:=zd6 I.hok ea
  obtain⟨od,J,_⟩:=O.look
  exact PySem.W.kia_one (PySem.W.kitx_own (cl.get _) cl.hd ha hn htk hm) I.kIn J e (fun z=>nomatch z) h
end
end L2
namespace L2
open PySem PySem.Spec PyProof.Rows
structure Room(k:Nat)(A:Around):Prop where
 hd:A.handled=none
 dp:A.depth+3*k+5<recursionLimit
 un:A.units+16*k+200<cLine
theorem Room.mono{j k:Nat}{A:Around}(r:Room k A)(h:j<=k):Room j A:=⟨r.hd,by have:=r.dp;omega,by have:=r.un;omega⟩
theorem Room.deeper{k:Nat}{A:Around}(r:Room (k+1) A)(env:Env):Room k (A.deeper env) :=
 ⟨r.hd,by have:=r.dp;show A.depth+1+3*k+5<_;omega,by have:=r.un;show A.units+3+16*k+200<_;omega⟩
theorem Room.in1{k:Nat}{A:Around}(r:Room (k+1) A):Room k A.in1 :=
 ⟨r.hd,by have:=r.dp;show A.depth+3*k+5<_;omega,by have:=r.un;show A.units+1+16*k+200<_;omega⟩
theorem Room.depth{k:Nat}{A:Around}(r:Room k A):A.depth<recursionLimit:=by have:=r.dp;omega
theorem Room.units{k:Nat}{A:Around}(r:Room k A):A.units+64<cLine:=by have:=r.un;omega
noncomputable def zct:TA:=fun _ H Q=>Q [] H
noncomputable def Ko(ta:TE)(tr:TA):TA:=fun σ H Q=>ta σ H fun x H1=>tr σ H1 fun xs H2=>Q (x::xs) H2
section
variable {X:Cx} {e:Expr} {es:List Expr} {te:TE} {t:TA} {pos:Pos}
theorem pa_nil:PA X [] zct:=fun _ _ _ _ H Q I h=>Calls.spliced_nil ⟨[],H,I,.nil,h⟩
theorem zy(ha:PE X e te)(hr:PA X es t)(hs:starEach (e::es) X.env=(false,eval e X.env)::starEach es X.env:=by rfl):PA X (e::es) (Ko te t):=by
 intro pos pins s σ H Q I h
 rw[hs]
 show wpAny _ _ (spliced ((false,eval e X.env)::backTo pos (starEach es X.env))) _ _ s
 refine Calls.spliced_cons (thn (ha pins s σ H _ I h) fun u s1 ⟨x,H1,I1,r1,q1⟩=>?_)
 exact thn (hr pos pins s1 σ H1 _ I1 q1) fun us s2 ⟨xs,H2,I2,r2,q2⟩=>⟨x::xs,H2,I2,.cons r1 r2,q2⟩
noncomputable def tTup(t:TA):TE:=fun σ H Q=>t σ H fun xs H1=>xs.length<=sizeLine/\∀ p,H1 p=none->Q (.ref p) (upd H1 p (.tup xs))
noncomputable def tLst(t:TA):TE:=fun σ H Q=>t σ H fun xs H1=>xs.length<=sizeLine/\∀ p,H1 p=none->Q (.ref p) (upd H1 p (.lst xs))
theorem zfK{x1}(h:PA X es t):PE X (.Tuple es x1 pos) (tTup t):=by
 intro pins s σ H Q I hq
 refine wpAny_Tuple_spliced (thn (h pos pins s σ H _ I hq) fun us s1 ⟨xs,H1,I1,r,z,q⟩=>⟨by rw[<- r.length];exact z,?_⟩)
 have hf:H1 s1.heap.objs.size=none:=I1.hok.fresh (xm _)
 refine⟨.ref s1.heap.objs.size,upd H1 s1.heap.objs.size (.tup xs),I1.laid (t':=s1.toks) (fun b u e=>Heap.get?_push_of_some _ e) (xm _) ?_,rfl,q _ hf⟩
 exact⟨z,us,r,⟨_,Heap.get?_push_size _ rfl,rfl,_,rfl⟩⟩
theorem zcP(h:PA X es t):PE X (.List es pos) (tLst t):=by
 intro pins s σ H Q I hq
 refine wpAny_List_spliced (thn (h pos pins s σ H _ I hq) fun us s1 ⟨xs,H1,I1,r,z,q⟩=>⟨by rw[<- r.length];exact z,?_⟩)
 have hf:H1 s1.heap.objs.size=none:=I1.hok.fresh (xm _)
 refine⟨.ref s1.heap.objs.size,upd H1 s1.heap.objs.size (.lst xs),I1.laid (t':=s1.toks) (fun b u e=>Heap.get?_push_of_some _ e) (xm _) ?_,rfl,q _ hf⟩
 exact⟨z,us,0,r,Heap.get?_push_size _ rfl⟩
end
noncomputable abbrev Sp:=List V->Hp->VK->XK->Prop
noncomputable abbrev CXT:=List Env->Hp->Shared->XK->Value->Shared->Prop
structure zeU(P:Program)(w:World)(K:PySem.W.Frag)(mg:Str->Option Value)(base:Heap)(A:Around)(outer:List Env)(s:Shared)(H:Hp):Prop where
 frames:A.frames=some outer
 mod:Mod K mg base
 bs:∀ b o,base.get? b=some o->s.heap.get? b=some o/\H b=none
 bsz:base.objs.size<=s.heap.objs.size
 funs:s.heap.FunFrames base outer
 frf:∀ b∈frs outer,H b=none
 hok:HOk P w H s.heap
 bare:AllBare s.gens
noncomputable def CE(outer:List Env)(P:Program)(w:World)(H:Hp)(s:Shared)(Q:VK)(u:Value)(s':Shared):Prop :=
 ∃ v H',s'.os=s.os/\AllBare s'.gens/\Un (frs outer) [] H H' s.heap s'.heap/\HOk P w H' s'.heap/\RelV v u/\Q v H'
noncomputable def CR(CX:CXT)(outer:List Env)(P:Program)(w:World)(H:Hp)(s:Shared)(Q:VK)(E:XK)(r:Result)(s':Shared):Prop :=
 match r with
 |.ok (.ret u)=>CE outer P w H s Q u s'
 |.ok _=>False
 |.error e=>CX outer H s E e s'
structure wC(P:Program)(w:World)(K:PySem.W.Frag)(mg:Str->Option Value)(base:Heap)(CX:CXT)(k:Nat)(f:Addr)(fd:FuncData)(ps:List Str)(sp:Sp):Prop where
 len:∀ vs H Q E,sp vs H Q E->vs.length=ps.length
 run:∀ (A:Around) (outer:List Env) (s:Shared) (H:Hp) (args:Args) (us:List Value) (vs:List V) (Q:VK) (E:XK),Room k A->zeU P w K mg base A outer s H->BindsTo s fd args (ps.zip us)->Vals vs us->sp vs H Q E ->
  codeAny (model P w) A (.call (.ref f) args) (CR CX outer P w H s Q E) s
section
variable {X:Cx} {pins:List (Addr×Obj)} {σ:St} {H:Hp} {s s':Shared}
theorem Inv.env0(I:Inv X pins σ H s):zeU X.prog X.w X.K X.mg X.base X.A X.stack s H :=
 ⟨I.ok.frames,I.ok.mod,I.bs,xM I.ok.bsz I.sz,I.stack,I.stkFree,I.hok,I.bare⟩
theorem Inv.after{Q:VK}{u:Value}(I:Inv X pins σ H s)(h:CE X.stack X.prog X.w H s Q u s'):EP X pins σ Q u s':=by
 obtain⟨v,H',os,bare,un,hok,r,q⟩:=h
 obtain⟨hh,g,d,t,os'⟩:=s'
 obtain rfl:os'=s.os:=os
 exact⟨v,H',I.call (h':=hh) (g':=g) (d':=d) (t':=t) (ch:= []) un hok bare (fun b z=>absurd z (by simp)),r,q⟩
end
noncomputable def zfd(sp:Sp)(dvs:List V)(E:XK)(t:TA):TE:=fun σ H Q=>t σ H fun vs H1=>sp (vs++dvs) H1 Q E
noncomputable def Binds(K:PySem.W.Frag)(fd:FuncData)(ps:List Str)(ds:List Value):Prop :=
 ∀ (s:Shared) (us:List Value),K.In s.heap->(us++ds).length=ps.length->BindsTo s fd ⟨us,[]⟩ (ps.zip (us++ds))
theorem Binds.all{K:PySem.W.Frag}{fd:FuncData}{ps:List Str}(h:∀ us:List Value,us.length=ps.length->bindArgs fd ⟨us,[]⟩=pure (ps.zip us)):Binds K fd ps []:=fun s us _ hl=>by
 rw[ud]at hl |-
 exact .of_eq (h us hl)
noncomputable def wx(CX:CXT)(X:Cx)(E:XK):Prop:=∀ (pins:List (Addr×Obj)) (σ:St) (H:Hp) (s:Shared) (e:Value) (s':Shared),Inv X pins σ H s->CX X.stack H s E e s'->X.xe e s'
section
variable {X:Cx} {CX:CXT} {k:Nat} {f C:Addr} {fd:FuncData} {ps:List Str} {sp:Sp} {dvs:List V} {ds:List Value} {E:XK} {x m:Str} {p pos apos:Pos} {e o:Expr} {es:List Expr} {ta:TE} {t:TA}
theorem zcU{pins:List (Addr×Obj)}{σ:St}{H:Hp}{s:Shared}{Q:VK}{us:List Value}{vs:List V}(F:wC X.prog X.w X.K X.mg X.base CX k f fd ps sp)(hr:Room k X.A)(hb:Binds X.K fd ps ds)(hd:Vals dvs ds)(hx:wx CX X E)
  (I:Inv X pins σ H s) (r:Vals vs us) (h:sp (vs++dvs) H Q E):wpAny (model X.prog X.w) X.A (call (.ref f) us) (EP X pins σ Q) X.xe s:=by
 have r2:Vals (vs++dvs) (us++ds):=r.append hd
 have hl:(us++ds).length=ps.length:=by rw[<- r2.length];exact F.len _ _ _ _ h
 refine wpAny_call (codeAny_mono (F.run X.A X.stack s H ⟨us,[]⟩ (us++ds) (vs++dvs) Q E hr I.env0 (hb s us I.kIn hl) r2 h) fun r s' hq=>?_)
 cases r with
 |error e=>exact hx pins σ H s e s' I hq
 |ok fl=>
  cases fl with
  |ret u=>exact I.after hq
  |next=>exact False.elim hq
  |brk=>exact False.elim hq
  |cont=>exact False.elim hq
theorem zea(F:wC X.prog X.w X.K X.mg X.base CX k f fd ps sp)(hr:Room k X.A)(hg:Gl X x)(hm:X.mg x=some (.ref f))(hk:PySem.W.keepIn X.K (.ref f)=true)(hb:Binds X.K fd ps ds)(hd:Vals dvs ds)(hx:wx CX X E)
  (ha:PA X (e::es) t) (hdb:(x==("__debug__" :Str))=false:=by decide) (he:starEach (e::es) X.env=(false,eval e X.env)::starEach es X.env:=by rfl) (hpl:(backTo pos (starEach es X.env)).any (·.1)=false:=by rfl) :
  PE X (.Call (.Name x p) (e::es) [] pos) (zfd sp dvs E t):=by
 intro pins s σ H Q I h
 refine wpAny_Call_Name_kw (wj I hg hm ?_ hdb)
 refine PySem.W.callWith_K (h₀:=X.base) I.ok.mod.kin hk (thn (ha pos pins s σ H _ I h) fun us s1 ⟨vs,H1,I1,r,q⟩=>⟨I1.kIn,?_⟩) he hpl
 exact zcU F hr hb hd hx I1 r q
theorem zdh(F:wC X.prog X.w X.K X.mg X.base CX k f fd ps sp)(hr:Room k X.A)(hg:Gl X x)(hm:X.mg x=some (.ref f))(hk:PySem.W.keepIn X.K (.ref f)=true)(hb:Binds X.K fd ps ds)(hd:Vals dvs ds)(hx:wx CX X E)
  (hdb:(x==("__debug__" :Str))=false:=by decide):PE X (.Call (.Name x p) [] [] pos) (zfd sp dvs E zct):=by
 intro pins s σ H Q I h
 refine wpAny_Call_Name_kw (wj I hg hm ?_ hdb)
 exact PySem.W.callWith_K0 I.kIn hk (zcU (us:= []) F hr hb hd hx I .nil h)
end
section
variable {X:Cx} {CX:CXT} {k:Nat} {f C:Addr} {fd:FuncData} {ps ks:List Str} {sp:Sp} {E:XK} {x m:Str} {p pos apos kpos:Pos} {e o:Expr} {es:List Expr} {kws:List Keyword} {te ta:TE} {t tk:TA} {nm:Option Str}
variable {g:List Value->List Value->List Value} {gV:List V->List V->List V}
end
structure qQ(N P:List Str)(sc:Scope):Prop where
 kind:sc.kind=.function
 co:sc.isCoroutine=false
 gen:sc.isGenerator=false
 nd:N.Nodup
 pre:N.take P.length=P
 par:∀ x∈P,sc.names.lookup x=some .local∨sc.names.lookup x=some .cell
 nofree:∀ y∈sc.names,y.2≠ .free
theorem WY{kindOf:Str->Option NameKind}{x:Str}:∀ {binds:List (Str×Value)}{m:Str->Option Value},(∀ v,(x,v)∉binds)->bindL kindOf binds m x=m x
 |[],_,_=>rfl
 | (n,v)::r,m,h=>by
  unfold bindL
  rw[WY fun w hw=>h w (xl _ hw)]
  split
  ·have:x≠n:=by rintro rfl;exact h v xz
   simp[this]
  ·rfl
theorem W5{kindOf:Str->Option NameKind}{x:Str}:∀ {binds:List (Str×Value)}{m:Str->Option Value},(∀ v,(x,v)∉binds)->bindC kindOf binds m x=m x
 |[],_,_=>rfl
 | (n,v)::r,m,h=>by
  unfold bindC
  rw[W5 fun w hw=>h w (xl _ hw)]
  split
  ·rfl
  ·have:x≠n:=by rintro rfl;exact h v xz
   simp[this]
theorem W9{kindOf:Str->Option NameKind}{x:Str}{v:Value}:∀ {P:List Str}{vs:List Value}{i:Nat}{m:Str->Option Value},P.Nodup->P[i]?=some x->vs[i]?=some v->kindOf x=some .local ->
  bindL kindOf (P.zip vs) m x=some v
 |[],_,_,_,_,h,_,_=>by simp at h
 |_::_,[],_,_,_,_,h,_=>by simp at h
 |p::P,w::vs,0,m,nd,h1,h2,hk=>by
  simp at h1 h2;subst h1;subst h2
  show bindL kindOf ((p,w)::P.zip vs) m p=_
  unfold bindL
  rw[WY fun v hv=>(xC.mp nd).1 (List.of_mem_zip hv).1,if_pos hk]
  simp
 |p::P,w::vs,i+1,m,nd,h1,h2,hk=>by
  show bindL kindOf ((p,w)::P.zip vs) m x=_
  unfold bindL
  exact W9 (i:=i) (xC.mp nd).2 (by simpa using h1) (by simpa using h2) hk
theorem vq{kindOf:Str->Option NameKind}{x:Str}{v:Value}:∀ {P:List Str}{vs:List Value}{i:Nat}{m:Str->Option Value},P.Nodup->P[i]?=some x->vs[i]?=some v->kindOf x≠some .local ->
  bindC kindOf (P.zip vs) m x=some v
 |[],_,_,_,_,h,_,_=>by simp at h
 |_::_,[],_,_,_,_,h,_=>by simp at h
 |p::P,w::vs,0,m,nd,h1,h2,hk=>by
  simp at h1 h2;subst h1;subst h2
  show bindC kindOf ((p,w)::P.zip vs) m p=_
  unfold bindC
  rw[W5 fun v hv=>(xC.mp nd).1 (List.of_mem_zip hv).1,if_neg hk]
  simp
 |p::P,w::vs,i+1,m,nd,h1,h2,hk=>by
  show bindC kindOf ((p,w)::P.zip vs) m x=_
  unfold bindC
  exact vq (i:=i) (xC.mp nd).2 (by simpa using h1) (by simpa using h2) hk
noncomputable def start(N:List Str)(vs:List V):St:=vs.map some++List.replicate (N.length-vs.length) none
noncomputable def Z2(CX:CXT)(P:Program)(w:World)(K:PySem.W.Frag)(mg:Str->Option Value)(base:Heap)(N:List Str)(qual:Str)(scope:Scope)(f:Addr)(cd:Value)(A:Around)(outer:List Env)(s:Shared)(H:Hp)(E:XK):Cx where
 prog:=P
 w:=w
 K:=K
 mg:=mg
 base:=base
 A:=A.deeper (envOfC qual scope s.heap.objs.size f cd)
 N:=N
 s₀:=s
 H₀:=H
 env:=envOfC qual scope s.heap.objs.size f cd
 outer:=outer
 stack:=envOfC qual scope s.heap.objs.size f cd::outer
 ex:= []
 calm:=true
 fn:=fun _=>true
 pn:= []
 xe:=fun e s'=>wpAny (model P w) (A.deeper (envOfC qual scope s.heap.objs.size f cd)) (leaving (envOfC qual scope s.heap.objs.size f cd) e) (fun _ s''=>CX outer H s E e s'') (fun e' s''=>CX outer H s E e' s'') s'
theorem Qc{sc:Scope}{n:Nat}{x:Str}(h:sc.names.lookup x=some .cell):∃ c,(cellsFrom n sc.names []).lookup x=some c:=by
 have q:=PySem.W.cellsFrom_some sc.names n [] (.inl h)
 exact uI.mp q
theorem zaN{CX:CXT}{P:Program}{w:World}{K:PySem.W.Frag}{mg:Str->Option Value}{base:Heap}{N ps:List Str}{qual:Str}{scope:Scope}{f:Addr}{cd:Value}{A:Around}{outer:List Env}{s s1:Shared}{H:Hp}{E:XK}{us:List Value}{vs:List V}
  (S:qQ N ps scope) (hd:A.handled=none) (e0:zeU P w K mg base A outer s H) (hl:vs.length=ps.length) (r:Vals vs us)
  (x:InCallC s s.heap.objs.size (bindL (envOfC qual scope s.heap.objs.size f cd).kindOf (ps.zip us) fun _=>none) (cellsFrom (s.heap.objs.size+1) scope.names []) (bindC (envOfC qual scope s.heap.objs.size f cd).kindOf (ps.zip us) fun _=>none) s1) :
  Inv (Z2 CX P w K mg base N qual scope f cd A outer s H E) [] (start N vs) H s1:=by
 have hpl:ps.length<=N.length:=by have:=congrArg List.length S.pre;rw[xW]at this;omega
 obtain⟨h1,tk,rfl,hk⟩:=x.done
 have noA:∀ b:Addr,b∉(Z2 CX P w K mg base N qual scope f cd A outer s H E).ex:=fun b z=>absurd (show b∈([]:List Addr) from z) (by simp)
 refine⟨⟨e0.mod,S.kind,rfl,rfl,xm _,fun y z c h1 h2=>?_,fun y hy=>?_,fun y c _ h=>?_,fun _=>hd,Around.frames_deeper e0.frames,.inr ⟨rfl,rfl⟩,fun b z=>absurd z (noA b),e0.bs,e0.bsz,fun b _ _=>noA b,fun b z=>absurd z (noA b),e0.funs,e0.frf⟩,
  rfl,e0.bare,Un.kept hk,⟨_,x.toInCall.ns,fun i y v h1 h2 h3=>?_⟩,fun y c h=>⟨_,x.cell y c h⟩,e0.hok.fresh (xm _),fun y c h=>?_,fun p hp=>absurd (show p∈([]:List (Addr×Obj)) from hp) (by simp),e0.hok.kept hk,?_⟩
 ·exact name_of_addr x.apart (PySem.mem_of_lookup h1) (PySem.mem_of_lookup h2)
 ·have hy:scope.names.lookup y=some .cell∨scope.names.lookup y=some .free:=hy
  rcases hy with hy | hy
  ·exact Qc hy
  ·exact absurd rfl (S.nofree _ (PySem.mem_of_lookup hy))
 ·exact uq (x.above y c (PySem.mem_of_lookup h))
 ·have hi:i<vs.length:=by
   unfold start at h2
   by_cases hi:i<vs.length
   ·exact hi
   ·rw[xg (by simpa using hi)]at h2
    rw[xQ]at h2
    split at h2<;>cases h2
  have ha:vs[i]?=some v:=by
   unfold start at h2
   rw[xf (by simpa using hi),xh]at h2
   cases e:vs[i]? with
   |none=>rw[e]at h2;cases h2
   |some a=>rw[e]at h2;cases h2;rfl
  obtain⟨u,hu,rv⟩:=r.get ha
  have hp:ps[i]?=some y:=by
   rw[<- S.pre,xX (by omega)];exact h1
  have ndP:ps.Nodup:=by rw[<- S.pre];exact S.nd.sublist (List.take_sublist _ _)
  refine⟨u,rv,?_⟩
  rcases S.par y (xN hp)with k | k
  ·exact .inl ⟨k,W9 ndP hp hu k⟩
  ·obtain⟨c,e⟩:=Qc (n:=s.heap.objs.size+1) k
   refine .inr ⟨.inl k,c,e,?_⟩
   have q:=x.cell y c e
   rw[vq ndP hp hu (by show scope.names.lookup y≠_;rw[k];decide)]at q
   exact q
 ·exact e0.hok.fresh (uq (x.above y c (PySem.mem_of_lookup h)))
 ·unfold start
  show _=N.length
  rw[xw,xi,uG]
  omega
theorem zfg{CX:CXT}{P:Program}{w:World}{K:PySem.W.Frag}{mg:Str->Option Value}{base:Heap}{k:Nat}{f:Addr}{name qual:Str}{params:Arguments}{body:List Stmt}{scope:Scope}{dV kV doc pm cdv ct oc:Value}{an od:Option Addr}
  {osl:Array (Option Value)} {N ps:List Str} {sp:Sp} (lk:K.lookup f=some ⟨oc,od,.func (PySem.W.fnOf name qual params body scope dV kV doc pm an cdv ct),osl⟩) (hcd:PySem.W.codeIn K cdv qual=true) (S:qQ N ps scope)
  (len:∀ vs H Q E,sp vs H Q E->vs.length=ps.length)
  (hbody:∀ (A:Around) (outer:List Env) (s:Shared) (H:Hp) (vs:List V) (Q:VK) (E:XK),Room k (A.deeper (envOfC qual scope s.heap.objs.size f cdv))->sp vs H Q E ->
   ∃ t,PSs (Z2 CX P w K mg base N qual scope f cdv A outer s H E) body t/\t { nx:=fun _ H'=>Q .non H',rt:=Q } (start N vs) H) :
  wC P w K mg base CX (k+1) f (PySem.W.fnOf name qual params body scope dV kV doc pm an cdv ct) ps sp:=by
 refine⟨len,fun A outer s H args us vs Q E hr e0 hb r hsp=>?_⟩
 have hl:=len _ _ _ _ hsp
 have KX:K.In s.heap:=e0.mod.kin.keeps fun b o e=>(e0.bs b o e).1
 have lim:s.heap.NoLimit:=e0.mod.nolimit.keeps fun b o e=>(e0.bs b o e).1
 have hkind:∀ y∈ps.zip us,scope.names.lookup y.1=some .local∨(scope.names.lookup y.1=some .cell/\((cellsFrom (s.heap.objs.size+1) scope.names []).lookup y.1).isSome=true):=fun ⟨n,v⟩ hy=>by
  rcases S.par n (List.of_mem_zip hy).1 with q | q
  ·exact .inl q
  ·exact .inr ⟨q,PySem.W.cellsFrom_some _ _ _ (.inl q)⟩
 refine codeAny_call_function hr.depth (KX _ _ lk) rfl S.co S.gen rfl (PySem.W.codeRec_of KX hcd) (hb _ _ _ _ ?_)
 refine wpAny_newFunctionEnv_cells S.kind hkind fun env he s1 x=>?_
 subst he
 refine⟨lim.keeps x.toInCall.keep,codeAny_func ?_⟩
 obtain⟨t,ht,hq⟩:=hbody A outer s H vs Q E (hr.deeper _) hsp
 have I:Inv (Z2 CX P w K mg base N qual scope f cdv A outer s H E) [] (start N vs) H s1:=zaN S hr.hd e0 hl r x
 refine wpAny_mono (ht [] s1 (start N vs) H _ I hq) (fun fl s' hs=>?_) fun e s' hs=>hs
 have fin:∀ {σ':St} {H':Hp} {v:V} {u:Value},Inv (Z2 CX P w K mg base N qual scope f cdv A outer s H E) [] σ' H' s'->RelV v u->Q v H'->CE outer P w H s Q u s' :=
  fun {σ' H' v u} J rv q=>⟨v,H',J.os,J.bare,J.base,J.hok,rv,q⟩
 cases fl with
 |ret u=>
  obtain⟨v,σ',H',J,rv,q⟩:=hs
  exact fin J rv q
 |next=>
  obtain⟨σ',H',J,q⟩:=hs
  exact fin (v:=V.non) (u:=Value.none) J rfl q
 |brk=>
  obtain⟨_,_,_,q⟩:=hs
  exact False.elim q
 |cont=>
  obtain⟨_,_,_,q⟩:=hs
  exact False.elim q
end L2
namespace L2
open PySem PySem.Spec PyProof.Rows
section
variable {X:Cx} {x:Str} {p pos:Pos} {e:Expr} {es:List Expr} {t:TA} {id T:String} {r:List V->Hp->VK->Prop}
noncomputable def tCB(r:List V->Hp->VK->Prop)(t:TA):TE:=fun σ H Q=>t σ H fun vs H1=>r vs H1 Q
theorem j8 (hc:jn X (.builtin id) r) (hg:Gl X x) (hm:X.mg x=none) (hv:bootBuiltins x=some (.builtin id)) (ha:PA X (e::es) t) (hn:x≠ "__name__" :=by decide) (hdb:(x==("__debug__" :Str))=false:=by decide)
    (he:starEach (e::es) X.env=(false,eval e X.env)::starEach es X.env:=by rfl) (hpl:(backTo pos (starEach es X.env)).any (·.1)=false:=by rfl):PE X (.Call (.Name x p) (e::es) [] pos) (tCB r t):=by
  intro pins s σ H Q I h
  refine wpAny_Call_Name_kw (jt I hg hm hv ?_ hn hdb)
  exact PyProof.Rows.callWith_builtin1 (thn (ha pos pins s σ H _ I h) fun us s1 ⟨vs,H1,I1,r1,q1⟩=>hc pins s1 σ H1 vs us Q I1 r1 q1) he hpl
theorem ZC (hc:jn X (.type T) r) (hg:Gl X x) (hm:X.mg x=none) (hv:bootBuiltins x=some (.type T)) (ha:PA X (e::es) t) (hn:x≠ "__name__" :=by decide) (hdb:(x==("__debug__" :Str))=false:=by decide)
    (he:starEach (e::es) X.env=(false,eval e X.env)::starEach es X.env:=by rfl) (hpl:(backTo pos (starEach es X.env)).any (·.1)=false:=by rfl):PE X (.Call (.Name x p) (e::es) [] pos) (tCB r t):=by
  intro pins s σ H Q I h
  refine wpAny_Call_Name_kw (jt I hg hm hv ?_ hn hdb)
  exact PyProof.Rows.callWith_type1 (thn (ha pos pins s σ H _ I h) fun us s1 ⟨vs,H1,I1,r1,q1⟩=>hc pins s1 σ H1 vs us Q I1 r1 q1) he hpl
end
end L2
namespace HT
open PySem PyProof.Rows
section
open PySem.SeqAt
open PySem.AutoSeq1 (wpAny_loadPart')
open PySem.MeetsSeq PySem.MeetsSeq2 PySem.MeetsSeq3
end
section
variable {prog:Program} {w:World} {A:Around} {E:Value->Shared->Prop} {s:Shared}
theorem cat_tup{t b:Addr}{vs ws:List Value}{Q:Value->Shared->Prop}(ht:IsTup s.heap t vs.toArray)(hb:IsTup s.heap b ws.toArray)(hv:vs≠ [])
  (h1:ws= []->Q (.ref t) s) (h2:ws≠ []->Q (.ref s.heap.objs.size) { s with heap:=s.heap.push { cls:=.type "tuple",data:=.seq (vs++ws).toArray } })
  (hsz:vs.length+ws.length<=sizeLine):wpAny (model prog w) A (binaryOp .Add (.ref t) (.ref b)) Q E s:=by
 obtain⟨⟨cls,dd,data,sl⟩,ho,hc,n,hd⟩:=id ht
 obtain⟨⟨cls2,dd2,data2,sl2⟩,ho2,hc2,n2,hd2⟩:=id hb
 simp only at hc hd hc2 hd2
 subst hc hd hc2 hd2
 have e:vs.toArray++ws.toArray=(vs++ws).toArray:=by simp
 by_cases hw:ws= []
 ·exact concat_meets ⟨_,ho,rfl⟩ ⟨_,ho2,rfl⟩ noFill_tuple_add seq_tuple_add PySem.F.slot_tuple_add PySem.F.entry_tuple_add (PySem.F.args_tuple_add_2 _ _)
   (tuple_addW1 t b vs.toArray ws.toArray n n2 dd dd2 sl sl2 (by simpa using hv) (by simp[hw])) ⟨ho,ho2,h1 hw⟩
 ·refine concat_meets ⟨_,ho,rfl⟩ ⟨_,ho2,rfl⟩ noFill_tuple_add seq_tuple_add PySem.F.slot_tuple_add PySem.F.entry_tuple_add (PySem.F.args_tuple_add_2 _ _)
   (tuple_addW2 t b vs.toArray ws.toArray n n2 dd dd2 sl sl2 (by simpa using hv) (by simpa using hw) (by rw[xp,xp];exact hsz)) ⟨ho,ho2,?_⟩
  rw[e]
  exact h2 hw
noncomputable def sIx(n d:Nat):Option Int->Nat
 |none=>d
 |some v=>if v<0 then (v+(n:Int)).toNat else min v.toNat n
end
end HT
namespace L2
open PySem PySem.Spec PyProof.Rows
noncomputable abbrev TO:=St->Hp->(Option Int->Hp->Prop)->Prop
noncomputable def PO(X:Cx)(e:Option Expr)(t:TO):Prop :=
 ∀ (pins:List (Addr×Obj)) (s:Shared) (σ:St) (H:Hp) (Q:Option Int->Hp->Prop),Inv X pins σ H s->t σ H Q ->
  wpAny (model X.prog X.w) X.A (evalPart e X.env) (fun u s'=>∃ o H',Inv X pins σ H' s'/\IsPart u o/\Q o H') X.xe s
noncomputable def zdL:TO:=fun _ H Q=>Q none H
noncomputable def zht(t:TE):TO:=fun σ H Q=>t σ H fun x H1=>∃ i,x=.int i/\Q (some i) H1
section
variable {X:Cx} {e:Expr} {te:TE} {lo hi:Option Expr} {tl th:TO} {pos p2:Pos}
theorem Vo:PO X none zdL:=by
 intro pins s σ H Q I h
 rw[evalPart_none]
 exact wpAny_pure ⟨none,H,I,.none,h⟩
theorem Vg(h:PE X e te):PO X (some e) (zht te):=by
 intro pins s σ H Q I hw
 rw[evalPart_some]
 refine thn (h pins s σ H _ I hw) fun u s1 ⟨x,H1,I1,r1,q1⟩=>?_
 obtain⟨i,rfl,q⟩:=q1
 obtain⟨t,rfl⟩:=r1
 exact⟨some i,H1,I1,.int i t,q⟩
noncomputable def SlR(X:Cx)(r:V->Option Int->Option Int->Hp->VK->Prop):Prop :=
 ∀ (pins:List (Addr×Obj)) (s:Shared) (σ:St) (H:Hp) (x:V) (v vl vu:Value) (lo hi:Option Int) (sl:Addr) (Q:VK),Inv X pins σ H s->RelV x v->s.heap.IsSliceOf sl vl vu .none->IsPart vl lo->IsPart vu hi->r x lo hi H Q ->
  ∃ T id,typeLookup (.type T) "__getitem__" =pure (some (.builtin id))/\s.TypeIs v T/\wpAny (model X.prog X.w) X.A (getItem v (.ref sl)) (EP X pins σ Q) X.xe s
noncomputable def tSl(r:V->Option Int->Option Int->Hp->VK->Prop)(te:TE)(tl th:TO):TE:=fun σ H Q=>te σ H fun x H1=>tl σ H1 fun l H2=>th σ H2 fun u H3=>r x l u H3 Q
theorem wM{r:V->Option Int->Option Int->Hp->VK->Prop}(hr:SlR X r)(he:PE X e te)(hl:PO X lo tl)(hu:PO X hi th):PE X (.Subscript e (.Slice lo hi none p2) pos) (tSl r te tl th):=by
 intro pins s σ H Q I h
 refine Subscript_ (thn (he pins s σ H _ I h) fun v s1 ⟨x,H1,I1,r1,q1⟩=>?_)
 refine wpAny_Slice (thn (hl pins s1 σ H1 _ I1 q1) fun vl s2 ⟨l,H2,I2,pl,q2⟩=>thn (hu pins s2 σ H2 _ I2 q2) fun vu s3 ⟨u,H3,I3,pu,q3⟩=>?_)
 rw[evalPart_none]
 refine wpAny_pure ?_
 have I4:Inv X pins σ H3 { s3 with heap:=s3.heap.push { cls:=.type "slice",data:=.fields #[vl,vu,.none] } }:=I3.kept (t':=s3.toks) fun b ob q=>Heap.get?_push_of_some _ q
 obtain⟨T,id,hT,ht,hg⟩:=hr pins { s3 with heap:=s3.heap.push { cls:=.type "slice",data:=.fields #[vl,vu,.none] } } σ H3 x v vl vu l u s3.heap.objs.size Q I4 r1 (Heap.IsSliceOf.new ..) pl pu q3
 show wpAny (model X.prog X.w) X.A (subscriptTail e (.Slice lo hi none p2) v (.ref s3.heap.objs.size)) (EP X pins σ Q) X.xe { s3 with heap:=s3.heap.push { cls:=.type "slice",data:=.fields #[vl,vu,.none] } }
 exact tail_any (ops:= [.ref s3.heap.objs.size,v]) ht hT hg (by with_unfolding_all rfl)
noncomputable def Q1(xs:List V)(lo hi:Option Int):List V:=(xs.drop (HT.sIx xs.length 0 lo)).take (HT.sIx xs.length xs.length hi-HT.sIx xs.length 0 lo)
theorem yu(xs:List V)(lo hi:Option Int):(Q1 xs lo hi).length<=xs.length:=by
 unfold Q1
 rw[xW,List.length_drop]
 omega
theorem Vals.nil_iff{xs:List V}{us:List Value}(r:Vals xs us):us= []↔xs= []:=by
 cases r with
 |nil=>simp
 |cons _ _=>simp
end
end L2
namespace L2
open PySem PySem.Spec PyProof.Rows
noncomputable def ixN(n:Nat)(i:Int):Option Nat:=if 0<=i then (if i<n then some i.toNat else none) else if -(n:Int)<=i then some (i+n).toNat else none
noncomputable def atI{α:Type}(xs:List α)(i:Int):Option α:=(ixN xs.length i).bind fun j=>xs[j]?
theorem kB{n:Nat}{i:Int}{j:Nat}(h:ixN n i=some j):seqIndex? i n=some j/\j<n/\ -(n:Int)<=i/\i<n:=by
 unfold ixN at h
 by_cases h0:0<=i
 ·rw[if_pos h0]at h
  by_cases h1:i<n
  ·rw[if_pos h1]at h
   have e:i.toNat=j:=Option.some.inj h
   exact⟨by rw[seqIndex_of h0 h1,e],by omega,by omega,h1⟩
  ·rw[if_neg h1]at h;cases h
 ·rw[if_neg h0]at h
  by_cases h1: -(n:Int)<=i
  ·rw[if_pos h1]at h
   have e:(i+n).toNat=j:=Option.some.inj h
   exact⟨by rw[seqIndex_neg (by omega) h1,e],by omega,h1,by omega⟩
  ·rw[if_neg h1]at h;cases h
theorem kF{α:Type}{xs:List α}{i:Int}{v:α}(h:atI xs i=some v):∃ j,seqIndex? i xs.length=some j/\xs[j]?=some v/\j<xs.length/\ -(xs.length:Int)<=i/\i<xs.length:=by
 unfold atI at h
 cases e:ixN xs.length i with
 |none=>rw[e]at h;cases h
 |some j=>
  rw[e]at h
  obtain⟨h1,h2,h3,h4⟩:=kB e
  exact⟨j,h1,h,h2,h3,h4⟩
theorem qO{α:Type}{xs:List α}{j:Nat}{v:α}(h:xs[j]?=some v):atI xs (j:Int)=some v:=by
 have hj:j<xs.length:=(xc.mp h).1
 have e:ixN xs.length (j:Int)=some j:=by
  unfold ixN
  rw[if_pos (by omega),if_pos (by omega)];simp
 unfold atI;rw[e];exact h
noncomputable def vB(b:Expr):Prop:=∀ o i,subscripted b false o i=operate [o,i] (getItem o i)
noncomputable def IxR(X:Cx)(r:R2):Prop :=
 ∀ (value slice:Expr) (pins:List (Addr×Obj)) (s:Shared) (σ:St) (H:Hp) (x y:V) (v u:Value) (Q:VK),Inv X pins σ H s->RelV x v->RelV y u->r x y H Q ->
  subscripted slice false v u=operate [v,u] (getItem v u)->wpAny (model X.prog X.w) X.A (subscriptTail value slice v u) (EP X pins σ Q) X.xe s
noncomputable def MtR(X:Cx)(id:String)(r:V->List V->Hp->VK->Prop):Prop :=
 ∀ (pins:List (Addr×Obj)) (s:Shared) (σ:St) (H:Hp) (x:V) (xs:List V) (v:Value) (us:List Value) (Q:VK),Inv X pins σ H s->RelV x v->Vals xs us->r x xs H Q ->
  wpAny (model X.prog X.w) X.A (call (.builtin id) (v::us)) (EP X pins σ Q) X.xe s
section
variable {X:Cx} {a b:Expr} {ta tb:TE} {pos:Pos}
theorem IxR.or{r r':R2}(h:IxR X r)(h':IxR X r'):IxR X (fun x y H Q=>r x y H Q∨r' x y H Q):=by
 intro value slice pins s σ H x y v u Q I rx ry q hs
 rcases q with q | q
 ·exact h value slice pins s σ H x y v u Q I rx ry q hs
 ·exact h' value slice pins s σ H x y v u Q I rx ry q hs
theorem zh3{r:R2}(hr:IxR X r)(ha:PE X a ta)(hb:PE X b tb)(hs:vB b):PE X (.Subscript a b pos) (tOp r ta tb):=by
 intro pins s σ H Q I h
 exact Subscript_ (zfN ha hb I h fun v u s2 x y H2 I2 rx ry q=>hr a b pins s2 σ H2 x y v u Q I2 rx ry q (hs _ _))
noncomputable def rIxL(K:PySem.W.Frag):R2:=fun x y H Q=>∃ p xs i v,x=.ref p/\y=.int i/\SqL K H p xs/\atI xs i=some v/\Q v H
noncomputable def rIxT(K:PySem.W.Frag):R2:=fun x y H Q=>∃ p xs i v,x=.ref p/\y=.int i/\SqT K H p xs/\atI xs i=some v/\Q v H
theorem ix_list:IxR X (rIxL X.K):=by
 intro value slice pins s σ H x y v u Q I rx ry h hs
 obtain⟨p,xs,i,z,rfl,rfl,hq,he,q⟩:=h
 cases rx
 obtain⟨t,rfl⟩:=ry
 obtain⟨its,r,pl,hz⟩:=I.list hq
 obtain⟨j,h1,h2,h3,h4,h5⟩:=kF he
 obtain⟨w,ew,rw'⟩:=r.get h2
 have hl:=r.length
 have hn:=We
 have fin:EP X pins σ Q w s:=⟨z,H,I,rw',q⟩
 by_cases h0:0<=i
 ·have hj:i.toNat=j:=by
   rw[seqIndex_of h0 h5]at h1
   exact Option.some.inj h1
  exact item_listR pl.isList h0 (by omega) (by rw[hj];simpa using ew) fin hs
 ·have hj:(i+(its.toArray.size:Int)).toNat=j:=by
   rw[seqIndex_neg (by omega) h4]at h1
   rw[xp,<- hl]
   exact Option.some.inj h1
  exact subscriptTail_builtinR (x:=w) pl.isList.typeIs slot_list_getitem.lookup
   (wpAny_getItem_list_neg (Q:=fun r s'=>r=w/\EP X pins σ Q r s') pl.isList (by omega) (by rw[xp]<;>omega) (by omega) (by rw[hj];simpa using ew) ⟨rfl,fin⟩) hs
theorem zfW:IxR X (rIxT X.K):=by
 intro value slice pins s σ H x y v u Q I rx ry h hs
 obtain⟨p,xs,i,z,rfl,rfl,hq,he,q⟩:=h
 cases rx
 obtain⟨t,rfl⟩:=ry
 obtain⟨its,r,pl,hz⟩:=I.tuple hq
 obtain⟨j,h1,h2,h3,h4,h5⟩:=kF he
 obtain⟨w,ew,rw'⟩:=r.get h2
 have hl:=r.length
 have hn:=We
 have fin:EP X pins σ Q w s:=⟨z,H,I,rw',q⟩
 exact subscriptTail_builtinR (x:=w) pl.typeIs slot_tuple_getitem.lookup
  (getItem_tuple (j:=j) (Q:=fun r s'=>r=w/\EP X pins σ Q r s') pl (by omega) (by omega) (by rw[xp,<- hl];exact h1) (by simpa using ew) ⟨rfl,fin⟩) hs
theorem kf (its:List Value) (n j:Nat) (u:Value):Obj.mapSeq (·.setIfInBounds j u) { cls:=.type "list",data:=.seq its.toArray n }={ cls:=.type "list",data:=.seq (its.set j u).toArray n }:=by
 simp[Obj.mapSeq]
theorem Inv.lst{pins:List (Addr×Obj)}{σ:St}{H:Hp}{s:Shared}{p:Addr}{xs:List V}(I:Inv X pins σ H s)(h:H p=some (.lst xs)) :
  ∃ (its:List Value) (n:Nat),Vals xs its/\s.heap.get? p=some { cls:=.type "list",data:=.seq its.toArray n }/\xs.length<=sizeLine:=by
 obtain⟨z,its,n,r,e⟩:=I.hok p _ h
 exact⟨its,n,r,e,z⟩
theorem Inv.lstUpd{pins:List (Addr×Obj)}{σ:St}{H:Hp}{s:Shared}{p:Addr}{xs ys:List V}{its its':List Value}{n n':Nat}{f:Obj->Obj}(I:Inv X pins σ H s)(h:H p=some (.lst xs))
  (ho:s.heap.get? p=some { cls:=.type "list",data:=.seq its.toArray n }) (hf:f { cls:=.type "list",data:=.seq its.toArray n }={ cls:=.type "list",data:=.seq its'.toArray n' }) (r:Vals ys its') (hz:ys.length<=sizeLine) (t:Nat) :
  Inv X pins σ (upd H p (.lst ys)) { s with heap:=s.heap.update p f,toks:=t }:=by
 have e:(s.heap.update p f).get? p=some { cls:=.type "list",data:=.seq its'.toArray n' }:=by
  rw[Heap.get?_update_self f ho (by rw[hf]<;>rfl),hf]
 refine I.write (x:=p) (e:=p) (by rw[h];trivial) (.inl rfl) (fun b u hb q=>(Heap.get?_update_other _ _ (Ne.symm hb)).trans q) ⟨_,e⟩ ?_
 exact⟨hz,its',n',r,e⟩
noncomputable def zhL:V->V->V->Hp->(Hp->Prop)->Prop:=fun o i v H Q=>∃ p xs k j,o=.ref p/\i=.int k/\H p=some (.lst xs)/\ixN xs.length k=some j/\Q (upd H p (.lst (xs.set j v)))
theorem zcw:zgB X zhL:=by
 intro pins s σ H o i v ov iv u Q I ro ri rv h
 obtain⟨p,xs,k,j,rfl,rfl,hp,hj,q⟩:=h
 cases ro
 obtain⟨t,rfl⟩:=ri
 obtain⟨its,n,r,ho,hz⟩:=I.lst hp
 obtain⟨h1,h2,h3,h4⟩:=kB hj
 have hl:=r.length
 have hn:=We
 have I':Inv X pins σ (upd H p (.lst (xs.set j v))) { s with heap:=s.heap.update p (Obj.mapSeq (·.setIfInBounds j u)) } :=
  I.lstUpd hp ho (kf its n j u) (r.set rv j) (by rw[ul];exact hz) s.toks
 by_cases h0:0<=k
 ·have hk:k.toNat=j:=by
   rw[seqIndex_of h0 h4]at h1
   exact Option.some.inj h1
  exact PySem.W.ki_setAt ho h0 (by omega) (by rw[xp,<- hl];exact h4) (by rw[hk];exact⟨_,I',q⟩)
 ·have hk:(k+(its.toArray.size:Int)).toNat=j:=by
   rw[seqIndex_neg (by omega) h3]at h1
   rw[xp,<- hl]
   exact Option.some.inj h1
  exact PySem.W.ki_setBack ho (by omega) (by rw[xp,<- hl];exact h3) (by omega) (by rw[hk];exact⟨_,I',q⟩)
theorem vL(lo hi:Option Int)(n:Nat):(sliceBounds lo hi none n).1=((HT.sIx n 0 lo:Nat):Int)/\(sliceBounds lo hi none n).2.1=((HT.sIx n n hi:Nat):Int)/\(sliceBounds lo hi none n).2.2=1:=by
 refine⟨?_,?_,rfl⟩
 ·cases lo with
  |none=>simp[sliceBounds,HT.sIx]
  |some i=>
   simp only[sliceBounds,HT.sIx,Option.getD_none,show (1:Int)>0 by decide,if_true]
   by_cases h:i<0
   ·simp only[h,if_true]<;>omega
   ·simp only[h,if_false]<;>omega
 ·cases hi with
  |none=>simp[sliceBounds,HT.sIx]
  |some i=>
   simp only[sliceBounds,HT.sIx,Option.getD_none,show (1:Int)>0 by decide,if_true]
   by_cases h:i<0
   ·simp only[h,if_true]<;>omega
   ·simp only[h,if_false]<;>omega
theorem Wr(its:List Value)(lo hi:Option Int):slicePick its.toArray lo hi none=((its.drop (HT.sIx its.length 0 lo)).take (HT.sIx its.length its.length hi-HT.sIx its.length 0 lo)).toArray:=by
 obtain⟨h1,h2,h3⟩:=vL lo hi its.toArray.size
 unfold slicePick
 rw[h1,h2,h3]
 simp only[sliceRange_one,pick_run,xp]<;>rfl
noncomputable def rSlL(K:PySem.W.Frag):V->Option Int->Option Int->Hp->VK->Prop:=fun x lo hi H Q=>∃ a xs,x=.ref a/\SqL K H a xs/\∀ p,H p=none->Q (.ref p) (upd H p (.lst (Q1 xs lo hi)))
theorem Vs:SlR X (rSlL X.K):=by
 intro pins s σ H x v vl vu lo hi sl Q I rx hs pl pu h
 obtain⟨a,xs,rfl,hx,q⟩:=h
 cases rx
 obtain⟨its,r,ht,hz⟩:=I.list hx
 have hlen:=r.length
 refine⟨"list",_,slot_list_getitem.lookup,ht.isList.typeIs,?_⟩
 refine wpAny_getItem_list_slice ht.isList hs pl pu .none (by simp) ?_ (by rw[xp]<;>omega)
 rw[Wr,<- hlen]
 refine⟨.ref s.heap.objs.size,_,I.laid (t':=s.toks) (o:=.lst (Q1 xs lo hi)) (fun b ob q=>Heap.get?_push_of_some _ q) (xm _) ?_,rfl,q _ (I.hok.fresh (xm _))⟩
 exact⟨xM (yu xs lo hi) hz,_,0,(r.drop (HT.sIx xs.length 0 lo)).take (HT.sIx xs.length xs.length hi-HT.sIx xs.length 0 lo),Heap.get?_push_size _ rfl⟩
theorem QK:jn X (.builtin "len") (fun xs H Q=>∃ p ys,xs= [.ref p]/\(SqL X.K H p ys∨SqT X.K H p ys)/\Q (.int ys.length) H):=by
 intro pins s σ H xs us Q I r h
 obtain⟨p,ys,rfl,hq,q⟩:=h
 obtain⟨u,rfl,rx⟩:=Zg r
 cases rx
 have hn:=We
 rcases hq with hq | hq
 ·obtain⟨its,r',pl,hz⟩:=I.list hq
  have hlen:=r'.length
  exact Calls.call_len_list pl.isList (by simp only[xp]<;>omega) ⟨.int ys.length,H,I.tok _,⟨s.toks+1,by rw[xp,hlen]⟩,q⟩
 ·obtain⟨its,r',pl,hz⟩:=I.tuple hq
  have hlen:=r'.length
  exact len_tuple pl (by simp only[xp]<;>omega) ⟨.int ys.length,H,I.tok _,⟨s.toks+1,by rw[xp,hlen]⟩,q⟩
theorem Qb:jn X (.type "list") (fun xs H Q=>∃ p ys,xs= [.ref p]/\(SqL X.K H p ys∨SqT X.K H p ys)/\∀ l,H l=none->Q (.ref l) (upd H l (.lst ys))):=by
 intro pins s σ H xs us Q I r h
 obtain⟨p,ys,rfl,hq,q⟩:=h
 obtain⟨u,rfl,rx⟩:=Zg r
 cases rx
 have fin:∀ (its:List Value),Vals ys its->ys.length<=sizeLine->∀ (h':Heap) (c':Nat),(∀ b o',s.heap.get? b=some o'->h'.get? b=some o') ->
   h'.get? s.heap.objs.size=some { cls:=.type "list",dict:=none,data:=.seq its.toArray c',slots:=#[] }->EP X pins σ Q (.ref s.heap.objs.size) { s with heap:=h' }:=fun its r' hz h' c' kp e=>
  ⟨.ref s.heap.objs.size,_,I.laid (t':=s.toks) kp (xm _) (show ObjOk X.prog X.w _ h' _ (.lst ys) from ⟨hz,its,c',r',e⟩),rfl,q _ (I.hok.fresh (xm _))⟩
 rcases hq with hq | hq
 ·obtain⟨its,r',pl,hz⟩:=I.list hq
  have hlen:=r'.length
  obtain⟨o,ho,hc,n,hd⟩:=pl.isList
  exact call_list_seq p (.inl rfl) ho hc hd (fun h' c' kp e=>fin its r' hz h' c' kp e) (by simp only[xp]<;>omega)
 ·obtain⟨its,r',pl,hz⟩:=I.tuple hq
  have hlen:=r'.length
  obtain⟨o,ho,hc,n,hd⟩:=pl
  exact call_list_seq p (.inr rfl) ho hc hd (fun h' c' kp e=>fin its r' hz h' c' kp e) (by simp only[xp]<;>omega)
theorem Wu:jn X (.type "tuple") (fun xs H Q=>∃ p ys,xs= [.ref p]/\((SqL X.K H p ys/\∀ l,H l=none->Q (.ref l) (upd H l (.tup ys)))∨(SqT X.K H p ys/\Q (.ref p) H))):=by
 intro pins s σ H xs us Q I r h
 obtain⟨p,ys,rfl,h⟩:=h
 obtain⟨u,rfl,rx⟩:=Zg r
 cases rx
 rcases h with ⟨hq,q⟩ | ⟨hq,q⟩
 ·obtain⟨its,r',pl,hz⟩:=I.list hq
  have hlen:=r'.length
  refine call_tuple_list pl.isList (fun h' kp=>?_) (by simp only[xp]<;>omega)
  have I1:Inv X pins σ H { s with heap:=h' }:=I.kept (t':=s.toks) kp
  have I2:Inv X pins σ (upd H h'.objs.size (.tup ys)) { s with heap:=h'.push { cls:=.type "tuple",data:=.seq its.toArray } } :=
   I1.laid (t':=s.toks) (fun b o e=>Heap.get?_push_of_some _ e) (xm _) (show ObjOk X.prog X.w _ _ _ (.tup ys) from ⟨hz,its,r',IsTup.new _ _⟩)
  exact⟨.ref h'.objs.size,_,I2,rfl,q _ (I1.hok.fresh (xm _))⟩
 ·obtain⟨its,r',pl,hz⟩:=I.tuple hq
  exact call_tuple_same pl ⟨.ref p,H,I,rfl,q⟩
noncomputable def tyV(K:PySem.W.Frag)(T:String)(x:V)(H:Hp):Prop:=match x with
 |.str _=>T= "str"
 |.int _=>T= "int"
 |.ref p=>(T= "list" /\∃ xs,SqL K H p xs)∨(T= "tuple" /\∃ o,K.lookup p=some o/\o.cls=.type "tuple" /\o.dict=none) ∨
   (T= "dict" /\((∃ kvs,H p=some (.dK kvs))∨∃ kvs,H p=some (.dT kvs)))∨(T= "set" /\∃ S n,H p=some (.set S n))
 |_=>False
theorem zgi{pins:List (Addr×Obj)}{σ:St}{H:Hp}{s:Shared}{T:String}{x:V}{v:Value}(I:Inv X pins σ H s)(r:RelV x v)(ty:tyV X.K T x H) :
  s.TypeIs v T/\∀ a,v=.ref a->∃ ob,s.heap.get? a=some ob/\ob.dict=none:=by
 cases x with
 |str z=>
  obtain⟨t,rfl⟩:=r
  cases (show T= "str" from ty)
  exact⟨typeIs_str s z t,fun _ e=>nomatch e⟩
 |int i=>
  obtain⟨t,rfl⟩:=r
  cases (show T= "int" from ty)
  exact⟨typeIs_int s i t,fun _ e=>nomatch e⟩
 |ref p=>
  cases r
  rcases ty with ⟨rfl,xs,hq⟩ | ⟨rfl,o,hk,hc,hd⟩ | ⟨rfl,hk⟩ | ⟨rfl,S,n,hk⟩
  ·obtain⟨its,_,pl,_⟩:=I.list hq
   refine⟨pl.isList.typeIs,fun a e=>?_⟩
   cases e
   obtain⟨o,n,e,c,hd,_⟩:=pl
   exact⟨o,e,hd⟩
  ·refine⟨⟨o,I.kIn p o hk,hc⟩,fun a e=>?_⟩
   cases e
   exact⟨o,I.kIn _ o hk,hd⟩
  ·have z:∃ o,s.heap.get? p=some o/\o.ExactDict:=by
    rcases hk with ⟨kvs,hk⟩ | ⟨kvs,hk⟩
    ·obtain⟨_,_,_,_,o,_,_,e,ex,_⟩:=I.hok p _ hk
     exact⟨o,e,ex⟩
    ·obtain⟨_,_,_,_,o,_,_,e,ex,_⟩:=I.hok p _ hk
     exact⟨o,e,ex⟩
   obtain⟨o,e,ex⟩:=z
   refine⟨⟨o,e,ex.1⟩,fun a e2=>?_⟩
   cases e2
   exact⟨o,e,ex.2.1⟩
  ·obtain⟨o,_,_,_,e,ex,_⟩:=I.hok p _ hk
   refine⟨⟨o,e,ex.1⟩,fun a e2=>?_⟩
   cases e2
   exact⟨o,e,ex.2.1⟩
 |_=>exact False.elim ty
noncomputable def tBM(K:PySem.W.Frag)(T:String)(r:V->List V->Hp->VK->Prop)(to:TE)(t:TA):TE:=fun σ H Q=>to σ H fun x H1=>tyV K T x H1/\t σ H1 fun xs H2=>r x xs H2 Q
variable {o e:Expr} {es:List Expr} {to:TE} {t:TA} {name:Str} {apos cpos:Pos} {T id:String} {r:V->List V->Hp->VK->Prop}
theorem zfi (pa:PlainAttrs T) (slot:Slot T name id) (hty:typeOf (.builtin id)=pure (.type "method_descriptor")) (hm:MtR X id r) (ho:PE X o to) (ha:PA X (e::es) t)
  (hbase:attributeBase o name X.env (eval o X.env)=eval o X.env:=by rfl)
  (hfew:((backTo cpos (starEach (e::es) X.env)).all (fun x=> !x.1)&&(backToKw cpos (keywordEach [] X.env)).all (fun x=>x.1.isSome)
   && decide ((e::es).length+([]:List Keyword).length+(if ([]:List Keyword).isEmpty then 0 else 1)<30))=true:=by rfl)
  (hline:(apos.endLine==cpos.line)=true:=by rfl) (hs:starEach (e::es) X.env=(false,eval e X.env)::starEach es X.env:=by rfl) (hplain:(backTo cpos (starEach es X.env)).any (·.1)=false:=by rfl) :
  PE X (.Call (.Attribute o name apos) (e::es) [] cpos) (tBM X.K T r to t):=by
 intro pins s σ H Q I h
 refine wpAny_Call_method_late hbase hfew hline rfl (thn (ho pins s σ H _ I h) fun v s1 ⟨x,H1,I1,r1,ty,q1⟩=>?_)
 obtain⟨h1,h2⟩:=zgi I1 r1 ty
 refine⟨T,id,pa,slot,hty,h1,h2,?_⟩
 have hA:=ha cpos pins s1 σ H1 _ I1 q1
 rw[hs]at hA |-
 refine Calls.callWith_builtin (by show (false||(backTo cpos (starEach es X.env)).any (·.1))=false;rw[hplain]<;>rfl) (Calls.evalArgs_plain ?_)
 exact thn hA fun us s2 ⟨vs,H2,I2,r2,q2⟩=>hm pins s2 σ H2 x vs v us Q I2 r1 r2 q2
end
end L2
namespace L2
open PySem PySem.Spec PyProof.Rows
noncomputable def MtM(X:Cx)(id:String)(r:V->List V->Hp->VK->Prop):Prop :=
 ∀ (pins:List (Addr×Obj)) (s:Shared) (σ:St) (H:Hp) (x:V) (xs:List V) (v:Value) (us:List Value) (Q:VK),Inv X pins σ H s->RelV x v->Vals xs us->r x xs H Q ->
  wpAny (model X.prog X.w) X.A (call (.builtin id) (v::us)) (EP X pins σ Q) X.xe s
theorem Vals.one:∀ {x:V}{us:List Value},Vals [x] us->∃ u,us= [u]/\RelV x u
 |_,_,.cons r .nil=>⟨_,rfl,r⟩
theorem Vals.rep{xs:List V}{us:List Value}(h:Vals xs us):∀ k:Nat,Vals (List.replicate k xs).flatten (List.replicate k us).flatten
 |0=>.nil
 |k+1=>by
  rw[ug,ug,xH,xH]
  exact Vals.append h (Vals.rep h k)
theorem vv(its:List Value):∀ (k:Nat) (acc:List Value),
  List.foldl (fun x1 x2=>x1++x2) acc.toArray (List.replicate k its.toArray)=(acc++(List.replicate k its).flatten).toArray
 |0,acc=>by simp
 |k+1,acc=>by
  have e:acc.toArray++its.toArray=(acc++its).toArray:=by simp
  have e2:(acc++its)++(List.replicate k its).flatten=acc++(List.replicate (k+1) its).flatten:=by
   rw[ug,xH,List.append_assoc]
  rw[<- e2,<- vv its k (acc++its),<- e,ug,uC]
section
variable {X:Cx} {pins:List (Addr×Obj)} {σ:St} {H:Hp} {s:Shared} {l b:Addr} {xs ys zs:List V}
theorem Inv.lset{its its':List Value}{n:Nat}{f:Array Value->Array Value}{t':Nat}(I:Inv X pins σ H s)(hH:H l=some (.lst xs))
  (e:s.heap.get? l=some { cls:=.type "list",data:=.seq its.toArray n }) (hf:f its.toArray=its'.toArray) (hv:Vals ys its') (hz:ys.length<=sizeLine) :
  Inv X pins σ (upd H l (.lst ys)) { s with heap:=s.heap.update l (Obj.mapSeq f),toks:=t' }:=by
 have q:=PySem.IsL.update e f
 rw[hf]at q
 refine I.write (x:=l) (e:=l) (by rw[hH];exact trivial) (.inl rfl) (fun b' u hb hu=>(Heap.get?_update_other s.heap (Obj.mapSeq f) (Ne.symm hb)).trans hu) ⟨_,q⟩ ?_
 exact⟨hz,its',_,hv,q⟩
theorem Inv.lnew{its:List Value}{t':Nat}(I:Inv X pins σ H s)(hv:Vals ys its)(hz:ys.length<=sizeLine) :
  Inv X pins σ (upd H s.heap.objs.size (.lst ys)) { s with heap:=s.heap.push { cls:=.type "list",data:=.seq its.toArray },toks:=t' } :=
 I.laid (fun _ _ q=>Heap.get?_push_of_some _ q) (xm _) ⟨hz,its,0,hv,Heap.get?_push_size _ rfl⟩
theorem Inv.fresh(I:Inv X pins σ H s):H s.heap.objs.size=none:=I.hok.fresh (xm _)
theorem Inv.lstM (I:Inv X pins σ H s) (hH:H l=some (.lst xs)):xs.length<=sizeLine/\∃ (its:List Value) (n:Nat),Vals xs its/\xs.length=its.length/\s.heap.get? l=some { cls:=.type "list",data:=.seq its.toArray n }:=by
 obtain⟨z,its,n,r,e⟩:=I.hok l _ hH
 exact⟨z,its,n,r,r.length,e⟩
theorem zcV{n:Nat}(h:n<=sizeLine):Builtin.List.listTooLong n=false:=by
 unfold Builtin.List.listTooLong
 exact decide_eq_false (by omega)
end
section
variable {X:Cx}
noncomputable def zer:V->List V->Hp->VK->Prop:=fun x vs H Q=>∃ l xs y,x=.ref l/\vs= [y]/\H l=some (.lst xs)/\xs.length<sizeLine/\Q .non (upd H l (.lst (xs++ [y])))
theorem zaI:MtM X "list.append" zer:=by
 intro pins s σ H x vs v us Q I rx rv h
 obtain⟨l,xs,y,rfl,rfl,hH,hz,q⟩:=h
 cases rx
 obtain⟨u,rfl,ru⟩:=rv.one
 obtain⟨z,its,n,r,hl,e⟩:=I.lstM hH
 refine call_meets F.slot_list_append ⟨_,e,rfl⟩ F.entry_list_append (F.args_list_append_2 _ _) (PySem.list_append l its.toArray n u (by rw[xp];omega)) ⟨e,?_⟩
 refine⟨.non,_,I.lset (its':=its++ [u]) hH e (by simp) (r.append (.cons ru .nil)) ?_,rfl,q⟩
 rw[xw,List.length_singleton]
 omega
noncomputable def rCat:R2:=fun x y H Q=>∃ l b xs zs,x=.ref l/\y=.ref b/\H l=some (.lst xs)/\H b=some (.lst zs)/\xs.length+zs.length<=sizeLine/\∀ p,H p=none->Q (.ref p) (upd H p (.lst (xs++zs)))
theorem zha:OpR X (binaryOp .Add) rCat:=by
 intro pins s σ H x y v u Q I rx ry h
 obtain⟨l,b,xs,zs,rfl,rfl,hH,hB,hz,q⟩:=h
 cases rx
 cases ry
 obtain⟨z,its,n,r,hl,e⟩:=I.lstM hH
 obtain⟨z2,its2,n2,r2,hl2,e2⟩:=I.lstM hB
 refine PySem.P.add_list e e2 ?_ (by rw[xp,xp];omega)
 have ea:its.toArray++its2.toArray=(its++its2).toArray:=by simp
 rw[ea]
 exact⟨.ref _,_,I.lnew (t':=s.toks) (r.append r2) (by rw[xw];omega),rfl,q _ I.fresh⟩
theorem kW{α:Type}(xs:List α)(k:Nat):(List.replicate k xs).flatten.length=k*xs.length:=by
 induction k with
 |zero=>simp
 |succ k ih=>rw[ug,xH,xw,ih,Nat.succ_mul,Nat.add_comm]
end
section
variable {prog:Program} {w:World} {A:Around} {E:Value->Shared->Prop} {s:Shared}
end
section
variable {X:Cx}
end
end L2
namespace Att
open PySem PySem.W PySem.Calls PyProof.Rows
theorem JN{P:Params}{h:Heap}:∀ (ns:List Int) (vs:List Value),WellAll P h vs (ns.map WData.int)->IntsAre vs ns:=by
 intro ns
 induction ns with
 |nil=>
  intro vs w
  rw[List.map_nil]at w
  cases w
  exact .nil
 |cons n ns ih=>
  intro vs w
  rw[xI]at w
  cases w with
  |cons a b=>
   cases a
   exact .cons _ _ (ih _ b)
theorem zaR{l:OpenLaw}{n:Nat}(hn:l.most=some n){P:Params}{h:Heap}{args:List WData}{vals:List Value}
  (hpre:l.row.toRowW.claim.pre args=true) (hwl:WellAll P h vals args) :
  ∃ a vs ns,vals= [Value.ref a]/\args= [WData.list (ns.map WData.int)]/\h.get? a=some { cls:=.type "list",data:=.seq vs.toArray }/\IntsAre vs ns/\ns.length<=n:=by
 have hsh:WShape.hasAll [] args [.list .int]=true:=(pre_splitW hpre).1
 have hc:l.pre.holds [] { args:=args }=true:=(pre_splitW hpre).2
 obtain⟨d,r,rfl,h1,h2⟩:=hasAllW_cons hsh
 obtain rfl:=hasAllW_nil h2
 obtain⟨xs,rfl,h3⟩:=hasW_list h1
 obtain⟨ns,rfl⟩:=items_int h3
 have hlen:ns.length<=n:=by
  unfold OpenLaw.pre at hc
  have h4:(WTm.not (.lt (.lit (.int (n:Int))) (.len (.arg 0)))).holds [] { args:= [.list (ns.map .int)] }=true:=by
   have h4:=(holds_andW hc).1
   rw[hn]at h4
   exact h4
  have h5:=condW_of h4 (w_not (w_lt w_lit (w_len_list (w_arg rfl))))
  rw[xi]at h5
  refine Nat.le_of_not_lt fun q=>?_
  have q':(n:Int)<((ns.length:Nat):Int):=by omega
  first
   | (rw[decide_eq_true q']at h5;exact absurd h5 (by decide))
   | (simp at h5;omega)
 cases hwl with
 |cons w1 w2=>
  cases w2
  cases w1 with
  |list ho hall=>exact⟨_,_,ns,rfl,rfl,ho,JN ns _ hall,hlen⟩
theorem zab(l:OpenLaw)(args:List WData):l.row.toRowW.claim.post args (.bool true) args=true :=
 postW_of (r:=l.row.toRowW) (X:=(true==true))
  (show WShape.has [] (.bool true) .bool=true by first | rfl | decide | simp[WShape.has,WShape.arms,WShape.armsAll])
  (show (WTm.eq .res (.lit (.bool true))).value [] { args:=args,res:=some (.bool true),after:=args }=some (.bool (true==true)) from w_eq_bool (w_res rfl) w_lit) rfl
theorem attach_call{l:OpenLaw}{n:Nat}{q:Program}{loose:List Str}{XP:(Str->Option Value)->Heap->Prop}{YP:World->Heap->Prop}{d:DefRec}
  (hn:l.most=some n) (hdf:d.params.defaults= [])
  (call:∀ (w:World) (s₀ s₁:Shared) (mg mb:Str->Option Value) (fa:Addr) (o:Obj) (pm cd doc:Value) (a:Addr) (vs:List Value) (ns:List Int),
   Ground q loose [] XP w s₀ mg mb s₁.heap->YP w s₁.heap ->
   s₁.heap.get? fa=some o->o.data=.func (docDef d.name d.params d.body d.scope pm cd doc)->s₁.heap.CodeRec cd d.name->mg d.name=some (.ref fa) ->
   s₁.heap.get? a=some { cls:=.type "list",data:=.seq vs.toArray }->IntsAre vs ns->ns.length<=n->s₁.gens=#[] ->
   codeAny (model l.prog w) callerA (.call (.ref fa) ⟨[.ref a],[]⟩) (fun r s'=>r=.ok (.ret (.bool true))/\OldK s₁.heap s'.heap/\s'.os=s₁.os/\AllBare s'.gens) s₁) :
  WalkO q loose XP YP l.row.toRowW d [] (fun f vs=>PySem.call f vs):=by
 intro w s₀ s₁ mg mb G Y fa o pm cd doc dV kV ho hd hcd hD hmg hg args vals as hpre hlay hrd hwl hlo
 obtain rfl:dV=.none:=Dflts.none hD hdf
 obtain rfl:kV=.none:=Dflts.noKw hD
 obtain⟨a,vs,ns,rfl,rfl,hobj,hints,hlen⟩:=zaR hn hpre hwl
 refine enter_call (codeAny_mono (call w s₀ s₁ mg mb fa o pm cd doc a vs ns G Y ho (fd_plain hd) hcd hmg hobj hints hlen hg) fun r s' hq=>?_)
 obtain⟨rfl,h2,h3,h4⟩:=hq
 exact⟨.inl ⟨.bool true,.bool true,[],rfl,fun _=>rfl,.bool true,zab l _,fun _=>⟨List.Pairwise.nil,fun _ hm=>(nomatch hm)⟩⟩,h2,h3,h4⟩
section
variable {prog:Program} {w:World} {A:Around} {E:Value->Shared->Prop} {s:Shared} {K:Frag}
end
end Att
namespace L2
open PySem PySem.Spec PyProof.Rows
theorem jE:∀ {vs:List Value}{ns:List Int},IntsAre vs ns->Vals (ns.map V.int) vs
 |_,_,.nil=>.nil
 |_,_,.cons n t h=>.cons ⟨t,rfl⟩ (jE h)
noncomputable def zgj(H:Hp):Prop:=∀ b,H b=none∨∃ o xs,H b=some (.frz o (.lst xs))
theorem zbs{P:Program}{w:World}{K:PySem.W.Frag}{mg mb:Str->Option Value}{CX:CXT}{k:Nat}{fa a:Addr}{fd:FuncData}{x:Str}{sp:Sp}{s₁:Shared}{vs:List Value}{ns:List Int}
  (KX:K.In s₁.heap) (hns:s₁.heap.Ns mainGlobals mg) (hb:s₁.heap.Ns builtinsNs mb) (hbb:∀ x:Str,x≠ "__name__" ->mb x=bootBuiltins x) (hlim:s₁.heap.NoLimit) (hg:s₁.gens=#[])
  (ha:s₁.heap.get? a=some { cls:=.type "list",data:=.seq vs.toArray }) (hi:IntsAre vs ns) (hl:ns.length<=sizeLine) (hr:Room k callerA)
  (F:∀ base:Heap,K.In base->base.Ns mainGlobals mg->wC P w K mg base CX k fa fd [x] sp) (hbind:∀ (s:Shared) (u:Value),BindsTo s fd ⟨[u],[]⟩ [(x,u)])
  (hsp:∀ H:Hp,zgj H->SqL K H a (ns.map V.int)->sp [.ref a] H (fun v _=>v=.bl true) fun _ _ _=>False)
  (hCX:∀ H e s',CX [] H s₁ (fun _ _ _=>False) e s'->False) :
  codeAny (model P w) callerA (.call (.ref fa) ⟨[.ref a],[]⟩) (fun r s'=>r=.ok (.ret (.bool true))/\OldK s₁.heap s'.heap/\s'.os=s₁.os/\AllBare s'.gens) s₁:=by
 have rv:=jE hi
 have lenV:=hi.length
 -- from an abstract heap in which nothing but the script may be tracked
 have core:∀ H:Hp,zgj H->SqL K H a (ns.map V.int)->HOk P w H s₁.heap->(∀ b,H b≠none->b=a)->(H a≠none->K.lookup a=none) ->
   codeAny (model P w) callerA (.call (.ref fa) ⟨[.ref a],[]⟩) (fun r s'=>r=.ok (.ret (.bool true))/\OldK s₁.heap s'.heap/\s'.os=s₁.os/\AllBare s'.gens) s₁:=by
  intro H hO hS hok hA hK
  have base_of:∀ {b:Addr} {o:Obj},s₁.heap.get? b=some o->H b=none->(Vk s₁.heap H).get? b=some o:=fun e n=>zcv e n
  have noA:∀ {b:Addr} {o:Obj} {es:Array DictEntry} {ep:Nat},s₁.heap.get? b=some o->o.data=.dict es ep->H b=none:=fun {b o es ep} e d=>by
   cases q:H b with
   |none=>rfl
   |some u=>
    have e':b=a:=hA b (by rw[q];simp)
    subst e'
    rw[ha]at e;cases e
    have d':Data.seq vs.toArray _=Data.dict es ep:=d
    cases d'
  have nsK:∀ {b:Addr} {m:Str->Option Value},s₁.heap.Ns b m->(Vk s₁.heap H).Ns b m:=fun {b m} ⟨o,es,ep,e,d,r⟩=>⟨o,es,ep,base_of e (noA e d),d,r⟩
  have hKb:K.In (Vk s₁.heap H):=fun b o e=>base_of (KX b o e) (by
   cases q:H b with
   |none=>rfl
   |some u=>
    have e':b=a:=hA b (by rw[q];simp)
    subst e'
    rw[hK (by rw[q];simp)]at e;cases e)
  have hM:Mod K mg (Vk s₁.heap H):=⟨hKb,nsK hns,⟨mb,nsK hb,hbb⟩,let ⟨mc,h1,h2⟩:=hlim;⟨mc,nsK h1,h2⟩⟩
  have e0:zeU P w K mg (Vk s₁.heap H) callerA [] s₁ H:=⟨rfl,hM,fun b o e=>zeY e,Nat.le_of_eq (K3 _ _),trivial,fun b hb=>absurd (show b∈([]:List Addr) from hb) (by simp),hok,.of_eq hg⟩
  refine codeAny_mono ((F _ hKb (nsK hns)).run callerA [] s₁ H ⟨[.ref a],[]⟩ [.ref a] [.ref a] _ _ hr e0 (hbind s₁ (.ref a)) (.cons rfl .nil) (hsp H hO hS)) fun r s' h=>?_
  cases r with
  |error e=>exact (hCX H e s' h).elim
  |ok fl=>
   cases fl with
   |next=>exact False.elim h
   |brk=>exact False.elim h
   |cont=>exact False.elim h
   |ret u=>
    obtain⟨v,H',os,bare,un,hok',r',q⟩:=h
    have q':v=.bl true:=q
    subst q'
    obtain rfl:u=Value.bool true:=r'
    refine⟨rfl,OldK.of_keep fun b o e=>?_,os,bare⟩
    cases q:H b with
    |none=>exact un.keep b o e q (by intro z;exact absurd (show b∈([]:List Addr) from z) (by simp)) (by simp)
    |some u=>
     rcases hO b with z | ⟨ob,xs,z⟩
     ·rw[q]at z;cases z
     ·have z2:=un.frzs b ob _ z
      obtain⟨e1,_⟩:=hok b _ z
      obtain⟨e2,_⟩:=hok' b _ z2
      rw[e]at e1;cases e1
      exact e2
 cases hk:K.lookup a with
 |some o=>
  -- the script is one of the module's own objects
  have e:=KX a o hk
  rw[ha]at e
  cases e
  refine core (fun _=>none) (fun _=>.inl rfl) (.inr ⟨_,vs.toArray,_,hk,rfl,rfl,rfl,by rw[xp,lenV];exact hl,by simpa using rv⟩) (fun b u z=>by have z':(none:Option HO)=some u:=z;cases z') (fun b z=>absurd rfl z) fun z=>absurd rfl z
 |none=>
  refine core (fun b=>if b=a then some (.frz { cls:=.type "list",data:=.seq vs.toArray } (.lst (ns.map V.int))) else none) (fun b=>?_) (.inl (.inr ⟨{ cls:=.type "list",data:=.seq vs.toArray },if_pos rfl⟩)) (fun b u z=>?_) (fun b z=>?_) fun _=>hk
  ·by_cases hb:b=a
   ·exact .inr ⟨_,_,if_pos hb⟩
   ·exact .inl (if_neg hb)
  ·by_cases hb:b=a
   ·have z':=(if_pos hb).symm.trans z
    cases z'
    subst hb
    exact⟨ha,by rw[xi];exact hl,vs,_,rv,ha⟩
   ·have z':=(if_neg hb).symm.trans z
    cases z'
  ·by_cases hb:b=a
   ·exact hb
   ·exact absurd (if_neg hb) z
end L2
namespace L2
open PySem PySem.Spec PyProof.Rows
noncomputable abbrev KOf{K:PySem.W.Frag}{h:Heap}(_:K.In h):PySem.W.Frag:=K
theorem walk_of{l:PySem.W.OpenLaw}{n k:Nat}{q:Program}{loose:List Str}{XP:(Str->Option Value)->Heap->Prop}{YP:World->Heap->Prop}{d:DefRec}{K:Params->PySem.W.Frag}{CX:World->CXT}{sp:World->Sp}{x:Str}
  (hn:l.most=some n) (hn2:n<=sizeLine) (hdf:d.params.defaults= []) (hr:Room k callerA)
  (hY:∀ (w:World) (h:Heap),YP w h->(K w.params).In h)
  (F:∀ (w:World) (mg:Str->Option Value) (fa:Addr) (h:Heap),(K w.params).In h->h.Ns mainGlobals mg->mg d.name=some (.ref fa) ->
   ∃ fd:FuncData,(∀ (s:Shared) (u:Value),BindsTo s fd ⟨[u],[]⟩ [(x,u)]) /\
    ∀ base:Heap,(K w.params).In base->base.Ns mainGlobals mg->wC l.prog w (K w.params) mg base (CX w) k fa fd [x] (sp w))
  (hsp:∀ (w:World) (H:Hp) (a:Addr) (ns:List Int),ns.length<=n->zgj H->SqL (K w.params) H a (ns.map V.int)->sp w [.ref a] H (fun v _=>v=.bl true) fun _ _ _=>False)
  (hCX:∀ (w:World) (H:Hp) (s:Shared) (e:Value) (s':Shared),CX w [] H s (fun _ _ _=>False) e s'->False) :
  PySem.W.WalkO q loose XP YP l.row.toRowW d [] (fun f vs=>PySem.call f vs):=by
 refine Att.attach_call hn hdf fun w s₀ s₁ mg mb fa o pm cd doc a vs ns G Y ho hd hcd hmg hobj hints hlen hg=>?_
 have KX:=hY w _ Y
 obtain⟨fd,hb,hF⟩:=F w mg fa _ KX G.T.g hmg
 exact zbs KX G.T.g G.T.b G.T.builtins G.T.nolimit hg hobj hints (xM hlen hn2) hr hF hb (fun H hO hS=>hsp w H a ns hlen hO hS) fun H e s'=>hCX w H s₁ e s'
end L2
namespace L2
open PySem PySem.Spec PyProof.Rows
noncomputable def jo(s:Stmt):Arguments:=match s with
 |.FunctionDef _ a _ _ _ _ _ _ _ _=>a
 |_=>{ posonlyargs:= [],args:= [],vararg:=none,kwonlyargs:= [],kw_defaults:= [],kwarg:=none,defaults:= [] }
noncomputable def defBody(s:Stmt):List Stmt:=match s with
 |.FunctionDef _ _ b _ _ _ _ _ _ _=>b
 |_=> []
noncomputable def defScope(s:Stmt):Scope:=match s with
 |.FunctionDef _ _ _ _ _ _ sc _ _ _=>sc
 |_=>{ kind:=.function,names:= [],isGenerator:=false,isCoroutine:=false }
noncomputable abbrev CX0:CXT:=fun _ _ _ _ _ _=>False
noncomputable abbrev E0:XK:=fun _ _ _=>False
theorem Kb{X:Cx}:wx CX0 X E0:=fun _ _ _ _ _ _ _ h=>h.elim
structure Fun(K:PySem.W.Frag)(x qual:Str)(st:Stmt)(f:Addr)(fd:FuncData):Prop where
 ex:∃ (oc:Value) (od:Option Addr) (kV doc pm:Value) (an:Option Addr) (cdv ct:Value) (osl:Array (Option Value)),
  fd=PySem.W.fnOf x qual (jo st) (defBody st) (defScope st) .none kV doc pm an cdv ct/\K.lookup f=some ⟨oc,od,.func fd,osl⟩/\PySem.W.codeIn K cdv qual=true
 kp:PySem.W.keepIn K (.ref f)=true
section
variable {P:Program} {w:World} {K:PySem.W.Frag} {mg:Str->Option Value} {base:Heap}
theorem Fun.ok{x qual:Str}{st:Stmt}{f:Addr}{fd:FuncData}{N ps:List Str}{k:Nat}{sp:Sp}(F:Fun K x qual st f fd)(S:qQ N ps (defScope st))(len:∀ vs H Q E,sp vs H Q E->vs.length=ps.length)
  (hbody:∀ (cdv:Value) (A:Around) (outer:List Env) (s:Shared) (H:Hp) (vs:List V) (Q:VK) (E:XK),Room k (A.deeper (envOfC qual (defScope st) s.heap.objs.size f cdv))->sp vs H Q E ->
   ∃ t,PSs (Z2 CX0 P w K mg base N qual (defScope st) f cdv A outer s H E).nox (defBody st) t/\t { nx:=fun _ H'=>Q .non H',rt:=Q } (start N vs) H):wC P w K mg base CX0 (k+1) f fd ps sp:=by
 obtain⟨oc,od,kV,doc,pm,an,cdv,ct,osl,rfl,lk,hcd⟩:=F.ex
 refine zfg lk hcd S len fun A outer s H vs Q E hr hsp=>?_
 obtain⟨t,h,q⟩:=hbody cdv A outer s H vs Q E hr hsp
 exact⟨t,h.nox,q⟩
theorem Fun.binds{x qual:Str}{st:Stmt}{f:Addr}{fd:FuncData}{ps:List Str}(F:Fun K x qual st f fd)
  (h:∀ (kV doc pm:Value) (an:Option Addr) (cdv ct:Value) (us:List Value),us.length=ps.length->bindArgs (PySem.W.fnOf x qual (jo st) (defBody st) (defScope st) .none kV doc pm an cdv ct) ⟨us,[]⟩=pure (ps.zip us)):Binds K fd ps []:=by
 obtain⟨oc,od,kV,doc,pm,an,cdv,ct,osl,rfl,lk,hcd⟩:=F.ex
 exact .all (h kV doc pm an cdv ct)
theorem YM{x qual:Str}{st:Stmt}{f:Addr}{oc:Value}{od an:Option Addr}{osl:Array (Option Value)}{kV doc pm cdv ct:Value}(l:K.lookup f=some ⟨oc,od,.func (PySem.W.fnOf x qual (jo st) (defBody st) (defScope st) .none kV doc pm an cdv ct),osl⟩)
  (c:PySem.W.codeIn K cdv qual=true) (k:PySem.W.keepIn K (.ref f)=true):Fun K x qual st f (PySem.W.fnOf x qual (jo st) (defBody st) (defScope st) .none kV doc pm an cdv ct):=⟨⟨oc,od,kV,doc,pm,an,cdv,ct,osl,rfl,l,c⟩,k⟩
end
section
variable {X:Cx}
theorem pv (i:Nat){x:Str}{pos:Pos}(hN:X.N[i]?=some x:=by rfl) (hv:Vis X.env.scope x:=by first | exact Or.inl rfl | exact Or.inr (Or.inl rfl) | exact Or.inr (Or.inr rfl)) (hd:(x==("__debug__" :Str))=false:=by decide)
    (hcd:(x==("__classdict__" :Str))=false:=by decide):PE X (.Name x pos) (zhB i):=jT hN hv hd hcd
end
theorem v9{A B:Prop}(h:B):if false=true then A else B:=by
 rw[if_neg uz]
 exact h
theorem Ve{A B:Prop}(h:A):if true=true then A else B:=by
 rw[if_pos rfl]
 exact h
noncomputable def Same(H H':Hp):Prop:=∀ b o,H b=some o->H' b=some o
theorem Same.refl(H:Hp):Same H H:=fun _ _ h=>h
theorem Same.trans{H H1 H2:Hp}(a:Same H H1)(b:Same H1 H2):Same H H2:=fun c o h=>b c o (a c o h)
theorem Same.free{H H':Hp}(e:Same H H'){l:Addr}(h:H' l=Option.none):H l=Option.none:=by
 cases q:H l with
 |none=>rfl
 |some o=>
  rw[e l o q]at h
  cases h
theorem Same.seq{K:PySem.W.Frag}{H H':Hp}{a:Addr}{xs:List V}(e:Same H H')(h:SqL K H a xs):SqL K H' a xs:=by
 rcases h with (h | ⟨o,h⟩) | h
 ·exact .inl (.inl (e _ _ h))
 ·exact .inl (.inr ⟨o,e _ _ h⟩)
 ·exact .inr h
end L2
namespace L2
open PySem PySem.Spec PyProof.Rows
theorem qM{α β:Type}[BEq α][LawfulBEq α]:∀ {l:List (α×β)}{x:α}{v:β},l.lookup x=some v->(x,v)∈l
 |[],_,_,h=>by simp at h
 | (a,b)::r,x,v,h=>by
  rw[xD]at h
  cases e:x==a with
  |true=>rw[e]at h;have e':=eq_of_beq e;subst e';cases h;exact xz
  |false=>rw[e]at h;exact xl _ (qM h)
theorem ZW{env:Env}:∀ (names:List (Str×NameKind)) (cs:List (Str×Addr)),
    (∀ y∈names,y.2=.free->∃ c,env.cells.lookup y.1=some c)->(∀ x c,cs.lookup x=some c->env.cells.lookup x=some c) ->
    ∃ cl,(forIn names cs fun x r=>if (x.snd==NameKind.free)=true then do
                let z<-cellOf env x.fst
                pure (ForInStep.yield ((x.fst,z)::r))
              else pure (ForInStep.yield r):Sem (List (Str×Addr)))=pure cl/\(∀ x c,cl.lookup x=some c->env.cells.lookup x=some c) /\
      (∀ x,(∃ c,cs.lookup x=some c)∨(x,NameKind.free)∈names->∃ c,cl.lookup x=some c)
  |[],cs,_,h2=>⟨cs,by simp,h2,fun x hx=>by
      rcases hx with h | h
      · exact h
      · cases h⟩
  | (n,k)::r,cs,h1,h2=>by
    rw[List.forIn_cons]
    by_cases hk:k=.free
    · subst hk
      obtain⟨c,hc⟩:=h1 (n,.free) xz rfl
      have e:cellOf env n=pure c:=by unfold cellOf;rw[hc]
      obtain⟨cl,e1,h3,h4⟩:=ZW r ((n,c)::cs) (fun y hy=>h1 y (xl _ hy)) (fun x c' hx=>by
        rw[xD]at hx
        cases q:x==n with
        |true=>rw[q]at hx;cases hx;rw[eq_of_beq q];exact hc
        |false=>rw[q]at hx;exact h2 x c' hx)
      refine⟨cl,?_,h3,fun x hx=>h4 x ?_⟩
      · simp only [beq_self_eq_true, if_true, e, pure_bind]
        exact e1
      · by_cases q : x = n
        · subst q;exact .inl ⟨c,by simp⟩
        · rcases hx with ⟨c', hx⟩ | hx
          · exact .inl ⟨c',by rw[xD,beq_eq_false_iff_ne.mpr q];exact hx⟩
          · rcases List.mem_cons.mp hx with z | z
            · exact absurd (congrArg Prod.fst z) q
            · exact .inr z
    · have hb : (k == NameKind.free) = false := by simpa using hk
      obtain⟨cl,e1,h3,h4⟩:=ZW r cs (fun y hy=>h1 y (xl _ hy)) h2
      refine⟨cl,?_,h3,fun x hx=>h4 x ?_⟩
      · simp only [hb, Bool.false_eq_true, if_false, pure_bind]
        exact e1
      · rcases hx with hx | hx
        · exact .inl hx
        · rcases List.mem_cons.mp hx with z | z
          · exact absurd (congrArg Prod.snd z).symm hk
          · exact .inr z
theorem Yj{sc:Scope}{env:Env}(h:∀ y∈sc.names,y.2=.free->∃ c,env.cells.lookup y.1=some c) :
  ∃ cl,closureFor sc env=pure cl/\(∀ x c,cl.lookup x=some c->env.cells.lookup x=some c)/\(∀ x,(x,NameKind.free)∈sc.names->∃ c,cl.lookup x=some c):=by
 obtain⟨cl,e,h1,h2⟩:=ZW (env:=env) sc.names [] h (fun x c z=>by simp at z)
 refine⟨cl,?_,h1,fun x hx=>h2 x (.inr hx)⟩
 simp only[closureFor]
 rw[bind_pure]
 exact e
noncomputable abbrev Cx.comp(X:Cx)(N':List Str)(scope:Scope)(cl:List (Str×Addr))(C:Addr)(s2:Shared)(H2:Hp)(fp:List Addr):Cx :=
 { X with N:=N',env:=compEnvC scope cl C X.env,s₀:=s2,H₀:=H2,outer:=X.stack,stack:=X.stack,ex:=fp,fn:=fun x=>decide (scope.names.lookup x=some .cell),pn:= [],xe:=fun _ _=>False }
structure CSc(psc:Scope)(N:List Str)(sc:Scope)(N':List Str)(k:Nat)(ix:List Nat):Prop where
 kind:sc.kind=.function
 cel:∀ y∈sc.names,y.2=.cell->sc.names.lookup y.1=some .cell
 loc:∀ y∈sc.names,y.2=.local->sc.names.lookup y.1=some .local
 fre:∀ y∈sc.names,y.2=.free->psc.names.lookup y.1=some .cell∨psc.names.lookup y.1=some .free
 len:N'.length=k+ix.length
 nd:N'.Nodup
 cap:∀ (j i:Nat),ix[j]?=some i->∃ y,N'[k+j]?=some y/\N[i]?=some y/\sc.names.lookup y=some .free
noncomputable def zaT(psc:Scope)(N:List Str)(sc:Scope)(N':List Str)(k:Nat)(ix:List Nat):Bool :=
 decide (sc.kind=.function)&&sc.names.all (fun y=>(decide (y.2≠ .cell)||decide (sc.names.lookup y.1=some .cell))&&(decide (y.2≠ .local)||decide (sc.names.lookup y.1=some .local))&&(decide (y.2≠ .free)||decide (psc.names.lookup y.1=some .cell)||decide (psc.names.lookup y.1=some .free))) &&
 decide (N'.length=k+ix.length)&&decide N'.Nodup&&(List.range ix.length).all (fun j=>match N'[k+j]?,N[ix.getD j 0]? with
  |some y,some z=>decide (y=z)&&decide (sc.names.lookup y=some .free)
  |_,_=>false)
theorem CSc.of{psc:Scope}{N:List Str}{sc:Scope}{N':List Str}{k:Nat}{ix:List Nat}(h:zaT psc N sc N' k ix=true):CSc psc N sc N' k ix:=by
 unfold zaT at h
 simp only[xa,decide_eq_true_eq,xA,xL]at h
 obtain⟨⟨⟨⟨h1,h2⟩,h3⟩,h4⟩,h5⟩:=h
 refine⟨h1,fun y hy e=>?_,fun y hy e=>?_,fun y hy e=>?_,h3,h4,fun j i e=>?_⟩
 ·rcases (h2 y hy).1.1 with z | z
  ·exact absurd e z
  ·exact z
 ·rcases (h2 y hy).1.2 with z | z
  ·exact absurd e z
  ·exact z
 ·rcases (h2 y hy).2 with (z | z) | z
  ·exact absurd e z
  ·exact .inl z
  ·exact .inr z
 ·obtain⟨hj,ei⟩:=xc.mp e
  have:=h5 j (xE.mpr hj)
  have e2:ix.getD j 0=i:=by rw[List.getD_eq_getElem?_getD,e];rfl
  rw[e2]at this
  split at this
  ·rename_i y z ey ez
   simp only[xa,decide_eq_true_eq]at this
   obtain⟨rfl,hl⟩:=this
   exact⟨y,ey,ez,hl⟩
  ·cases this
noncomputable def cS(k:Nat)(ix:List Nat)(σ:St):St:=List.replicate k none++ix.map fun i=>(σ[i]?).join
theorem Qf{env:Env}:∀ {names:List (Str×NameKind)}{x:Str},
    ((names.map fun (n,k)=>if (k==NameKind.free&&env.scope.kind==.function&&env.kindOf n==some .cell) then (n,NameKind.cell) else (n,k)).lookup x=some .cell ∨
     (names.map fun (n,k)=>if (k==NameKind.free&&env.scope.kind==.function&&env.kindOf n==some .cell) then (n,NameKind.cell) else (n,k)).lookup x=some .free)->names.lookup x=some .free∨names.lookup x=some .cell
  |[],_,h=>by simp at h
  | (n,k)::r,x,h=>by
    have ih:=@Qf env r x
    rw[xI]at h
    dsimp only at h
    by_cases hcd:(k==NameKind.free&&env.scope.kind==.function&&env.kindOf n==some .cell)=true
    · have hkf : k = .free := by
        simp only[xa]at hcd
        exact eq_of_beq hcd.1.1
      rw[if_pos hcd]at h
      cases hx:x==n with
      |true=>rw[xD,hx,hkf];exact .inl rfl
      |false=>simp only[xD,hx]at h;simp only[xD,hx];exact ih h
    · rw [if_neg hcd] at h
      cases hx:x==n with
      |true=>
        simp only[xD,hx]at h
        rw[xD,hx]
        rcases h with h | h
        · exact .inr h
        · exact .inl h
      |false=>simp only[xD,hx]at h;simp only[xD,hx];exact ih h
theorem Jz{env:Env}:∀ {names:List (Str×NameKind)}{x:Str},names.lookup x=some .free ->
    ((names.map fun (n,k)=>if (k==NameKind.free&&env.scope.kind==.function&&env.kindOf n==some .cell) then (n,NameKind.cell) else (n,k)).lookup x=some .cell ∨
     (names.map fun (n,k)=>if (k==NameKind.free&&env.scope.kind==.function&&env.kindOf n==some .cell) then (n,NameKind.cell) else (n,k)).lookup x=some .free)
  |[],_,h=>by simp at h
  | (n,k)::r,x,h=>by
    have ih:=@Jz env r x
    rw[xI]
    dsimp only
    cases hx:x==n with
    |true=>
      rw[xD,hx]at h
      cases h
      by_cases hcd:(NameKind.free==NameKind.free&&env.scope.kind==.function&&env.kindOf n==some .cell)=true
      · rw[if_pos hcd];simp[xD,hx]
      · rw[if_neg hcd];simp[xD,hx]
    |false=>
      rw[xD,hx]at h
      by_cases hcd:(k==NameKind.free&&env.scope.kind==.function&&env.kindOf n==some .cell)=true
      · rw[if_pos hcd];simp only[xD,hx];exact ih h
      · rw[if_neg hcd];simp only[xD,hx];exact ih h
structure ClOk(X:Cx)(sc:Scope)(cl:List (Str×Addr))(C:Addr)(h4:Heap):Prop where
 src:∀ x c,cl.lookup x=some c->X.env.cells.lookup x=some c∨(C<c/\h4.IsCell c none)
 inj:∀ x y c,cl.lookup x=some c->cl.lookup y=some c->x=y
 has:∀ x,(sc.names.lookup x=some .free∨sc.names.lookup x=some .cell)->∃ c,cl.lookup x=some c
 own:∀ x c,sc.names.lookup x=some .cell->cl.lookup x=some c->C<c
 old:∀ x c,sc.names.lookup x=some .free->cl.lookup x=some c->X.env.cells.lookup x=some c
theorem qB:∀ (names:List (Str×NameKind)) (n:Nat) (acc:List (Str×Addr)),cellsFrom n names acc=cellsFrom n names []++acc
 |[],n,acc=>rfl
 | (x,k)::r,n,acc=>by
  unfold cellsFrom
  split
  ·rw[qB r (n+1) ((x,n)::acc),qB r (n+1) [(x,n)],List.append_assoc];rfl
  ·exact qB r n acc
theorem jU:∀ (names:List (Str×NameKind)) (n:Nat) (y:Str×Addr),y∈cellsFrom n names []->(y.1,NameKind.cell)∈names
 |[],n,y,h=>by cases h
 | (x,k)::r,n,y,h=>by
  unfold cellsFrom at h
  split at h
  ·rename_i hk
   rw[qB]at h
   rcases xJ.mp h with h | h
   ·exact xl _ (jU r _ y h)
   ·have e:y=(x,n):=by simpa using h
    subst e
    have hk':k=.cell:=eq_of_beq hk
    subst hk'
    exact xz
  ·exact xl _ (jU r _ y h)
theorem ZP{β:Type}:∀ (l1 l2:List (Str×β)) (x:Str),(l1++l2).lookup x=(match l1.lookup x with | some v=>some v | none=>l2.lookup x)
 |[],l2,x=>rfl
 | (a,b)::l1,l2,x=>by
  rw[uT,xD,xD]
  cases x==a with
  |true=>rfl
  |false=>exact ZP l1 l2 x
theorem Ws{M:Model}{A:Around}{E:Value->Shared->Prop}{s:Shared}{scope:Scope}{globals:Addr}{cl:List (Str×Addr)}{qual:Str}{env:Env}{builtins:Addr}{Q:Env->Shared->Prop}
  (hQ:Q (newEnv scope s.heap.objs.size globals (cellsFrom (s.heap.objs.size+1) scope.names cl) qual none .none (some env) builtins) { s with heap:=pushCells (s.heap.push { cls:=.type "dict",data:=.dict #[] }) scope.names }) :
  wpAny M A (newFunctionEnv scope globals cl [] qual none .none (some env) builtins) Q E s:=by
 simp only[newFunctionEnv,Option.isSome_some,if_true]
 refine wpAny_bind (wpAny_alloc ?_)
 refine wpAny_bind (wpAny_layCells _ (fun name kind cells=>by cases hkc:kind==NameKind.cell<;>simp[hkc]) _ _ _ _ ?_)
 rw[show ({ s with heap:=s.heap.push { cls:=.type "dict",data:=.dict #[] } }:Shared).heap.objs.size=s.heap.objs.size+1 from Heap.size_push ..]
 simp only[List.forIn_nil]
 exact wpAny_bind (wpAny_pure (wpAny_pure hQ))
section
variable {X:Cx} {pins:List (Addr×Obj)} {σ:St} {H:Hp} {s2:Shared}
theorem ClOk.of{sc:Scope}{N':List Str}{ix:List Nat}{k:Nat}(I:Inv X pins σ H s2)(S:CSc X.env.scope X.N sc N' k ix){cl:List (Str×Addr)}(hcl1:∀ x c,cl.lookup x=some c->X.env.cells.lookup x=some c)(hcl2:∀ x,(x,NameKind.free)∈sc.names->∃ c,cl.lookup x=some c)
  {g:Heap} {o:Obj} (hg:s2.heap.objs.size<=g.objs.size):ClOk X sc (cellsFrom (g.objs.size+1) sc.names cl) g.objs.size (pushCells (g.push o) sc.names):=by
 have ok:=cellsFrom_ok sc.names (g.push o) (g.objs.size+1) [] ⟨(fun _ _ hm=>nomatch hm),List.Pairwise.nil⟩ (by rw[Heap.size_push];exact xm _)
 rw[Heap.size_push]at ok
 rw[qB]
 have hnew:∀ x c,(cellsFrom (g.objs.size+1) sc.names []).lookup x=some c->g.objs.size<c/\(pushCells (g.push o) sc.names).IsCell c none/\(x,NameKind.cell)∈sc.names:=fun x c e=>by
  have hm:=qM e
  have:=ok.empty x c hm
  exact⟨Nat.lt_of_succ_le this.2,this.1,jU _ _ _ hm⟩
 have hold:∀ x c,cl.lookup x=some c->c<g.objs.size:=fun x c e=>by
  obtain⟨v,ob,hob,_⟩:=I.cell x c (hcl1 x c e)
  exact xy (Heap.lt_size hob) hg
 have hget:∀ x c,(cellsFrom (g.objs.size+1) sc.names []++cl).lookup x=some c->((cellsFrom (g.objs.size+1) sc.names []).lookup x=some c)∨((cellsFrom (g.objs.size+1) sc.names []).lookup x=none/\cl.lookup x=some c):=fun x c e=>by
  rw[ZP]at e
  cases q:(cellsFrom (g.objs.size+1) sc.names []).lookup x with
  |some v=>rw[q]at e;exact .inl e
  |none=>rw[q]at e;exact .inr ⟨rfl,e⟩
 have hnone:∀ x,sc.names.lookup x=some .free->(cellsFrom (g.objs.size+1) sc.names []).lookup x=none:=fun x hx=>by
  cases q:(cellsFrom (g.objs.size+1) sc.names []).lookup x with
  |none=>rfl
  |some c=>
   have:=S.cel (x,.cell) (hnew x c q).2.2 rfl
   rw[hx]at this;cases this
 refine⟨fun x c e=>?_,fun x y c e1 e2=>?_,fun x hx=>?_,fun x c hx e=>?_,fun x c hx e=>?_⟩
 ·rcases hget x c e with q | ⟨_,q⟩
  ·exact .inr ⟨(hnew x c q).1,(hnew x c q).2.1⟩
  ·exact .inl (hcl1 x c q)
 ·rcases hget x c e1 with q1 | ⟨_,q1⟩
  ·rcases hget y c e2 with q2 | ⟨_,q2⟩
   ·have m1:=qM q1
    have m2:=qM q2
    by_cases hxy:x=y
    ·exact hxy
    ·exfalso
     have:=ok.apart
     obtain⟨i,hi,ei⟩:=uh m1
     obtain⟨j,hj,ej⟩:=uh m2
     have pw:=uj.mp this
     rcases uQ i j with h | h | h
     ·have:=pw i j hi hj h
      rw[ei,ej]at this;exact this rfl
     ·subst h
      rw[ei]at ej
      exact hxy (congrArg Prod.fst ej)
     ·have:=pw j i hj hi h
      rw[ei,ej]at this;exact this rfl
   ·exact absurd (hold y c q2) (Nat.not_lt.mpr (uq (hnew x c q1).1))
  ·rcases hget y c e2 with q2 | ⟨_,q2⟩
   ·exact absurd (hold x c q1) (Nat.not_lt.mpr (uq (hnew y c q2).1))
   ·exact I.ok.inj x y c (hcl1 x c q1) (hcl1 y c q2)
 ·rw[ZP]
  rcases hx with hx | hx
  ·rw[hnone x hx]
   exact hcl2 x (qM hx)
  ·obtain⟨c,hc⟩:=Qc (n:=g.objs.size+1) hx
   rw[hc];exact⟨c,rfl⟩
 ·rcases hget x c e with q | ⟨q,_⟩
  ·exact (hnew x c q).1
  ·obtain⟨c',hc⟩:=Qc (n:=g.objs.size+1) hx
   rw[hc]at q;cases q
 ·rcases hget x c e with q | ⟨_,q⟩
  ·rw[hnone x hx]at q;cases q
  ·exact hcl1 x c q
theorem Inv.child{fp:List Addr}{sc:Scope}{N':List Str}{ix:List Nat}{k:Nat}(I:Inv X pins σ H s2)(S:CSc X.env.scope X.N sc N' k ix)(hf:∀ b∈fp,Jn X pins H b)
  (hfo:∀ b∈fp,∃ o,s2.heap.get? b=some o) {cl:List (Str×Addr)}
  {C:Addr} {s4:Shared} (L:ClOk X sc cl C s4.heap) (hC:s2.heap.objs.size<=C) (keep:∀ b o,s2.heap.get? b=some o->s4.heap.get? b=some o) {m0:Str->Option Value} (hns:s4.heap.Ns C m0) (ho:s4.os=s2.os) (hg:AllBare s4.gens) :
  Inv (X.comp N' sc cl C s2 H fp) [] (cS k ix σ) H s4 where
 ok:={
  mod:=I.ok.mod
  kind:=S.kind
  glob:=I.ok.glob
  blt:=I.ok.blt
  above:=hC
  inj:=L.inj
  has:=fun x hx=>L.has x (Qf (env:=X.env) hx)
  cab:=fun x c h e=>xM hC (uq (L.own x c (of_decide_eq_true h) e))
  hd:=I.ok.hd
  frames:=I.ok.frames
  stk:=.inl rfl
  exf:=fun b hb=>by
   obtain⟨f0,f1,f2,f3,f4,f5⟩:=hf b hb
   obtain⟨o,e⟩:=hfo b hb
   refine⟨xu (xy (Heap.lt_size e) hC),fun x c z=>?_⟩
   rcases L.src x c z with z | z
   ·exact f4 x c z
   ·exact Ne.symm (xu (Nat.lt_trans (xy (Heap.lt_size e) hC) z.1))
  bs:=fun b o e=>I.bs b o e
  bsz:=xM I.ok.bsz I.sz
  noex:=fun b o e hb=>by
   obtain⟨f0,f1,f2,f3,f4,f5⟩:=hf b hb
   rcases f3 with z | z
   ·exact I.ok.noex b o e z
   ·exact absurd (xy (Heap.lt_size (I.ok.bs b o e).1) z) (uc _)
  exfs:=fun b hb hz=>by
   obtain⟨f0,f1,f2,f3,f4,f5⟩:=hf b hb
   rcases xo.mp (I.stkSub b hz)with z | z
   ·exact f1 z
   ·exact f2 z
  funs:=I.stack
  frf:=I.stkFree }
 os:=ho
 bare:=hg
 base:=Un.kept keep
 loc:=⟨m0,hns,fun i x v e1 e2 e3=>by
  unfold cS at e2
  by_cases hi:i<k
  ·rw[xf (by simpa using hi),xQ,if_pos hi]at e2
   cases e2
  ·obtain⟨j,rfl⟩:∃ j,i=k+j:=⟨i-k,by omega⟩
   rw[xg (by simp),uG,Nat.add_sub_cancel_left,xh]at e2
   cases q:ix[j]? with
   |none=>rw[q]at e2;cases e2
   |some i0=>
    rw[q]at e2
    obtain⟨y,hy1,hy2,hy3⟩:=S.cap j i0 q
    have ey:y=x:=by
     have:(X.comp N' sc cl C s2 H fp).N[k+j]?=some y:=hy1
     rw[this]at e1;exact Option.some.inj e1
    subst ey
    have ev:σ[i0]?=some (some v):=by
     simp only[um,Option.some.injEq]at e2
     cases r:σ[i0]? with
     |none=>rw[r]at e2;cases e2
     |some z=>rw[r]at e2;exact congrArg some e2
    obtain⟨m,hn,hl⟩:=I.loc
    have hfr:=S.fre (y,.free) (qM hy3) rfl
    have hv:Vis X.env.scope y:=.inr hfr
    obtain⟨u,r1,l1⟩:=hl i0 y v hy2 ev hv
    refine⟨u,r1,.inr ⟨Jz (env:=X.env) hy3,?_⟩⟩
    obtain⟨c,hc⟩:=L.has y (.inl hy3)
    refine⟨c,hc,?_⟩
    have hc':=L.old y c hy3 hc
    rcases l1 with ⟨hk,_⟩ | ⟨_,c',hc2,z⟩
    ·have hk':X.env.scope.names.lookup y=some .local:=hk
     rcases hfr with w | w
     ·rw[hk']at w;cases w
     ·rw[hk']at w;cases w
    ·rw[hc']at hc2;cases hc2
     obtain⟨ob,hob,hd⟩:=z
     exact⟨ob,keep _ _ hob,hd⟩⟩
 cell:=fun x c e=>by
  rcases L.src x c e with e | e
  ·obtain⟨v,ob,hob,hd⟩:=I.cell x c e
   exact⟨v,ob,keep _ _ hob,hd⟩
  ·exact⟨none,e.2⟩
 free:=I.hok.fresh hC
 freeC:=fun x c e=>by
  rcases L.src x c e with e | e
  ·exact I.freeC x c e
  ·exact I.hok.fresh (xM hC (uq e.1))
 pin:=fun p hp=>by cases hp
 hok:=I.hok.kept keep
 len:=by
  show (cS k ix σ).length=N'.length
  rw[S.len];unfold cS;simp
theorem Inv.back{fp:List Addr}{sc:Scope}{N':List Str}{cl:List (Str×Addr)}{C:Addr}{pl:List (Addr×Obj)}{σc:St}{H5:Hp}{s5:Shared}(I:Inv X pins σ H s2)(hf:∀ b∈fp,Jn X pins H b)(J:Inv (X.comp N' sc cl C s2 H fp) pl σc H5 s5):Inv X pins σ H5 s5 :=
 I.call' (ch:=fp) J.os J.base J.hok J.bare fun b hb=>by
  obtain⟨f0,f1,f2,f3,f4,f5⟩:=hf b hb
  exact⟨f3,f1,f4,f5⟩
end
section
variable {X:Cx} {pins:List (Addr×Obj)} {σ:St} {H:Hp} {s:Shared}
theorem Inv.track{a:Addr}{o:HO}(I:Inv X pins σ H s)(ha:X.s₀.heap.objs.size<=a)(hn:H a=none)(hL:a≠X.env.locals)(hc:∀ x c,X.env.cells.lookup x=some c->c≠a)(hp:∀ p∈X.pn++pins,p.1≠a)
  (new:ObjOk X.prog X.w (upd H a o) s.heap a o):Inv X pins σ (upd H a o) s where
 ok:=I.ok
 os:=I.os
 bare:=I.bare
 base:={
  keep:=I.base.keep
  slot:=I.base.slot
  free:=fun b ob e n hx=>by
   rw[zo (xu (xy (Heap.lt_size e) ha))]
   exact I.base.free b ob e n hx
  there:=I.base.there
  tups:=fun b xs e=>by
   have:=I.base.tups b xs e
   rw[zo (zV this hn)];exact this
  frzs:=fun b ob u e=>by
   have:=I.base.frzs b ob u e
   rw[zo (zV this hn)];exact this
  tbls:=fun b ps e=>by
   obtain⟨mo,this⟩:=I.base.tbls b ps e
   exact⟨mo,by rw[zo (zV this hn)];exact this⟩ }
 loc:=I.loc
 cell:=I.cell
 free:=by rw[zo (Ne.symm hL)];exact I.free
 freeC:=fun x c e=>by rw[zo (hc x c e)];exact I.freeC x c e
 pin:=fun p h=>by
  obtain⟨e,n,r⟩:=I.pin p h
  exact⟨e,by rw[zo (hp p h)];exact n,r⟩
 hok:=fun b u q=>by
  by_cases hb:b=a
  ·subst hb;rw[zA]at q;cases q;exact new
  ·rw[zo hb]at q
   exact (I.hok b u q).stay (fun c v _ r=>r) (fun c r=>by rw[zo (zV r hn)];exact r) fun c xs r=>by rw[zo (zV r hn)];exact r
 len:=I.len
end
noncomputable def PF(X:Cx)(ifs:List Expr)(t:TT):Prop :=
 ∀ (pins:List (Addr×Obj)) (s:Shared) (σ:St) (H:Hp) (Q:Bool->Hp->Prop),Inv X pins σ H s->t σ H Q ->
  wpAny (model X.prog X.w) X.A (forIn ifs true fun c r=>if r=true then do let ok<-isTrue c X.env (eval c X.env);pure (ForInStep.yield ok) else pure (ForInStep.yield r)) (TP X pins σ Q) X.xe s
noncomputable def zh1:TT:=fun _ H Q=>Q true H
theorem pf_nil{X:Cx}:PF X [] zh1:=fun _ _ _ H _ I h=>wpAny_tests_nil ⟨H,I,h⟩
theorem zgb{X:Cx}{c:Expr}{t:TT}(h:PT X c t):PF X [c] t:=fun pins s σ H Q I hw=>wpAny_tests_one (h pins s σ H Q I hw)
theorem yw{prog:Program}{w:World}{A:Around}{R:Result->Shared->Prop}{s:Shared}{elt target iter:Expr}{ifs:List Expr}{scope:Scope}{pos:Pos}{it acc:Value}{env:Env}(I:Nat->Shared->Prop)
  (turn:∀ n s,I n s->wpAny (model prog w) A (pyNext it) (fun r s₁=>match r with
   |none=>R (.ok .next) s₁
   |some v=>wpAny (model prog w) A (letOwnedTupleGo target it v) (fun _ s₁=>wpAny (model prog w) A (assign target env v) (fun _ s₂=>
     wpAny (model prog w) A (forIn ifs true fun c r=>if r=true then do let ok<-isTrue c env (eval c env);pure (ForInStep.yield ok) else pure (ForInStep.yield r)) (fun ok s₃=>
      if ok=true then wpAny (model prog w) A (eval elt env) (fun x s₄=>
       wpAny (model prog w) A (call (.builtin "list.append") [acc,x]) (fun _ s₅=>∃ m,m<n/\I m s₅) (fun _ _=>False) s₄) (fun _ _=>False) s₃
      else ∃ m,m<n/\I m s₃) (fun _ _=>False) s₂) (fun _ _=>False) s₁) (fun _ _=>False) s₁) (fun _ _=>False) s)
  (n:Nat) (h:I n s) :
  codeAny (model prog w) A (.compLoop (.ListComp elt [⟨target,iter,ifs,0⟩] scope pos) 0 it acc env) R s:=by
 refine codeAny_loop rfl I (fun n s hI=>?_) n h
 show wpAny _ A ((compTurn (.ListComp elt [⟨target,iter,ifs,0⟩] scope pos) 0 it acc env).onRaise (fun x=>do noteFrame x env;theTreesLotGoes x)) _ _ s
 refine wpAny_noted ?_
 rw[compTurn_list]
 refine wpAny_bind (wpAny_standAt (wpAny_bind (wpAny_mono (turn n s hI) (fun r s₁ h₁=>?_) fun _ _ f=>f.elim)))
 cases r with
 |none=>exact wpAny_pure h₁
 |some v=>
  refine wpAny_bind (wpAny_mono h₁ (fun _ s₂ h₂=>?_) fun _ _ f=>f.elim)
  refine wpAny_bind (wpAny_mono h₂ (fun _ s₂ h₂=>wpAny_bind (wpAny_mono h₂ (fun ok s₃ h₃=>?_) fun _ _ f=>f.elim)) fun _ _ f=>f.elim)
  cases ok with
  |false=>exact wpAny_pure ⟨rfl,h₃⟩
  |true=>
   exact wpAny_bind (wpAny_bind (wpAny_mono h₃ (fun x s₄ h₄=>wpAny_bind (wpAny_mono h₄ (fun _ s₅ h₅=>wpAny_pure (wpAny_pure ⟨rfl,h₅⟩)) fun _ _ f=>f.elim)) fun _ _ f=>f.elim))
noncomputable def zgL(k:Nat)(ix:List Nat)(g:TG)(tt:TT)(te:TE)(σ:St)(J:It)(H1:Hp)(Q:List V->Hp->Prop):Prop :=
 ∃ W:Nat->Nat->List V->Hp->Prop,(∃ m,W 0 m [] H1)/\∀ i m ys H,W i m ys H->ys.length<sizeLine /\
  ((J.stop i H/\Q ys H)∨(J.go i H/\∃ N:List V->Hp->Prop,(∀ ys' H',N ys' H'->∃ m',m'<m/\W (i+1) m' ys' H')/\∀ x H',J.yld i H x H'->g x (cS k ix σ) H' fun σ2 H2=>σ2.drop k=(cS k ix σ).drop k/\tt σ2 H2 fun b H3=>
   if b=true then te σ2 H3 fun y H4=>N (ys++ [y]) H4 else N ys H3))
noncomputable def WN(k:Nat)(ix:List Nat)(wi:TI)(g:TG)(tt:TT)(te:TE):TE:=fun σ H Q=>
 wi σ H fun J H1=>zgL k ix g tt te σ J H1 fun ys H2=>∀ p,H2 p=none->Q (.ref p) (upd H2 p (.lst ys))
noncomputable abbrev Zp (ys:List Value) (n:Nat):Obj:={ cls:=.type "list",data:=.seq ys.toArray n }
section
variable {X:Cx} {pins:List (Addr×Obj)} {σ:St} {H:Hp} {s2:Shared}
theorem WR{elt tg iter:Expr}{ifs:List Expr}{scope:Scope}{pos:Pos}{N':List Str}{k:Nat}{ix:List Nat}{g:TG}{tt:TT}{te:TE}{cl:List (Str×Addr)}{it:Addr}{fp:List Addr}{tn:Nat->Heap->Prop}{J:It}
  {Q:List V->Hp->Prop} {RR:Value->Addr->Result->Shared->Prop} {E:Value->Shared->Prop} (hcalm:X.calm=true)
  (S:CSc X.env.scope X.N scope N' k ix)
  (hg:∀ cl C s2 H2 fp,PG (X.comp N' scope cl C s2 H2 fp) tg g) (ht:∀ cl C s2 H2 fp,PF (X.comp N' scope cl C s2 H2 fp) ifs tt) (he:∀ cl C s2 H2 fp,PE (X.comp N' scope cl C s2 H2 fp) elt te)
  (I2:Inv X pins σ H s2) (T:zaw X.prog X.w X.K tg J fp it tn) (st2:tn 0 s2.heap) (f2:∀ b∈fp,Jn X pins H b) (hR:zgL k ix g tt te σ J H Q)
  (hcl1:∀ x c,cl.lookup x=some c->X.env.cells.lookup x=some c) (hcl2:∀ x,(x,NameKind.free)∈scope.names->∃ c,cl.lookup x=some c)
  (fin:∀ (D C:Addr) (ys:List V) (H5:Hp) (s5:Shared) (m:Str->Option Value),Inv X pins σ (upd H5 D (.lst ys)) s5->Q ys H5->H5 D=none->s5.heap.Ns C m->C≠D->s2.heap.objs.size<=C->upd H5 D (.lst ys) C=none ->
   RR (.ref D) C (.ok .next) s5) :
  wpAny (model X.prog X.w) X.A (newList []) (fun acc s₃=>wpAny (model X.prog X.w) X.A (newFunctionEnv scope X.env.globals cl [] X.env.qual none .none (some X.env)) (fun cenv s₄=>
   codeAny (model X.prog X.w) X.A (.compStart (.ListComp elt [⟨tg,iter,ifs,0⟩] scope pos) 0 (.ref it) acc { cenv with scope:=relabel scope X.env }) (RR acc cenv.locals) s₄) E s₃) E s2:=by
 refine wpAny_newObj_type (Ws ?_)
 dsimp only
 generalize hH2:s2.heap.push { cls:=.type "list",dict:=none,data:=.seq ([]:List Value).toArray }=G2
 have hC:G2.objs.size=s2.heap.objs.size+1:=by rw[<- hH2,Heap.size_push]
 have hDC:s2.heap.objs.size≠G2.objs.size:=by rw[hC];exact xu (uU _)
 have hCle:s2.heap.objs.size<=G2.objs.size:=by rw[hC];exact Nat.le_succ _
 have L:=ClOk.of I2 S hcl1 hcl2 (g:=G2) (o:={ cls:=.type "dict",data:=.dict #[] }) hCle
 have below:∀ b,b<s2.heap.objs.size->b≠G2.objs.size/\b≠s2.heap.objs.size:=fun b hb=>⟨by rw[hC];exact xu (uR hb),xu hb⟩
 have old:∀ b o,s2.heap.get? b=some o->(pushCells (G2.push { cls:=.type "dict",data:=.dict #[] }) scope.names).get? b=some o:=fun b o e=>pushCells_keeps _ _ b o (Heap.get?_push_of_some _ (hH2 ▸ Heap.get?_push_of_some _ e))
 have hacc:(pushCells (G2.push { cls:=.type "dict",data:=.dict #[] }) scope.names).get? s2.heap.objs.size=some (Zp [] 0):=pushCells_keeps _ _ _ _ (Heap.get?_push_of_some _ (hH2 ▸ Heap.get?_push_size _ rfl))
 have hns₁:(pushCells (G2.push { cls:=.type "dict",data:=.dict #[] }) scope.names).Ns G2.objs.size _:=(Heap.Ns.new G2 (.type "dict")).keeps (pushCells_keeps _ _)
 generalize pushCells (G2.push { cls:=.type "dict",data:=.dict #[] }) scope.names=h₁ at L old hacc hns₁ |-
 generalize cellsFrom (G2.objs.size+1) scope.names cl=cl2 at L |-
 have st1:tn 0 h₁:=T.keep _ _ _ st2 fun b _ o e=>old b o e
 have hfo:∀ b∈fp,∃ o,s2.heap.get? b=some o:=fun b hb=>let ⟨o,e,_⟩:=T.obj _ _ st2 b hb;⟨o,e⟩
 have Ic:Inv (X.comp N' scope cl2 G2.objs.size s2 H fp) [] (cS k ix σ) H { s2 with heap:=h₁ } :=
  I2.child S f2 hfo L hCle old hns₁ rfl I2.bare
 -- the accumulator D,as a pin
 have dfs:s2.heap.objs.size∉(X.comp N' scope cl2 G2.objs.size s2 H fp).fs:=fun hz=>by
  rcases xo.mp (I2.stkSub _ hz)with z | z
  ·exact absurd I2.lt (by rw[<- z];exact uc _)
  ·exact I2.nofs (xm _) z
 have dcell:∀ x c,cl2.lookup x=some c->c≠s2.heap.objs.size:=fun x c e=>by
  rcases L.src x c e with e | e
  ·obtain⟨v,ob,hob,_⟩:=I2.cell x c e
   exact xu (Heap.lt_size hob)
  ·exact Ne.symm (xu (Nat.lt_of_le_of_lt hCle e.1))
 have dpin:∀ (ys:List Value) (n:Nat) (σ':St) (H':Hp) (s':Shared),Inv (X.comp N' scope cl2 G2.objs.size s2 H fp) [] σ' H' s'->s'.heap.get? s2.heap.objs.size=some (Zp ys n)->H' s2.heap.objs.size=none ->
   Inv (X.comp N' scope cl2 G2.objs.size s2 H fp) [(s2.heap.objs.size,Zp ys n)] σ' H' s':=fun ys n σ' H' s' I' e hn=>I'.pins_of fun p hp=>by
  have e':p=(s2.heap.objs.size,Zp ys n):=by simpa using hp
  subst e'
  exact⟨e,hn,hDC,dfs,fun v z=>by cases z⟩
 have fpc:∀ (ys:List Value) (n:Nat) (H':Hp),(∀ b∈fp,H' b=none)->∀ b∈fp,Jn (X.comp N' scope cl2 G2.objs.size s2 H fp) [(s2.heap.objs.size,Zp ys n)] H' b:=fun ys n H' hn b hb=>by
  obtain⟨f0,f1,f2',f3,f4,f5⟩:=f2 b hb
  obtain⟨o,e⟩:=hfo b hb
  have hb2:=below b (Heap.lt_size e)
  refine⟨hn b hb,hb2.1,fun hz=>?_,.inl hb,fun x c z=>?_,fun p hp=>?_⟩
  ·rcases xo.mp (I2.stkSub b hz)with z | z
   ·exact f1 z
   ·exact f2' z
  ·rcases L.src x c z with z | z
   ·exact f4 x c z
   ·exact Ne.symm (xu (Nat.lt_trans (xy (Heap.lt_size e) hCle) z.1))
  ·have e':p=(s2.heap.objs.size,Zp ys n):=by simpa using hp
   subst e'
   exact Ne.symm hb2.2
 obtain⟨W,⟨m0,w0⟩,turn⟩:=hR
 have loop:codeAny (model X.prog X.w) X.A (.compLoop (.ListComp elt [⟨tg,iter,ifs,0⟩] scope pos) 0 (.ref it) (.ref s2.heap.objs.size) (compEnvC scope cl2 G2.objs.size X.env)) (RR (.ref s2.heap.objs.size) G2.objs.size)
   { s2 with heap:=h₁ }:=by
  refine yw (fun n s'=>∃ i ys its c H',Inv (X.comp N' scope cl2 G2.objs.size s2 H fp) [(s2.heap.objs.size,Zp its c)] (cS k ix σ) H' s'/\Vals ys its/\tn i s'.heap/\(∀ b∈fp,H' b=none)/\W i n ys H') ?_ m0
   ⟨0,[],[],0,H,dpin _ _ _ _ _ Ic hacc (I2.hok.fresh (xm _)),.nil,st1,fun b hb=>(f2 b hb).1,w0⟩
  rintro n s3 ⟨i,ys,its,c,H3,I3,rv,st3,fr3,w3⟩
  obtain⟨hlen,hw⟩:=turn i n ys H3 w3
  have hDn:H3 s2.heap.objs.size=none:=(I3.pin (s2.heap.objs.size,Zp its c) (by simp)).2.1
  have hDe:s3.heap.get? s2.heap.objs.size=some (Zp its c):=(I3.pin (s2.heap.objs.size,Zp its c) (by simp)).1
  rcases hw with ⟨stop,q⟩ | ⟨go,N,hN,step⟩
  ·refine thn (T.done (X.comp N' scope cl2 G2.objs.size s2 H fp) rfl rfl rfl hcalm i _ s3 _ H3 _ I3 (fpc _ _ _ fr3) st3 stop) fun r s4 ⟨hr,I4⟩=>?_
   subst hr
   have hDe4:s4.heap.get? s2.heap.objs.size=some (Zp its c):=(I4.pin (s2.heap.objs.size,Zp its c) (by simp)).1
   have Ib:Inv X pins σ H3 s4:=I2.back f2 I4
   have hz:ys.length<=sizeLine:=uq hlen
   obtain⟨m',hn',_⟩:=I4.loc
   have It:Inv X pins σ (upd H3 s2.heap.objs.size (.lst ys)) s4:=Ib.track I2.sz hDn (Ne.symm (xu I2.lt)) (fun x c e=>by
    obtain⟨v,ob,hob,_⟩:=I2.cell x c e
    exact xu (Heap.lt_size hob)) (fun p hp=>xu (Heap.lt_size (I2.pin p hp).1)) ⟨hz,its,c,rv,hDe4⟩
   exact fin _ _ ys H3 s4 m' It q hDn hn' (Ne.symm hDC) hCle (by rw[zo (Ne.symm hDC)];exact I4.free)
  ·refine thn (T.item (X.comp N' scope cl2 G2.objs.size s2 H fp) rfl rfl rfl hcalm i _ s3 _ H3 _ I3 (fpc _ _ _ fr3) st3 go) fun r s4 ⟨u,hr,h4⟩=>?_
   subst hr
   refine thn h4 fun _ s5 ⟨x,H5,I5,r5,y5,st5,fr5⟩=>?_
   have I5':=I5.pinned (fpc its c H5 fr5) (T.obj _ _ st5)
   refine thn (hg _ _ _ _ _ _ s5 _ H5 x u _ I5' r5 (step x H5 y5)) fun _ s6 ⟨σ6,H6,I6,hσ,q6⟩=>?_
   refine thn (ht _ _ _ _ _ _ s6 σ6 H6 _ I6 q6) fun ok s7 ⟨H7,I7,q7⟩=>?_
   have wk:∀ {pl:List (Addr×Obj)} {H':Hp} {s':Shared},Inv (X.comp N' scope cl2 G2.objs.size s2 H fp) pl σ6 H' s'->Inv (X.comp N' scope cl2 G2.objs.size s2 H fp) pl (cS k ix σ) H' s':=fun {pl H' s'} I'=>
    I'.weak (by rw[Ic.len,I'.len]) fun j v ev=>by
     by_cases hj:j<k
     ·unfold cS at ev
      rw[xf (by simpa using hj),xQ,if_pos hj]at ev
      cases ev
     ·obtain⟨j',rfl⟩:∃ j',j=k+j':=⟨j-k,by omega⟩
      rw[<- List.getElem?_drop,hσ,List.getElem?_drop]
      exact ev
   have itk:∀ {σ':St} {H':Hp} {s':Shared},Inv (X.comp N' scope cl2 G2.objs.size s2 H fp) ([(s2.heap.objs.size,Zp its c)]++Js fp s5.heap) σ' H' s'->tn (i+1) s'.heap/\∀ b∈fp,H' b=none:=fun {σ' H' s'} I'=>
    ⟨T.keep _ _ _ st5 fun b hb o e=>(I'.pin (b,o) (xB _ (xB _ (jL hb e)))).1,fun b hb=>by
     obtain⟨o,e,_⟩:=T.obj _ _ st5 b hb
     exact (I'.pin (b,o) (xB _ (xB _ (jL hb e)))).2.1⟩
   cases ok with
   |false=>
    rw[if_neg (by decide)]at q7 |-
    obtain⟨m',hm,w7⟩:=hN _ _ q7
    obtain⟨t7,f7⟩:=itk I7
    exact⟨m',hm,i+1,ys,its,c,H7,wk I7.unpinned,rv,t7,f7,w7⟩
   |true=>
    rw[if_pos rfl]at q7 |-
    refine thn (he _ _ _ _ _ _ s7 σ6 H7 _ I7 q7) fun yv s8 ⟨y,H8,I8,r8,n8q⟩=>?_
    obtain⟨m',hm,w8⟩:=hN _ _ n8q
    obtain⟨t8,f8⟩:=itk I8
    have I8':Inv (X.comp N' scope cl2 G2.objs.size s2 H fp) [(s2.heap.objs.size,Zp its c)] σ6 H8 s8:=I8.unpinned
    have e8:s8.heap.get? s2.heap.objs.size=some (Zp its c):=(I8'.pin (s2.heap.objs.size,Zp its c) (by simp)).1
    have n8:H8 s2.heap.objs.size=none:=(I8'.pin (s2.heap.objs.size,Zp its c) (by simp)).2.1
    refine call_meets F.slot_list_append ⟨_,e8,rfl⟩ F.entry_list_append (F.args_list_append_2 _ _) (PySem.list_append s2.heap.objs.size its.toArray c yv (by
     have:=rv.length
     rw[xp];omega)) ⟨e8,?_⟩
    have q9:=PySem.IsL.update e8 (·.push yv)
    rw[show its.toArray.push yv=(its++ [yv]).toArray by simp]at q9
    have I8n:Inv (X.comp N' scope cl2 G2.objs.size s2 H fp) [] σ6 H8 s8:=I8'.pins_of fun p hp=>by cases hp
    have I9:Inv (X.comp N' scope cl2 G2.objs.size s2 H fp) [] σ6 H8 { s8 with heap:=s8.heap.update s2.heap.objs.size (Obj.mapSeq (·.push yv)) } :=
     I8n.turned (t':=s8.toks) (fun b o hb e=>(Heap.get?_update_other s8.heap _ (Ne.symm hb)).trans e) n8 hDC (.inr (xm _)) (fun x c e=>dcell x c e) (fun p hp=>by cases hp)
    refine⟨m',hm,i+1,ys++ [y],its++ [yv],_,H8,wk (dpin _ _ _ _ _ I9 q9 n8),rv.append (.cons r8 .nil),?_,f8,w8⟩
    exact T.keep _ _ _ t8 fun b hb o e=>(Heap.get?_update_other s8.heap _ (by
     obtain⟨o',e'⟩:=hfo b hb
     exact Ne.symm (below b (Heap.lt_size e')).2)).trans e
 exact codeAny_compStart_list loop (T.self X.A 0 _ _ _ st1 loop)
theorem wA{X:Cx}{pins:List (Addr×Obj)}{σ:St}{H:Hp}{s:Shared}{scope:Scope}{N':List Str}{k:Nat}{ix:List Nat}(I:Inv X pins σ H s)(S:CSc X.env.scope X.N scope N' k ix) :
  ∃ cl,closureFor scope X.env=pure cl/\(∀ x c,cl.lookup x=some c->X.env.cells.lookup x=some c)/\(∀ x,(x,NameKind.free)∈scope.names->∃ c,cl.lookup x=some c) :=
 Yj fun y hy e=>by
  rcases S.fre y hy e with z | z
  ·exact I.ok.has _ (.inl z)
  ·exact I.ok.has _ (.inr z)
theorem Inv.letgo{H5:Hp}{s5:Shared}{σ5:St}{C:Addr}{h':Heap}(I2:Inv X pins σ H s2)(I5:Inv X pins σ5 H5 s5)(hCs:s2.heap.objs.size<=C)(hCn:H5 C=none)(hs:Heap.SameBut C s5.heap h'):Inv X pins σ5 H5 { s5 with heap:=h' } :=
 I5.turned (t':=s5.toks) (it:=C) (fun b o hb e=>(hs.2 b hb).trans e) hCn (Ne.symm (xu (xy I2.lt hCs))) (.inr (xM I2.sz hCs))
  (fun x c e=>by
   obtain⟨v,ob,hob,_⟩:=I2.cell x c e
   exact xu (xy (Heap.lt_size hob) hCs))
  (fun p hp=>xu (xy (Heap.lt_size (I2.pin p hp).1) hCs))
end
section
variable {X:Cx} {elt tg iter:Expr} {ifs:List Expr} {scope:Scope} {pos:Pos} {N':List Str} {k:Nat} {ix:List Nat} {g:TG} {tt:TT} {te:TE} {wi:TI}
theorem zew(hcalm:X.calm=true)(S:CSc X.env.scope X.N scope N' k ix)(hi:PI X tg iter wi)
  (hg:∀ cl C s2 H2 fp,PG (X.comp N' scope cl C s2 H2 fp) tg g) (ht:∀ cl C s2 H2 fp,PF (X.comp N' scope cl C s2 H2 fp) ifs tt) (he:∀ cl C s2 H2 fp,PE (X.comp N' scope cl C s2 H2 fp) elt te)
  (hs:∀ x,foldedSetIterable iter X.env x=pure x:=by intro _;rfl):PE X (.ListComp elt [⟨tg,iter,ifs,0⟩] scope pos) (WN k ix wi g tt te):=by
 intro pins s σ H Q I h
 obtain⟨cl,ecl,hcl1,hcl2⟩:=wA I S
 rw[eval_ListComp]
 refine wpAny_comprehension_free (use:=none) rfl hs ecl S.kind S.loc (thn (hi pins s σ H _ I h) fun v s1 h1=>thn h1 fun itv s2 h2=>?_)
 obtain⟨it,fp,tn,J,H2,e,I2,T,st2,f2,hR⟩:=h2
 subst e
 refine WR (RR:=fun acc C=>compPost (model X.prog X.w) X.A X.xe none (EP X pins σ Q) acc C) hcalm S hg ht he I2 T st2 f2 hR hcl1 hcl2 ?_
 intro D C ys H5 s5 m I5 q hD hn hCD hCs hCn
 exact⟨m,hn,fun h' hs'=>⟨.ref D,upd H5 D (.lst ys),I2.letgo I5 hCs hCn hs',rfl,q D hD⟩⟩
theorem zd8{i:Nat}{x:Str}{pos' spos:Pos}(hN:X.N.Nodup)(hi':X.N[i]?=some x)(hx:Loc X.env.scope x)(hcalm:X.calm=true)(S:CSc X.env.scope X.N scope N' k ix)(hi:PI X tg iter wi)
  (hg:∀ cl C s2 H2 fp,PG (X.comp N' scope cl C s2 H2 fp) tg g) (ht:∀ cl C s2 H2 fp,PF (X.comp N' scope cl C s2 H2 fp) ifs tt) (he:∀ cl C s2 H2 fp,PE (X.comp N' scope cl C s2 H2 fp) elt te)
  (hsw:swapsWith (.ListComp elt [⟨tg,iter,ifs,0⟩] scope pos) (some (.Name x pos')) spos.line X.env=pure true)
  (hs:∀ x,foldedSetIterable iter X.env x=pure x:=by intro _;rfl) (hf:X.fn x=true∨X.env.scope.names.lookup x=some .local:=by first | exact .inl rfl | exact .inr rfl | assumption) :
  PS X (.Assign [.Name x pos'] (.ListComp elt [⟨tg,iter,ifs,0⟩] scope pos) spos) (Ye (WN k ix wi g tt te) (V7 i)):=by
 intro pins s σ H D' I h
 obtain⟨cl,ecl,hcl1,hcl2⟩:=wA I S
 rw[exec_Assign_Name_used _ _ _ _ hsw]
 refine wpAny_bind (wpAny_standAt (wpAny_bind ?_))
 show wpAny _ X.A (do let _<-comprehension (.ListComp elt [⟨tg,iter,ifs,0⟩] scope pos) scope X.env _ (newList []) false (eval iter X.env) (some (assign (.Name x pos') X.env))) _ _ s
 refine wpAny_bind (wpAny_mono (wpAny_comprehension_free (use:=some (assign (.Name x pos') X.env)) (Q:=fun _ s'=>SP X pins D' .next s') rfl hs ecl S.kind S.loc
  (thn (hi pins s σ H _ I h) fun v s1 h1=>thn h1 fun itv s2 h2=>?_)) (fun _ s' hq=>wpAny_pure (wpAny_pure hq)) fun _ _ e=>e)
 obtain⟨it,fp,tn,J,H2,e,I2,T,st2,f2,hR⟩:=h2
 subst e
 refine WR (RR:=fun acc C=>compPost (model X.prog X.w) X.A X.xe (some (assign (.Name x pos') X.env)) (fun _ s'=>SP X pins D' .next s') acc C) hcalm S hg ht he I2 T st2 f2 hR hcl1 hcl2 ?_
 intro D C ys H5 s5 m I5 q hD hn hCD hCs hCn
 show wpAny _ X.A (assign (.Name x pos') X.env (.ref D)) _ _ s5
 refine wpAny_assign_Name (WS (v:=.ref D) I5 hN hi' hx rfl (fun s' I' ⟨a,sb,ha⟩=>?_) hf)
 have hCa:C≠a:=by
  rcases ha with rfl | ha
  ·exact Ne.symm (xu (xy I2.lt hCs))
  ·obtain⟨v,ob,hob,_⟩:=I2.cell x a ha
   exact Ne.symm (xu (xy (Heap.lt_size hob) hCs))
 exact⟨m,hn.sameBut sb hCa,fun h' hs'=>⟨_,_,I2.letgo I' hCs hCn hs',q D hD⟩⟩
end
end L2
namespace L2
open PySem PySem.Spec PyProof.Rows
mutual
/-- the value v stands for the data d;no list of it lies in M -/
inductive Rep(M:Addr->Prop)(H:Hp):V->PyData->Prop
 |none:Rep M H .non .none
 |bool (b:Bool):Rep M H (.bl b) (.bool b)
 |int (i:Int):Rep M H (.int i) (.int i)
 |str (x:Str):Rep M H (.str x) (.str x)
 |list {a:Addr} {vs:List V} {ds:List PyData}:H a=some (.lst vs)->¬ M a->RepL M H vs ds->Rep M H (.ref a) (.list ds)
 |tuple {a:Addr} {vs:List V} {ds:List PyData}:H a=some (.tup vs)->RepL M H vs ds->Rep M H (.ref a) (.tuple ds)
inductive RepL(M:Addr->Prop)(H:Hp):List V->List PyData->Prop
 |nil:RepL M H [] []
 |cons {v:V} {vs:List V} {d:PyData} {ds:List PyData}:Rep M H v d->RepL M H vs ds->RepL M H (v::vs) (d::ds)
end
noncomputable def zhs(M:Addr->Prop)(H H':Hp):Prop:=∀ b o,¬ M b->H b=some o->H' b=some o
noncomputable def TupM(H H':Hp):Prop:=∀ b xs,H b=some (.tup xs)->H' b=some (.tup xs)
structure zgw(M:Addr->Prop)(H H':Hp):Prop where
 same:zhs M H H'
 tups:TupM H H'
 stay:∀ b,H b≠none->H' b≠none
theorem Same.grow{M:Addr->Prop}{H H':Hp}(s:Same H H'):zgw M H H' :=
 ⟨fun b o _ e=>s b o e,fun b xs e=>s b _ e,fun b h=>by
  cases q:H b with
  |none=>exact absurd q h
  |some o=>rw[s b o q];exact fun z=>nomatch z⟩
mutual
theorem Rep.grow{M:Addr->Prop}{H H':Hp}(g:zgw M H H'):∀ {v:V}{d:PyData},Rep M H v d->Rep M H' v d
 |_,_,.none=>.none
 |_,_,.bool b=>.bool b
 |_,_,.int i=>.int i
 |_,_,.str x=>.str x
 |_,_,.list e n r=>.list (g.same _ _ n e) n (RepL.grow g r)
 |_,_,.tuple e r=>.tuple (g.tups _ _ e) (RepL.grow g r)
theorem RepL.grow{M:Addr->Prop}{H H':Hp}(g:zgw M H H'):∀ {vs:List V}{ds:List PyData},RepL M H vs ds->RepL M H' vs ds
 |_,_,.nil=>.nil
 |_,_,.cons r t=>.cons (Rep.grow g r) (RepL.grow g t)
end
mutual
/-- fewer addresses may change;or one more that is not there -/
theorem Rep.less{M M':Addr->Prop}{H:Hp}(g:∀ b,M' b->H b≠none->M b):∀ {v:V}{d:PyData},Rep M H v d->Rep M' H v d
 |_,_,.none=>.none
 |_,_,.bool b=>.bool b
 |_,_,.int i=>.int i
 |_,_,.str x=>.str x
 |_,_,.list e n r=>.list e (fun z=>n (g _ z (by rw[e];exact fun z=>nomatch z))) (RepL.less g r)
 |_,_,.tuple e r=>.tuple e (RepL.less g r)
theorem RepL.less{M M':Addr->Prop}{H:Hp}(g:∀ b,M' b->H b≠none->M b):∀ {vs:List V}{ds:List PyData},RepL M H vs ds->RepL M' H vs ds
 |_,_,.nil=>.nil
 |_,_,.cons r t=>.cons (Rep.less g r) (RepL.less g t)
end
theorem RepL.length{M:Addr->Prop}{H:Hp}:∀ {vs:List V}{ds:List PyData},RepL M H vs ds->vs.length=ds.length
 |_,_,.nil=>rfl
 |_,_,.cons _ t=>by rw[xk,xk,RepL.length t]
theorem RepL.append{M:Addr->Prop}{H:Hp}:∀ {vs ws:List V}{ds es:List PyData},RepL M H vs ds->RepL M H ws es->RepL M H (vs++ws) (ds++es)
 |_,_,_,_,.nil,s=>s
 |_,_,_,_,.cons r t,s=>.cons r (RepL.append t s)
theorem RepL.get{M:Addr->Prop}{H:Hp}:∀ {vs:List V}{ds:List PyData}{i:Nat}{v:V},RepL M H vs ds->vs[i]?=some v->∃ d,ds[i]?=some d/\Rep M H v d
 |_,_,_,_,.nil,e=>by simp at e
 |_,_,0,_,.cons r _,e=>by simp at e;subst e;exact⟨_,rfl,r⟩
 |_,_,i+1,v,.cons _ t,e=>by
  obtain⟨u,h1,h2⟩:=RepL.get (i:=i) (v:=v) t (by simpa using e)
  exact⟨u,by simpa using h1,h2⟩
theorem RepL.get'{M:Addr->Prop}{H:Hp}{vs:List V}{ds:List PyData}{i:Nat}{d:PyData}(r:RepL M H vs ds)(e:ds[i]?=some d):∃ v,vs[i]?=some v/\Rep M H v d:=by
 have hl:=r.length
 have hi:i<vs.length:=by rw[hl];exact (xc.mp e).1
 obtain⟨d',e',r'⟩:=r.get (i:=i) (v:=vs[i]) (by simp[hi])
 rw[e]at e';cases e'
 exact⟨vs[i],by simp[hi],r'⟩
theorem RepL.take{M:Addr->Prop}{H:Hp}:∀ {vs:List V}{ds:List PyData}(n:Nat),RepL M H vs ds->RepL M H (vs.take n) (ds.take n)
 |_,_,0,_=>.nil
 |_,_,_+1,.nil=>.nil
 |_,_,n+1,.cons r t=>.cons r (RepL.take n t)
theorem RepL.drop{M:Addr->Prop}{H:Hp}:∀ {vs:List V}{ds:List PyData}(n:Nat),RepL M H vs ds->RepL M H (vs.drop n) (ds.drop n)
 |_,_,0,r=>r
 |_,_,_+1,.nil=>.nil
 |_,_,n+1,.cons _ t=>RepL.drop n t
theorem RepL.ints{M:Addr->Prop}{H:Hp}:∀ (ns:List Int),RepL M H (ns.map V.int) (ns.map PyData.int)
 |[]=>.nil
 |n::ns=>.cons (.int n) (RepL.ints ns)
mutual
theorem Rep.reads{P:Program}{w:World}{M:Addr->Prop}{H:Hp}{h:Heap}(ok:HOk P w H h):∀ {v:V}{d:PyData}{u:Value},Rep M H v d->RelV v u->∃ as,Reads h u d as
 |_,_,_,.none,r=>by cases (show _=Value.none from r);exact⟨_,.none⟩
 |_,_,_,.bool b,r=>by cases (show _=Value.bool b from r);exact⟨_,.bool b⟩
 |_,_,_,.int i,r=>by obtain⟨t,e⟩:=(show ∃ t,_=Value.int i t from r);cases e;exact⟨_,.int i t⟩
 |_,_,_,.str x,r=>by obtain⟨t,e⟩:=(show ∃ t,_=Value.str x t from r);cases e;exact⟨_,.str x t⟩
 |_,_,_,.list (a:=a) (vs:=vs) e n q,r=>by
  cases (show _=Value.ref a from r)
  obtain⟨_,its,c,rv,ho⟩:=(show ObjOk P w H h a (.lst vs) from ok a _ e)
  obtain⟨as,z⟩:=RepL.reads ok q rv
  exact⟨_,.list ho rfl rfl (by simpa using z)⟩
 |_,_,_,.tuple (a:=a) (vs:=vs) e q,r=>by
  cases (show _=Value.ref a from r)
  obtain⟨_,its,rv,o,ho,hc,c,hd⟩:=(show ObjOk P w H h a (.tup vs) from ok a _ e)
  obtain⟨as,z⟩:=RepL.reads ok q rv
  exact⟨_,.tuple ho hc hd (by simpa using z)⟩
theorem RepL.reads{P:Program}{w:World}{M:Addr->Prop}{H:Hp}{h:Heap}(ok:HOk P w H h):∀ {vs:List V}{ds:List PyData}{us:List Value},RepL M H vs ds->Vals vs us->∃ as,ReadsAll h us ds as
 |_,_,_,.nil,r=>by cases r;exact⟨_,.nil⟩
 |_,_,_,.cons q t,r=>by
  cases r with
  |cons r rs=>
   obtain⟨as,z⟩:=Rep.reads ok q r
   obtain⟨bs,y⟩:=RepL.reads ok t rs
   exact⟨_,.cons z y⟩
end
section
variable (X:Cx)
noncomputable def wpE(e:Expr):TE:=fun σ H Q=>∀ (pins:List (Addr×Obj)) (s:Shared),Inv X pins σ H s->wpAny (model X.prog X.w) X.A (eval e X.env) (EP X pins σ Q) X.xe s
noncomputable def wpT(e:Expr):TT:=fun σ H Q=>∀ (pins:List (Addr×Obj)) (s:Shared),Inv X pins σ H s->wpAny (model X.prog X.w) X.A (isTrue e X.env (eval e X.env)) (TP X pins σ Q) X.xe s
noncomputable def wpW(e:Expr):TT:=fun σ H Q=>∀ (whole:Sem Value) (pins:List (Addr×Obj)) (s:Shared),Inv X pins σ H s->wpAny (model X.prog X.w) X.A (isTrue e X.env whole) (TP X pins σ Q) X.xe s
noncomputable def wpA(es:List Expr):TA:=fun σ H Q=>∀ (pos:Pos) (pins:List (Addr×Obj)) (s:Shared),Inv X pins σ H s->wpAny (model X.prog X.w) X.A (spliced (backTo pos (starEach es X.env))) (AP X pins σ Q) X.xe s
noncomputable def wpS(st:Stmt):TS:=fun D σ H=>∀ (pins:List (Addr×Obj)) (s:Shared),Inv X pins σ H s->wpAny (model X.prog X.w) X.A (exec st X.env) (SP X pins D) X.xe s
noncomputable def wpB(st:List Stmt):TS:=fun D σ H=>∀ (pins:List (Addr×Obj)) (s:Shared),Inv X pins σ H s->wpAny (model X.prog X.w) X.A (execs st X.env) (SP X pins D) X.xe s
noncomputable def wpG(tg:Expr):TG:=fun v σ H Q=>∀ (pins:List (Addr×Obj)) (s:Shared) (u:Value),Inv X pins σ H s->RelV v u->wpAny (model X.prog X.w) X.A (assign tg X.env u) (fun _ s'=>∃ σ' H',Inv X pins σ' H' s'/\Q σ' H') X.xe s
noncomputable def wpF(ifs:List Expr):TT:=fun σ H Q=>∀ (pins:List (Addr×Obj)) (s:Shared),Inv X pins σ H s ->
 wpAny (model X.prog X.w) X.A (forIn ifs true fun c r=>if r=true then do let ok<-isTrue c X.env (eval c X.env);pure (ForInStep.yield ok) else pure (ForInStep.yield r)) (TP X pins σ Q) X.xe s
noncomputable def wpI(tg iter:Expr):TI:=fun σ H R=>∀ (pins:List (Addr×Obj)) (s:Shared),Inv X pins σ H s ->
  wpAny (model X.prog X.w) X.A (eval iter X.env) (fun v s1=>wpAny (model X.prog X.w) X.A (pyIter v) (PIE X pins σ tg R) X.xe s1) X.xe s
end
section
variable {X:Cx} {e:Expr} {es:List Expr} {st:Stmt} {sts:List Stmt} {tg iter:Expr} {σ:St} {H:Hp}
theorem zf:PE X e (wpE X e):=fun pins s σ H Q I h=>h pins s I
theorem qV:PT X e (wpT X e):=fun pins s σ H Q I h=>h pins s I
theorem kw:PW X e (wpW X e):=fun wh pins s σ H Q I h=>h wh pins s I
theorem jl:PA X es (wpA X es):=fun pos pins s σ H Q I h=>h pos pins s I
theorem kU:PS X st (wpS X st):=fun pins s σ H D I h=>h pins s I
theorem qJ:PSs X sts (wpB X sts):=fun pins s σ H D I h=>h pins s I
theorem VJ:PG X tg (wpG X tg):=fun pins s σ H v u Q I r h=>h pins s u I r
theorem Vi:PI X tg iter (wpI X tg iter):=fun pins s σ H R I h=>h pins s I
theorem PE.wp{t:TE}{Q:VK}(h:PE X e t)(q:t σ H Q):wpE X e σ H Q:=fun pins s I=>h pins s σ H Q I q
theorem PT.wp{t:TT}{Q:Bool->Hp->Prop}(h:PT X e t)(q:t σ H Q):wpT X e σ H Q:=fun pins s I=>h pins s σ H Q I q
theorem PW.wp{t:TT}{Q:Bool->Hp->Prop}(h:PW X e t)(q:t σ H Q):wpW X e σ H Q:=fun wh pins s I=>h wh pins s σ H Q I q
theorem PA.wp{t:TA}{Q:List V->Hp->Prop}(h:PA X es t)(q:t σ H Q):wpA X es σ H Q:=fun pos pins s I=>h pos pins s σ H Q I q
theorem PS.wp{t:TS}{D:jk}(h:PS X st t)(q:t D σ H):wpS X st D σ H:=fun pins s I=>h pins s σ H D I q
theorem PSs.wp{t:TS}{D:jk}(h:PSs X sts t)(q:t D σ H):wpB X sts D σ H:=fun pins s I=>h pins s σ H D I q
theorem PG.wp{t:TG}{v:V}{Q:St->Hp->Prop}(h:PG X tg t)(q:t v σ H Q):wpG X tg v σ H Q:=fun pins s u I r=>h pins s σ H v u Q I r q
theorem PF.wp{ifs:List Expr}{t:TT}{Q:Bool->Hp->Prop}(h:PF X ifs t)(q:t σ H Q):wpF X ifs σ H Q:=fun pins s I=>h pins s σ H Q I q
theorem PI.wp{t:TI}{R:It->Hp->Prop}(h:PI X tg iter t)(q:t σ H R):wpI X tg iter σ H R:=fun pins s I=>h pins s σ H R I q
theorem wpE.mono{Q Q':VK}(h:wpE X e σ H Q)(k:∀ v H',Q v H'->Q' v H'):wpE X e σ H Q':=fun pins s I=>thn (h pins s I) fun u s' ⟨v,H',a,b,c⟩=>⟨v,H',a,b,k v H' c⟩
theorem wpA.mono{Q Q':List V->Hp->Prop}(h:wpA X es σ H Q)(k:∀ v H',Q v H'->Q' v H'):wpA X es σ H Q':=fun pos pins s I=>thn (h pos pins s I) fun u s' ⟨v,H',a,b,c⟩=>⟨v,H',a,b,k v H' c⟩
end
noncomputable def Al(M:Addr->Prop)(H:Hp):Prop:=∀ a,M a->H a≠none
inductive Ent where
 |d (x:PyData)
 |v (x:V)
noncomputable abbrev Ge:=List (Option Ent)
structure RS(M:Addr->Prop)(Γ:Ge)(σ:St)(H:Hp):Prop where
 al:Al M H
 at':∀ (i:Nat) (d:PyData),Γ[i]?=some (some (.d d))->∃ v,σ[i]?=some (some v)/\Rep M H v d
 av:∀ (i:Nat) (v:V),Γ[i]?=some (some (.v v))->σ[i]?=some (some v)
noncomputable def zhR(M:Addr->Prop)(H:Hp)(v:V):Ent->Prop
 |.d d=>Rep M H v d
 |.v u=>v=u
theorem RS.setE{M:Addr->Prop}{Γ:Ge}{σ:St}{H:Hp}{v:V}{z:Ent}{i:Nat}(h:RS M Γ σ H)(r:zhR M H v z)(hi:i<σ.length):RS M (Γ.set i (some z)) (σ.set i (some v)) H:=⟨h.al,fun j d' e=>by
 by_cases hj:j=i
 ·subst hj
  by_cases hl:j<Γ.length
  ·rw[xt hl]at e
   cases e
   exact⟨v,by rw[xt hi],r⟩
  ·rw[xj (by simpa using hl)]at e;cases e
 ·rw[xv (Ne.symm hj)]at e |-
  exact h.at' j d' e,fun j d' e=>by
 by_cases hj:j=i
 ·subst hj
  by_cases hl:j<Γ.length
  ·rw[xt hl]at e
   cases e
   rw[xt hi];exact congrArg (fun x=>some (some x)) r
  ·rw[xj (by simpa using hl)]at e;cases e
 ·rw[xv (Ne.symm hj)]at e |-
  exact h.av j d' e⟩
theorem RS.setV{M:Addr->Prop}{Γ:Ge}{σ:St}{H:Hp}{v:V}{i:Nat}(h:RS M Γ σ H)(hi:i<σ.length):RS M (Γ.set i (some (.v v))) (σ.set i (some v)) H:=h.setE rfl hi
section
variable {X:Cx} {Γ:Ge} {pos p:Pos} {a b c:Expr} {es:List Expr} {d d1 d2:PyData} {ds:List PyData}
theorem zN{H:Hp}{p:Addr}{o:HO}(n:H p=none):Same H (upd H p o):=fun b u e=>by rw[zo (zV e n)];exact e
theorem zah(hu:∀ n,n<=60->X.A.units+n<cLine):OpR X (compareOp .Eq) (fun x y H Q=>∃ M M' d1 d2,Rep M H x d1/\Rep M' H y d2/\d1.canLay0=true/\d2.canLay0=true/\min d1.depth d2.depth<=60/\Q (.bl (PyData.eqv d1 d2)) H):=by
 intro pins s σ H x y v u Q I rx ry h
 obtain⟨M,M',d1,d2,r1,r2,c1,c2,hd,q⟩:=h
 obtain⟨as,z1⟩:=r1.reads I.hok rx
 obtain⟨bs,z2⟩:=r2.reads I.hok ry
 exact SeqAt.compareEq_reads z1 z2 c1 c2 (hu _ hd) ⟨.bl _,H,I,rfl,q⟩
theorem KR(hu:∀ n,n<=60->X.A.units+n<cLine):OpR X (compareOp .NotEq) (fun x y H Q=>∃ M M' d1 d2,Rep M H x d1/\Rep M' H y d2/\d1.canLay0=true/\d2.canLay0=true/\min d1.depth d2.depth<=60/\Q (.bl (!PyData.eqv d1 d2)) H):=by
 intro pins s σ H x y v u Q I rx ry h
 obtain⟨M,M',d1,d2,r1,r2,c1,c2,hd,q⟩:=h
 obtain⟨as,z1⟩:=r1.reads I.hok rx
 obtain⟨bs,z2⟩:=r2.reads I.hok ry
 exact SeqAt.compareNe_reads z1 z2 c1 c2 (hu _ hd) ⟨.bl _,H,I,rfl,q⟩
theorem Room.u60{k:Nat}{A:Around}(r:Room k A):∀ n,n<=60->A.units+n<cLine:=fun n h=>by have:=r.units;omega
end
end L2
namespace PySem
open PySem.AutoSeq1 (wpAny_loadPart')
theorem y3(l:Addr)(items:Array Value)(n:Nat)(dd:Option Addr)(sl:Array (Option Value))(x:Int)(u:Tok)(hb1:¬ (decide (x< -(2 ^ 63))||decide (x≥2 ^ 63))=true)(hc0:¬ (items.isEmpty||x==1)=true)(hc1:¬ (decide (x<=0)||items.isEmpty)=true)(hc2:¬ (items.size:Int)*x>(2 ^ 63-1) / 8)(hc3:¬ Builtin.Tuple.tupleTooMany ((items.size:Int)*x)=true)(hsz:((List.replicate x.toNat items).foldl (·++·) #[]).size<=sizeLine) :
  Meets (Builtin.«tuple.__mul__» ⟨[.ref l,.int x u],[]⟩) (fun _ R s=>s.heap.get? l=some { cls:=.type "tuple",dict:=dd,data:=.seq items n,slots:=sl }/\R (.ok (.ret (Value.ref s.heap.objs.size))) { s with heap:=s.heap.push { cls:=Value.type "tuple",data:=Data.seq ((List.replicate x.toNat items).foldl (·++·) #[]) },toks:=s.toks }) :=
 .of_wp fun prog w A R s h=>by
  obtain⟨hp,g,d,tk,os⟩:=s;obtain⟨hl,h⟩:=h
  have f1:=AutoSeq1.idx_int
  wp_walk using wpAny_loadPart' hl
  refine wpAny_ite_false (decide_eq_false hb1) ?_
  wp_walk using wpAny_loadPart' hl
  first | (refine wpAny_ite_false (decide_eq_false hc2) ?_;wp_walk using wpAny_loadPart' hl) | skip
  first | (refine wpAny_ite_false (decide_eq_false (Nat.not_lt.mpr hsz)) ?_;wp_walk using wpAny_loadPart' hl) | skip
  exact⟨_,rfl,h⟩
theorem yB(l:Addr)(items:Array Value)(n:Nat)(dd:Option Addr)(sl:Array (Option Value))(x:Int)(u:Tok)(hb1:¬ (decide (x< -(2 ^ 63))||decide (x≥2 ^ 63))=true)(hc0:(items.isEmpty||x==1)=true) :
  Meets (Builtin.«tuple.__mul__» ⟨[.ref l,.int x u],[]⟩) (fun _ R s=>s.heap.get? l=some { cls:=.type "tuple",dict:=dd,data:=.seq items n,slots:=sl }/\R (.ok (.ret (Value.ref l))) { s with heap:=s.heap,toks:=s.toks }) :=
 .of_wp fun prog w A R s h=>by
  obtain⟨hp,g,d,tk,os⟩:=s;obtain⟨hl,h⟩:=h
  have f1:=AutoSeq1.idx_int
  wp_walk using wpAny_loadPart' hl
  refine wpAny_ite_false (decide_eq_false hb1) ?_
  wp_walk using wpAny_loadPart' hl
  exact⟨_,rfl,h⟩
theorem y4(l:Addr)(items:Array Value)(n:Nat)(dd:Option Addr)(sl:Array (Option Value))(x:Int)(u:Tok)(hb1:¬ (decide (x< -(2 ^ 63))||decide (x≥2 ^ 63))=true)(hc0:¬ (items.isEmpty||x==1)=true)(hc1:(decide (x<=0)||items.isEmpty)=true) :
  Meets (Builtin.«tuple.__mul__» ⟨[.ref l,.int x u],[]⟩) (fun _ R s=>s.heap.get? l=some { cls:=.type "tuple",dict:=dd,data:=.seq items n,slots:=sl }/\R (.ok (.ret (Value.ref s.heap.objs.size))) { s with heap:=s.heap.push { cls:=Value.type "tuple",data:=Data.seq #[] },toks:=s.toks }) :=
 .of_wp fun prog w A R s h=>by
  obtain⟨hp,g,d,tk,os⟩:=s;obtain⟨hl,h⟩:=h
  have f1:=AutoSeq1.idx_int
  wp_walk using wpAny_loadPart' hl
  refine wpAny_ite_false (decide_eq_false hb1) ?_
  wp_walk using wpAny_loadPart' hl
  exact⟨_,rfl,h⟩
theorem Qw:fillsNumberSlot (.type "tuple") "mul" =pure false :=
 fillsNumberSlot_seq (id:= "tuple.__mul__") (r:=some (.builtin "tuple.__rmul__")) F.slot_tuple_mul.lookup (by decide +kernel) F.slot_tuple_rmul.lookup (by decide +kernel)
theorem Ww:seqRepeat? (.type "tuple")=pure (some (.builtin "tuple.__mul__")):=by
 unfold seqRepeat?
 rw[seqSlot_of (T:= "tuple") (name:= "__mul__") (id:= "tuple.__mul__") F.slot_tuple_mul.lookup (by decide +kernel),seqSlot_of (T:= "tuple") (name:= "__rmul__") (id:= "tuple.__rmul__") F.slot_tuple_rmul.lookup (by decide +kernel)]
 rfl
theorem JQ(a:Int)(t:Tok)(l:Addr)(items:Array Value)(n:Nat)(dd:Option Addr)(sl:Array (Option Value)) :
  Meets (Builtin.«int.__rmul__» ⟨[.int a t,.ref l],[]⟩) (fun _ R s=>s.heap.get? l=some { cls:=.type "tuple",dict:=dd,data:=.seq items n,slots:=sl }/\R (.ok (.ret Value.notImplemented)) s) :=
 .of_wp fun prog w A R s h=>by obtain⟨hp,g,d,tk,os⟩:=s;obtain⟨hl,h⟩:=h;wp_walk using wpAny_loadPart' hl;exact⟨_,rfl,h⟩
end PySem
namespace L2
open PySem PySem.Spec PyProof.Rows
section
variable {X:Cx}
noncomputable def zhu(K:PySem.W.Frag):R2:=fun x y H Q=>∃ l k xs,x=.ref l/\y=.int k/\SqT K H l xs/\ -(2 ^ 63)<=k/\k<2 ^ 63/\xs.length*k.toNat<=sizeLine /\
 ((xs= []∨k=1)->Q (.ref l) H)/\∀ p,H p=none->Q (.ref p) (upd H p (.tup (List.replicate k.toNat xs).flatten))
theorem zeR:OpR X (binaryOp .Mult) (zhu X.K):=by
 intro pins s σ H x y v u Q I rx ry h
 obtain⟨l,k,xs,rfl,rfl,hH,h1,h2,hz,qs,q⟩:=h
 cases rx
 obtain⟨t,rfl⟩:=ry
 obtain⟨its,r,hit,hzz⟩:=I.tuple hH
 have hl:=r.length
 obtain⟨⟨cls,dd,data,sl⟩,ho,hc,n,hd⟩:=id hit
 simp only at hc hd
 subst hc hd
 have hb1:¬ (decide (k< -(2 ^ 63))||decide (k≥2 ^ 63))=true:=by
  simp only[xL,decide_eq_true_eq];omega
 have hnew:List.foldl (fun x1 x2=>x1++x2) #[] (List.replicate k.toNat its.toArray)=(List.replicate k.toNat its).flatten.toArray:=by
  have:=vv its k.toNat []
  rw[uD]at this
  exact this
 refine wpAny_binaryOp_repeat_ref (T:= "tuple") (U:= "int") (by decide) ⟨_,ho,rfl⟩ (fun s'=>typeIs_int s' k t) Qw F.fills_int_mul F.slot_int_rmul Ww F.slot_int_index.lookup
  (call_meets F.slot_int_rmul (typeIs_int s k t) F.entry_int_rmul (F.args_int_rmul_2 _ _) (JQ k t l its.toArray n dd sl) ⟨ho,rfl,⟨_,ho,rfl⟩,?_⟩)
 by_cases hc0:(its.toArray.isEmpty||k==1)=true
 ·refine call_meets F.slot_tuple_mul ⟨_,ho,rfl⟩ F.entry_tuple_mul (F.args_tuple_mul_2 _ _) (yB l its.toArray n dd sl k t hb1 hc0) ⟨ho,?_⟩
  refine⟨.ref l,H,I,rfl,qs ?_⟩
  simp only[xL,beq_iff_eq]at hc0
  rcases hc0 with z | z
  ·left
   have:its= []:=by simpa using z
   subst this
   exact List.eq_nil_of_length_eq_zero hl
  ·exact .inr z
 ·by_cases hc1:(decide (k<=0)||its.toArray.isEmpty)=true
  ·refine call_meets F.slot_tuple_mul ⟨_,ho,rfl⟩ F.entry_tuple_mul (F.args_tuple_mul_2 _ _) (y4 l its.toArray n dd sl k t hb1 hc0 hc1) ⟨ho,?_⟩
   have e0:(List.replicate k.toNat xs).flatten= []:=by
    simp only[xL,decide_eq_true_eq]at hc1
    rcases hc1 with z | z
    ·rw[show k.toNat=0 by omega];rfl
    ·exact absurd (by simp[z]) hc0
   refine⟨.ref s.heap.objs.size,_,I.laid (t':=s.toks) (o:=.tup []) (fun b u e=>Heap.get?_push_of_some _ e) (xm _) ?_,rfl,by have:=q _ (I.hok.fresh (xm _));rw[e0]at this;exact this⟩
   exact⟨ui _,[],.nil,⟨_,Heap.get?_push_size _ rfl,rfl,_,rfl⟩⟩
  ·have hlen:its.length*k.toNat<=sizeLine:=by rw[<- hl];exact hz
   have hk0:0<k:=by
    simp only[xL,decide_eq_true_eq]at hc1;omega
   have hm:((its.toArray.size:Int)*k)=((its.length*k.toNat:Nat):Int):=by
    rw[xp]
    have:k=(k.toNat:Int):=by omega
    rw[Int.natCast_mul,<- this]
   have hsl:(sizeLine:Nat)<=(2 ^ 63-1) / 8:=by decide
   have hc2:¬ (its.toArray.size:Int)*k>(2 ^ 63-1) / 8:=by
    rw[hm]
    have h63:((2 ^ 63-1) / 8:Int)=(((2 ^ 63-1) / 8:Nat):Int):=by decide
    rw[h63]
    intro z
    have:=Int.ofNat_lt.mp z
    omega
   have hc3:¬ Builtin.Tuple.tupleTooMany ((its.toArray.size:Int)*k)=true:=by
    unfold Builtin.Tuple.tupleTooMany
    rw[hm,decide_eq_true_eq]
    intro z
    have:=Int.ofNat_lt.mp z
    omega
   refine call_meets F.slot_tuple_mul ⟨_,ho,rfl⟩ F.entry_tuple_mul (F.args_tuple_mul_2 _ _) (y3 l its.toArray n dd sl k t hb1 hc0 hc1 hc2 hc3 (by rw[hnew,xp,kW,Nat.mul_comm];exact hlen)) ⟨ho,?_⟩
   rw[hnew]
   refine⟨.ref s.heap.objs.size,_,I.laid (t':=s.toks) (o:=.tup (List.replicate k.toNat xs).flatten) (fun b u e=>Heap.get?_push_of_some _ e) (xm _) ?_,rfl,q _ (I.hok.fresh (xm _))⟩
   exact⟨by rw[kW,Nat.mul_comm];exact hz,_,r.rep k.toNat,⟨_,Heap.get?_push_size _ rfl,rfl,_,rfl⟩⟩
theorem RepL.rep{M:Addr->Prop}{H:Hp}{vs:List V}{ds:List PyData}(h:RepL M H vs ds):∀ k:Nat,RepL M H (List.replicate k vs).flatten (List.replicate k ds).flatten
 |0=>.nil
 |k+1=>by rw[ug,ug,xH,xH];exact h.append (RepL.rep h k)
theorem Rep.tup_inv{M:Addr->Prop}{H:Hp}{v:V}{ds:List PyData}(r:Rep M H v (.tuple ds)):∃ a vs,v=.ref a/\H a=some (.tup vs)/\RepL M H vs ds:=by
 cases r with
 |tuple e q=>exact⟨_,_,rfl,e,q⟩
theorem Rep.lst_inv{M:Addr->Prop}{H:Hp}{v:V}{ds:List PyData}(r:Rep M H v (.list ds)):∃ a vs,v=.ref a/\H a=some (.lst vs)/\¬ M a/\RepL M H vs ds:=by
 cases r with
 |list e n q=>exact⟨_,_,rfl,e,n,q⟩
variable {Γ:Ge} {pos p p2:Pos} {a b c:Expr} {es:List Expr} {d d1 d2:PyData} {ds ds1 ds2:List PyData}
noncomputable def zgS(K:PySem.W.Frag):R2:=fun x y H Q=>∃ a b xs ys,x=.ref a/\y=.ref b/\SqT K H a xs/\SqT K H b ys/\xs.length+ys.length<=sizeLine/\(xs= []->Q (.ref b) H)/\(ys= []->Q (.ref a) H)/\∀ p,H p=none->Q (.ref p) (upd H p (.tup (xs++ys)))
theorem zcs:OpR X (binaryOp .Add) (zgS X.K):=by
 intro pins s σ H x y v u Q I rx ry h
 obtain⟨a,b,xs,ys,rfl,rfl,ha,hb,hz,q0,q1,q⟩:=h
 cases rx
 cases ry
 obtain⟨its,r,hit,_⟩:=I.tuple ha
 obtain⟨its2,r2,hit2,_⟩:=I.tuple hb
 by_cases hv:its= []
 ·obtain⟨⟨cls,dd,data,sl⟩,ho,hc,n,hd⟩:=id hit
  obtain⟨⟨cls2,dd2,data2,sl2⟩,ho2,hc2,n2,hd2⟩:=id hit2
  simp only at hc hd hc2 hd2
  subst hc hd hc2 hd2
  refine concat_meets ⟨_,ho,rfl⟩ ⟨_,ho2,rfl⟩ noFill_tuple_add seq_tuple_add PySem.F.slot_tuple_add PySem.F.entry_tuple_add (PySem.F.args_tuple_add_2 _ _)
   (tuple_addW0 a b its.toArray its2.toArray n n2 dd dd2 sl sl2 (by simp[hv])) ⟨ho,ho2,⟨.ref b,H,I,rfl,q0 ?_⟩⟩
  exact r.nil_iff.mp hv
 ·refine HT.cat_tup hit hit2 hv (fun hw=>⟨.ref a,H,I,rfl,q1 (r2.nil_iff.mp hw)⟩) (fun _=>?_) (by rw[<- r.length,<- r2.length];exact hz)
  refine⟨.ref s.heap.objs.size,_,I.laid (t':=s.toks) (o:=.tup (xs++ys)) (fun b u e=>Heap.get?_push_of_some _ e) (xm _) ?_,rfl,q _ (I.hok.fresh (xm _))⟩
  exact⟨by rw[xw];exact hz,_,r.append r2,⟨_,Heap.get?_push_size _ rfl,rfl,_,rfl⟩⟩
theorem VT{M:Addr->Prop}{H:Hp}{vs:List V}{ds:List PyData}{i:Int}{d:PyData}(r:RepL M H vs ds)(h:atI ds i=some d):∃ v,atI vs i=some v/\Rep M H v d:=by
 unfold atI at h |-
 rw[r.length]
 cases e:ixN ds.length i with
 |none=>rw[e]at h;cases h
 |some j=>
  rw[e]at h
  exact r.get' h
end
end L2
namespace L2
open PySem PySem.Spec PyProof.Rows
noncomputable def tyD:PyData->String
 |.none=> "NoneType"
 |.bool _=> "bool"
 |.int _=> "int"
 |.str _=> "str"
 |.list _=> "list"
 |.tuple _=> "tuple"
 |.dict _=> "dict"
theorem Rep.ty{K:PySem.W.Frag}{M:Addr->Prop}{H:Hp}{v:V}{d:PyData}(r:Rep M H v d):Qm K H v (.type (tyD d)):=by
 cases r with
 |none=>exact .non
 |bool b=>exact .bl b
 |int i=>exact .int i
 |str x=>exact .str x
 |list e n q=>exact .lst e
 |tuple e q=>exact .tup e
section
variable {X:Cx}
theorem zda:jn X (.builtin "isinstance") (fun xs H Q=>∃ x T t k,xs= [x,.ty T]/\Qm X.K H x t/\PySem.W.kitOne X.K t (.type T)=some k/\Q (.bl k) H):=by
 intro pins s σ H xs us Q I r h
 obtain⟨x,T,t,k,rfl,ty,e,q⟩:=h
 obtain⟨u,w',rfl,rx,rc⟩:=zbx r
 cases (show w'=Value.type T from rc)
 exact K6 I rx ty e fun tk=>⟨.bl k,H,I.tok tk,rfl,q⟩
variable {Γ:Ge} {pos p p2:Pos} {a b c:Expr} {es:List Expr} {d d1 d2:PyData} {ds ds1 ds2:List PyData}
theorem zac(bs:List Bool):(List.range bs.length).all (fun i=>(bs[i]?).getD false)=bs.all id:=by
 have e:(List.range bs.length).map (fun i=>(bs[i]?).getD false)=bs:=by
  apply List.ext_getElem
  ·simp
  ·intro i h1 h2
   simp[h2]
 have h:=congrArg (fun l=>List.all l id) e
 rw[List.all_map]at h
 exact h
theorem zao(bs:List Bool):(List.range bs.length).any (fun i=>(bs[i]?).getD false)=bs.any id:=by
 have e:(List.range bs.length).map (fun i=>(bs[i]?).getD false)=bs:=by
  apply List.ext_getElem
  ·simp
  ·intro i h1 h2
   simp[h2]
 have h:=congrArg (fun l=>List.any l id) e
 rw[uS]at h
 exact h
theorem kr{bs:List Bool}{its:List Value}(rv:Vals (bs.map V.bl) its){i:Nat}{v:Value}(e:its[i]?=some v):∃ b,bs[i]?=some b/\v=.bool b:=by
 have hi:i<its.length:=(xc.mp e).1
 have hl:=rv.length
 rw[xi]at hl
 have hb:i<bs.length:=by omega
 obtain⟨u,hu,ru⟩:=rv.get (i:=i) (x:=V.bl bs[i]) (by simp[hb])
 rw[e]at hu;cases hu
 exact⟨bs[i],by simp[hb],ru⟩
theorem K0 (hc:X.calm=true):jn X (.builtin "all") (fun xs H Q=>∃ (p:Addr) (bs:List Bool),xs= [.ref p]/\SqL X.K H p (bs.map V.bl)/\Q (.bl (bs.all id)) H):=by
 intro pins s σ H xs us Q I r h
 obtain⟨p,bs,rfl,hq,q⟩:=h
 obtain⟨u,rfl,rx⟩:=Zg r
 cases rx
 obtain⟨its,rv,pl,hz⟩:=I.list hq
 have hne:p≠s.heap.objs.size:=by
  obtain⟨o,n,e,_⟩:=pl
  exact xu (Heap.lt_size e)
 have hl:=rv.length
 rw[xi]at hl
 refine call_all_walk (wpAny_pyIter_list pl.isList ⟨s.heap.objs.size,_,_,_,_,_,fun i=>(bs[i]?).getD false,rfl,Walks.list (A:=X.A.in1) (show X.A.in1.handled=none from I.ok.hd hc) s.heap.objs.size p hne its.toArray,
  ⟨⟨_,Heap.get?_push_size _ rfl,rfl,rfl⟩,pl.isList.at fun o e=>Heap.get?_push_of_some _ e⟩,fun i v s' Q' E' hP hQ=>?_,fun h' tk hk=>?_⟩)
 ·obtain⟨b,hb,rfl⟩:=kr rv (by simpa using hP)
  dsimp only at hQ;rw[hb]at hQ
  exact wpAny_truthy_bool hQ
 ·rw[xp,<- hl,zac]
  refine⟨.bl _,H,I.kept (t':=tk) fun b o e=>hk b o ?_ (Heap.get?_push_of_some _ e),rfl,q⟩
  intro z
  rw[uO]at z
  exact absurd (Heap.lt_size e) (by rw[z];exact uc _)
theorem zaO (hc:X.calm=true):jn X (.builtin "any") (fun xs H Q=>∃ (p:Addr) (bs:List Bool),xs= [.ref p]/\SqL X.K H p (bs.map V.bl)/\Q (.bl (bs.any id)) H):=by
 intro pins s σ H xs us Q I r h
 obtain⟨p,bs,rfl,hq,q⟩:=h
 obtain⟨u,rfl,rx⟩:=Zg r
 cases rx
 obtain⟨its,rv,pl,hz⟩:=I.list hq
 have hne:p≠s.heap.objs.size:=by
  obtain⟨o,n,e,_⟩:=pl
  exact xu (Heap.lt_size e)
 have hl:=rv.length
 rw[xi]at hl
 refine call_any_walk (wpAny_pyIter_list pl.isList ⟨s.heap.objs.size,_,_,_,_,_,fun i=>(bs[i]?).getD false,rfl,Walks.list (A:=X.A.in1) (show X.A.in1.handled=none from I.ok.hd hc) s.heap.objs.size p hne its.toArray,
  ⟨⟨_,Heap.get?_push_size _ rfl,rfl,rfl⟩,pl.isList.at fun o e=>Heap.get?_push_of_some _ e⟩,fun i v s' Q' E' hP hQ=>?_,fun h' tk hk=>?_⟩)
 ·obtain⟨b,hb,rfl⟩:=kr rv (by simpa using hP)
  dsimp only at hQ;rw[hb]at hQ
  exact wpAny_truthy_bool hQ
 ·rw[xp,<- hl,zao]
  refine⟨.bl _,H,I.kept (t':=tk) fun b o e=>hk b o ?_ (Heap.get?_push_of_some _ e),rfl,q⟩
  intro z
  rw[uO]at z
  exact absurd (Heap.lt_size e) (by rw[z];exact uc _)
theorem RepL.bls{M:Addr->Prop}{H:Hp}:∀ {vs:List V}{bs:List Bool},RepL M H vs (bs.map PyData.bool)->vs=bs.map V.bl
 |_,[],.nil=>rfl
 |_,b::bs,.cons q t=>by cases q;rw[xI,<- RepL.bls t]
theorem KI:bootBuiltins "all" =some (.builtin "all"):=by decide +kernel
theorem zay:bootBuiltins "any" =some (.builtin "any"):=by decide +kernel
theorem Z6:bootBuiltins "list" =some (.type "list"):=by decide +kernel
theorem JH:bootBuiltins "tuple" =some (.type "tuple"):=by decide +kernel
theorem W6:bootBuiltins "int" =some (.type "int"):=by decide +kernel
theorem YK:bootBuiltins "bool" =some (.type "bool"):=by decide +kernel
theorem boot_setW:bootBuiltins "set" =some (.type "set"):=by decide +kernel
end
section
variable {X:Cx} {Γ:Ge} {tg iter a b:Expr} {ds:List PyData} {p pos:Pos}
noncomputable def zq(n:Nat):List PyData:=(List.range n).map fun (i:Nat)=>PyData.int (i:Int)
theorem zk(n:Nat):(zq n).length=n:=by simp[zq]
theorem j4{n i:Nat}{d:PyData}(h:(zq n)[i]?=some d):i<n/\d=.int (i:Int):=by
 unfold zq at h
 rw[xh]at h
 have hi:i<n:=by
  cases e:(List.range n)[i]? with
  |none=>rw[e]at h;cases h
  |some j=>simpa using (xc.mp e).1
 rw[xY hi]at h
 exact⟨hi,(Option.some.inj h).symm⟩
end
noncomputable def zg1(X:Cx)(ts:List Expr):TGs:=fun vs σ H Q=>∀ (pins:List (Addr×Obj)) (s:Shared) (us:List Value),Inv X pins σ H s->Vals vs us ->
  wpAny (model X.prog X.w) X.A (assignInOrder ((assignEach ts X.env).map (·.2)) us) (fun _ s'=>∃ σ' H',Inv X pins σ' H' s'/\Q σ' H') X.xe s
theorem Yc{X:Cx}{ts:List Expr}:PGs X ts (zg1 X ts):=fun pins s σ H vs us Q I r h=>h pins s us I r
theorem PGs.wp{X:Cx}{ts:List Expr}{t:TGs}{vs:List V}{σ:St}{H:Hp}{Q:St->Hp->Prop}(h:PGs X ts t)(q:t vs σ H Q):zg1 X ts vs σ H Q:=fun pins s us I r=>h pins s σ H vs us Q I r q
section
variable {X:Cx} {k:Nat} {Γ Γ1 Γ2:Ge} {tg:Expr} {ts:List Expr} {d:PyData} {ds:List PyData} {pos:Pos}
end
theorem zgR{k:Nat}{ix:List Nat}{σ:St}{j i0:Nat}{v:V}(q:ix[j]?=some i0)(h:σ[i0]?=some (some v)):(cS k ix σ)[k+j]?=some (some v):=by
 unfold cS
 rw[xg (by simp),uG,Nat.add_sub_cancel_left,xh,q]
 simp[h]
section
variable {X:Cx} {elt tg iter:Expr} {ifs:List Expr} {scope:Scope} {pos:Pos} {N':List Str} {k:Nat} {ix:List Nat} {Γ:Ge} {ds:List PyData} {M:Addr->Prop} {σ:St} {H:Hp} {Q:VK}
noncomputable def gU(X:Cx)(N':List Str)(scope:Scope)(tg:Expr):TG:=fun v σ H Q=>∀ cl C s2 H2 fp,wpG (X.comp N' scope cl C s2 H2 fp) tg v σ H Q
noncomputable def fU(X:Cx)(N':List Str)(scope:Scope)(ifs:List Expr):TT:=fun σ H Q=>∀ cl C s2 H2 fp,wpF (X.comp N' scope cl C s2 H2 fp) ifs σ H Q
noncomputable def eU(X:Cx)(N':List Str)(scope:Scope)(elt:Expr):TE:=fun σ H Q=>∀ cl C s2 H2 fp,wpE (X.comp N' scope cl C s2 H2 fp) elt σ H Q
theorem za6(hcalm:X.calm=true)(S:CSc X.env.scope X.N scope N' k ix)(hf:∀ x,foldedSetIterable iter X.env x=pure x:=by intro _;rfl) :
    PE X (.ListComp elt [⟨tg,iter,ifs,0⟩] scope pos) (WN k ix (wpI X tg iter) (gU X N' scope tg) (fU X N' scope ifs) (eU X N' scope elt)) :=
  zew hcalm S Vi (fun cl C s2 H2 fp pins s σ H v u Q I r h=>h cl C s2 H2 fp pins s u I r) (fun cl C s2 H2 fp pins s σ H Q I h=>h cl C s2 H2 fp pins s I)
    (fun cl C s2 H2 fp pins s σ H Q I h=>h cl C s2 H2 fp pins s I) hf
theorem zd4{i:Nat}{x:Str}{pos' spos:Pos}(hN:X.N.Nodup)(hi':X.N[i]?=some x)(hx:Loc X.env.scope x)(hcalm:X.calm=true)(S:CSc X.env.scope X.N scope N' k ix)
  (hsw:swapsWith (.ListComp elt [⟨tg,iter,ifs,0⟩] scope pos) (some (.Name x pos')) spos.line X.env=pure true) (hs:∀ x,foldedSetIterable iter X.env x=pure x:=by intro _;rfl)
  (hf:X.fn x=true∨X.env.scope.names.lookup x=some .local:=by first | exact .inl rfl | exact .inr rfl | assumption) :
  PS X (.Assign [.Name x pos'] (.ListComp elt [⟨tg,iter,ifs,0⟩] scope pos) spos) (Ye (WN k ix (wpI X tg iter) (gU X N' scope tg) (fU X N' scope ifs) (eU X N' scope elt)) (V7 i)) :=
 zd8 hN hi' hx hcalm S Vi (fun cl C s2 H2 fp pins s σ H v u Q I r h=>h cl C s2 H2 fp pins s u I r) (fun cl C s2 H2 fp pins s σ H Q I h=>h cl C s2 H2 fp pins s I)
  (fun cl C s2 H2 fp pins s σ H Q I h=>h cl C s2 H2 fp pins s I) hsw hs hf
end
inductive Out where
 |next (Γ:Ge)
 |ret (d:PyData)
 |new (ds:List PyData)
section
variable {X:Cx} {Γ Γ1:Ge} {st:Stmt} {sts body els:List Stmt} {o:Out} {d:PyData} {e c tg:Expr} {pos:Pos}
end
structure Kn(P:Program)(w:World)(K:PySem.W.Frag)(mg:Str->Option Value)(base:Heap)(CX:CXT)(x:Str)(k:Nat)(sp:Sp):Prop where
 ex:∃ (f:Addr) (fd:FuncData) (ps:List Str),wC P w K mg base CX k f fd ps sp/\mg x=some (.ref f)/\PySem.W.keepIn K (.ref f)=true/\Binds K fd ps []
section
variable {X:Cx} {Γ:Ge} {x:Str} {k:Nat} {CX:CXT} {E:XK} {n:Nat} {pre:List PyData->Prop} {e:Expr} {es:List Expr} {ds:List PyData} {p pos:Pos}
theorem Vd {sp:Sp}{σ:St}{H:Hp}{Q:VK}(kn:Kn X.prog X.w X.K X.mg X.base CX x k sp) (hr:Room k X.A) (hg:Gl X x) (hx:wx CX X E) (h:wpA X (e::es) σ H fun vs H1=>sp vs H1 Q E) (hdb:(x==("__debug__" :Str))=false:=by decide)
    (he:starEach (e::es) X.env=(false,eval e X.env)::starEach es X.env:=by rfl) (hpl:(backTo pos (starEach es X.env)).any (·.1)=false:=by rfl):wpE X (.Call (.Name x p) (e::es) [] pos) σ H Q:=by
  obtain⟨f,fd,ps,F,hm,hk,hb⟩:=kn.ex
  refine (zea F hr hg hm hk hb .nil hx jl hdb he hpl).wp (h.mono fun vs H1 q=>?_)
  show sp (vs++ []) H1 Q E
  rw[ud];exact q
end
theorem vZ{N:List Str}{vs:List V}(h:vs.length<=N.length):(start N vs).length=N.length:=by
 unfold start;simp;omega
structure Df(K:PySem.W.Frag)(mg:Str->Option Value)(x:Str)(st:Stmt)(ps:List Str):Prop where
 ex:∃ f fd,Fun K x x st f fd/\mg x=some (.ref f)/\Binds K fd ps []
section
variable {P:Program} {w:World} {K:PySem.W.Frag} {mg:Str->Option Value} {base:Heap} {x:Str} {st:Stmt} {N ps:List Str} {k:Nat}
theorem Df.kn{sp:Sp}(D:Df K mg x st ps)(S:qQ N ps (defScope st))(len:∀ vs H Q E,sp vs H Q E->vs.length=ps.length)
  (hbody:∀ (f:Addr) (cdv:Value) (A:Around) (outer:List Env) (s:Shared) (H:Hp) (vs:List V) (Q:VK) (E:XK),Room k (A.deeper (envOfC x (defScope st) s.heap.objs.size f cdv))->sp vs H Q E ->
   wpB (Z2 CX0 P w K mg base N x (defScope st) f cdv A outer s H E).nox (defBody st) { nx:=fun _ H'=>Q .non H',rt:=Q } (start N vs) H):Kn P w K mg base CX0 x (k+1) sp:=by
 obtain⟨f,fd,F,hm,hb⟩:=D.ex
 exact⟨f,fd,ps,F.ok S len (fun cdv A outer s H vs Q E hr h=>⟨_,qJ,hbody f cdv A outer s H vs Q E hr h⟩),hm,F.kp,hb⟩
end
section
variable {X:Cx} {M:Addr->Prop} {Γ Γ1:Ge} {σ:St} {H:Hp} {D:jk} {st:Stmt} {sts body els:List Stmt} {o:Out} {d:PyData} {e c tg:Expr} {pos pos':Pos} {x:Str}
theorem zhx(i:Nat){Q:VK}(hN:X.N.Nodup)(h:wpE X e σ H Q)(k:∀ v H',Q v H'->wpB X sts D (σ.set i (some v)) H')(hi:X.N[i]?=some x:=by rfl)(hx:Loc X.env.scope x:=by first | exact Or.inl rfl | exact Or.inr rfl)(hs:swapsWith e (some (.Name x pos')) pos.line X.env=pure false:=by rfl)
    (hf:X.fn x=true∨X.env.scope.names.lookup x=some .local:=by first | exact .inl rfl | exact .inr rfl | assumption):wpB X (.Assign [.Name x pos'] e pos::sts) D σ H :=
  (QR (Vj hN hi hx zf hs hf) qJ).wp (h.mono k)
end
section
variable {X:Cx} {M:Addr->Prop} {Γ Γ1:Ge} {σ:St} {H:Hp} {D:jk} {sts:List Stmt} {e:Expr} {ds:List PyData} {d:PyData} {pos pos':Pos} {x:Str}
end
mutual
/-- no list within -/
noncomputable def noL:PyData->Bool
 |.list _=>false
 |.tuple ds=>zdN ds
 |.dict _=>false
 |_=>true
noncomputable def zdN:List PyData->Bool
 |[]=>true
 |d::ds=>noL d&&zdN ds
end
mutual
theorem Rep.free{M M':Addr->Prop}{H:Hp}:∀ {v:V}{d:PyData},noL d=true->Rep M H v d->Rep M' H v d
 |_,_,_,.none=>.none
 |_,_,_,.bool b=>.bool b
 |_,_,_,.int i=>.int i
 |_,_,_,.str x=>.str x
 |_,_,h,.list e n r=>by simp[noL]at h
 |_,_,h,.tuple e r=>.tuple e (RepL.free (by simpa [noL] using h) r)
theorem RepL.free{M M':Addr->Prop}{H:Hp}:∀ {vs:List V}{ds:List PyData},zdN ds=true->RepL M H vs ds->RepL M' H vs ds
 |_,_,_,.nil=>.nil
 |_,_,h,.cons r t=>by
  rw[zdN,xa]at h
  exact .cons (Rep.free h.1 r) (RepL.free h.2 t)
end
section
variable {X:Cx} {M:Addr->Prop} {Γ Γ1:Ge} {σ:St} {H:Hp} {D:jk} {sts:List Stmt} {e:Expr} {ds:List PyData} {d:PyData} {pos pos' p2 p3:Pos} {x:Str} {l:Addr} {vs:List V}
end
theorem Df.of{K:PySem.W.Frag}{mg:Str->Option Value}{h:Heap}{x:Str}{st:Stmt}{ps:List Str}{f:Addr}{oc:Value}{od an:Option Addr}{sl:Array (Option Value)}{kV dc pm cd ct:Value}(X:K.In h)(G:h.Ns mainGlobals mg)
  (a:PySem.W.nsIn K mainGlobals x=some (some (.ref f))) (l:K.lookup f=some ⟨oc,od,.func (PySem.W.fnOf x x (jo st) (defBody st) (defScope st) .none kV dc pm an cd ct),sl⟩) (c:PySem.W.codeIn K cd x=true) (k:PySem.W.keepIn K (.ref f)=true)
  (hb:∀ (kV doc pm:Value) (an:Option Addr) (cdv ct:Value) (us:List Value),us.length=ps.length->bindArgs (PySem.W.fnOf x x (jo st) (defBody st) (defScope st) .none kV doc pm an cdv ct) ⟨us,[]⟩=pure (ps.zip us)):Df K mg x st ps :=
 ⟨f,_,YM (st:=st) l c k,PySem.W.mg_of X G a,(YM (st:=st) l c k).binds hb⟩
structure Dl(K:PySem.W.Frag)(x:Str)(st:Stmt)(fa:Addr)(p:Str):Prop where
 ex:∃ fd:FuncData,Fun K x x st fa fd/\∀ (s:Shared) (u:Value),BindsTo s fd ⟨[u],[]⟩ [(p,u)]
theorem Dl.of{K:PySem.W.Frag}{mg:Str->Option Value}{h:Heap}{x p:Str}{st:Stmt}{f fa:Addr}{oc:Value}{od an:Option Addr}{sl:Array (Option Value)}{kV dc pm cd ct:Value}(X:K.In h)(G:h.Ns mainGlobals mg)(hfa:mg x=some (.ref fa))
  (a:PySem.W.nsIn K mainGlobals x=some (some (.ref f))) (l:K.lookup f=some ⟨oc,od,.func (PySem.W.fnOf x x (jo st) (defBody st) (defScope st) .none kV dc pm an cd ct),sl⟩) (c:PySem.W.codeIn K cd x=true) (k:PySem.W.keepIn K (.ref f)=true)
  (hb:∀ (s:Shared) (u:Value),BindsTo s (PySem.W.fnOf x x (jo st) (defBody st) (defScope st) .none kV dc pm an cd ct) ⟨[u],[]⟩ [(p,u)]):Dl K x st fa p:=by
 have e:=hfa.symm.trans (PySem.W.mg_of X G a)
 cases e
 exact⟨_,YM (st:=st) l c k,hb⟩
noncomputable def kI(K:PySem.W.Frag):Sp:=fun vs H Q _=>∃ (a:Addr) (ns:List Int),vs= [.ref a]/\SqL K H a (ns.map V.int)/\ns.length<=63/\∀ H',Q (.bl true) H'
theorem Fun.law{P:Program}{w:World}{K:PySem.W.Frag}{mg:Str->Option Value}{base:Heap}{x p:Str}{st:Stmt}{N:List Str}{k:Nat}{f:Addr}{fd:FuncData}(F:Fun K x x st f fd)(S:qQ N [p] (defScope st))
  (hbody:∀ (cdv:Value) (A:Around) (outer:List Env) (s:Shared) (H:Hp) (Q:VK) (E:XK) (a:Addr) (ns:List Int),Room k (A.deeper (envOfC x (defScope st) s.heap.objs.size f cdv))->SqL K H a (ns.map V.int)->ns.length<=63->(∀ H',Q (.bl true) H') ->
   wpB (Z2 CX0 P w K mg base N x (defScope st) f cdv A outer s H E).nox (defBody st) { nx:=fun _ H'=>Q .non H',rt:=Q } (start N [.ref a]) H):wC P w K mg base CX0 (k+1) f fd [p] (kI K) :=
 F.ok S (fun vs H Q E ⟨a,ns,e,_⟩=>by rw[e];rfl) fun cdv A outer s H vs Q E hr ⟨a,ns,e,hS,hlen,kk⟩=>⟨_,qJ,by subst e;exact hbody cdv A outer s H Q E a ns hr hS hlen kk⟩
theorem walkL{l:PySem.W.OpenLaw}{q:Program}{loose:List Str}{XP:(Str->Option Value)->Heap->Prop}{YP:World->Heap->Prop}{d:DefRec}{K:Params->PySem.W.Frag}{k:Nat}{st:Stmt}(hn:l.most=some 63)(hdf:d.params.defaults= [])(hk:Room k callerA)
  (hY:∀ (w:World) (h:Heap),YP w h->(K w.params).In h)
  (F:∀ (w:World) (mg:Str->Option Value) (fa:Addr) (h:Heap),(K w.params).In h->h.Ns mainGlobals mg->mg d.name=some (.ref fa) ->
   Dl (K w.params) "law" st fa "_law_script" /\∀ (fd:FuncData),Fun (K w.params) "law" "law" st fa fd->∀ base:Heap,wC l.prog w (K w.params) mg base CX0 k fa fd ["_law_script"] (kI (K w.params))) :
  PySem.W.WalkO q loose XP YP l.row.toRowW d [] (fun f vs=>PySem.call f vs) :=
 L2.walk_of (n:=63) (k:=k) (x:= "_law_script") (CX:=fun _=>CX0) (sp:=fun w=>kI (K w.params)) hn (by decide) hdf hk hY (fun w mg fa h KX G hm=>by
  obtain⟨⟨fd,Ff,hb⟩,hF⟩:=F w mg fa h KX G hm
  exact⟨fd,hb,fun base _ _=>hF fd Ff base⟩) (fun _ _ a ns hl _ hS=>⟨a,ns,rfl,hS,hl,fun _=>rfl⟩) fun _ _ _ _ _ z=>z
end L2
namespace L2
open PySem PySem.Spec PyProof.Rows
structure zhJ(M:Addr->Prop)(H:Hp)(b c:Addr)(cells:List Int)(i l t s:Int):Prop where
 mb:M b
 hb:H b=some (.lst [.ref c,.int i,.int l,.int t,.int s])
 hc:Rep M H (.ref c) (.list (cells.map PyData.int))
 hi:0<=i
noncomputable def BoxAt(M:Addr->Prop)(H:Hp)(b:Addr):Prop:=∃ c cells i l t s,zhJ M H b c cells i l t s
theorem BoxAt.mem{M:Addr->Prop}{H:Hp}{b:Addr}(B:BoxAt M H b):M b:=let ⟨_,_,_,_,_,_,B⟩:=B;B.mb
theorem BoxAt.lst{M:Addr->Prop}{H:Hp}{b:Addr}(B:BoxAt M H b):∃ xs,H b=some (.lst xs):=let ⟨_,_,_,_,_,_,B⟩:=B;⟨_,B.hb⟩
noncomputable def zbg(K:PySem.W.Frag):Sp:=fun vs H Q _=>∃ (a:Addr) (ns:List Int),vs= [.ref a]/\SqL K H a (ns.map V.int)/\ns.length<=63/\∀ b H',Same H H'->H b=none->H' b≠none->BoxAt (fun a=>a=b) H' b->Q (.ref b) H'
theorem RepL.intsInv{M:Addr->Prop}{H:Hp}:∀ {vs:List V}{ns:List Int},RepL M H vs (ns.map PyData.int)->vs=ns.map V.int
 |_,[],.nil=>rfl
 |_,n::ns,.cons q t=>by cases q;rw[xI,<- RepL.intsInv t]
section
variable {X:Cx} {M:Addr->Prop} {Γ:Ge} {σ:St} {H:Hp} {D:jk} {sts:List Stmt} {e e1:Expr} {p pos pos':Pos} {x:Str} {k:Nat} {b:Addr} {n:Int} {Q:VK}
end
theorem WF{n i:Nat}{z:Ent}(e:(List.replicate n none:Ge)[i]?=some (some z)):False:=by
 rw[xQ]at e
 split at e
 ·cases e
 ·cases e
theorem RS.blank{M:Addr->Prop}{σ:St}{H:Hp}(n:Nat)(al:Al M H):RS M (List.replicate n none) σ H:=⟨al,fun i d e=>(WF e).elim,fun i d e=>(WF e).elim⟩
section
variable {X:Cx} {H:Hp} {D:jk} {sts:List Stmt} {p pos pos' p2:Pos} {x:Str} {k:Nat} {Q:VK}
theorem zhd {a:Addr}{ns:List Int}{N:List Str}(hN:X.N.Nodup) (kb:Kn X.prog X.w X.K X.mg X.base CX0 "_law_box" k (zbg X.K)) (hr:Room k X.A) (hS:SqL X.K H a (ns.map V.int)) (hlen:ns.length<=63)
  (kk:∀ b σ' H',Same H H'->H b=none->BoxAt (fun a=>a=b) H' b->RS (fun a=>a=b) ((List.replicate X.N.length none).set 1 (some (.v (.ref b)))) σ' H'->σ'.length=X.N.length->wpB X sts D σ' H')
  (hNe:X.N=N) (h0:N[0]?=some ("_law_script" :Str)) (hi:X.N[1]?=some x:=by rfl) (hv0:Vis X.env.scope "_law_script" :=by first | exact Or.inl rfl | exact Or.inr (Or.inl rfl) | exact Or.inr (Or.inr rfl)) (hx:Loc X.env.scope x:=by first | exact Or.inl rfl | exact Or.inr rfl)
  (hf:X.fn x=true∨X.env.scope.names.lookup x=some .local:=by first | exact .inl rfl | exact .inr rfl | assumption) (hg:Gl X "_law_box" :=by rfl)
  (hs:starEach [.Name "_law_script" p2] X.env= [(false,eval (.Name "_law_script" p2) X.env)]:=by rfl) (hpl:(backTo p (starEach [] X.env)).any (·.1)=false:=by rfl) {p3:Pos} :
  wpB X (.Assign [.Name x pos'] (.Call (.Name "_law_box" p3) [.Name "_law_script" p2] [] p) pos::sts) D (start N [.ref a]) H:=by
 have hl:1<N.length:=by rw[<- hNe];exact (xc.mp hi).1
 have hst:(start N [V.ref a]).length=N.length:=vZ (by simp;omega)
 refine zhx 1 (Q:=fun v H'=>∃ b,v=.ref b/\Same H H'/\H b=none/\BoxAt (fun a=>a=b) H' b) hN (Vd kb hr hg Kb ((zy (jT (by rw[hNe];exact h0) hv0) pa_nil hs).wp ⟨.ref a,by simp[start],a,ns,rfl,hS,hlen,fun b H' s' nb _ hB=>⟨b,rfl,s',nb,hB⟩⟩) (by decide) hs hpl) (fun v H1 ⟨b,ev,s1,nb,hB⟩=>?_) hi hx rfl hf
 subst ev
 refine kk b _ H1 s1 nb hB ((RS.blank X.N.length (fun c hc=>?_)).setV (by rw[hst];exact hl)) (by rw[ul,hst,hNe])
 subst hc
 obtain⟨xs,hx⟩:=hB.lst
 rw[hx]
 exact fun z=>nomatch z
end
end L2
namespace L2
open PySem PySem.Spec PyProof.Rows
noncomputable def CX1(P:Program)(w:World):CXT:=fun outer H s E e s'=>∃ (ea:Addr) (c a0:Value) (B h0:Heap) (H':Hp),e=.ref ea/\s'.os=s.os/\AllBare s'.gens/\Heap.FlyingW B outer ea c a0 s'.heap/\h0.UpToSlots s'.heap /\
 (∀ h6,B.StaysIn h6->h0.UpToSlots h6->Un (frs outer) [] H H' s.heap h6/\HOk P w H' h6)/\E c none H'
section
variable {X:Cx} {pins:List (Addr×Obj)} {σ:St} {H:Hp} {s:Shared}
theorem Inv.flies(I:Inv X pins σ H s)(hx:X.ex= [])(hst:X.stack=X.env::X.outer)(hf:X.env.frame=some X.env.locals){h6:Heap}
  (k1:(PySem.W.hideAll s.heap (frs X.stack)).StaysIn h6) (k2:s.heap.UpToSlots h6):Un (frs X.outer) [] X.H₀ H X.s₀.heap h6/\HOk X.prog X.w H h6:=by
 have nex:∀ b,b∉X.ex:=fun b z=>by rw[hx]at z;cases z
 have kk:∀ b o,s.heap.get? b=some o->b∉frs X.stack->h6.get? b=some o:=fun b o e n=>k1 b o (PySem.W.hideAll_get _ e n)
 have fr:∀ b,b∈frs X.stack->∀ o,s.heap.get? b=some o->∃ sl,h6.get? b=some { o with slots:=sl }:=fun b hb o e=>by
  obtain⟨_,o',e',hn⟩:=I.stack.mem hb
  rw[e]at e'
  cases e'
  exact k2 b o e hn
 have hsub:∀ b,b∈frs X.outer->b∈frs X.stack:=fun b hb=>by
  rw[hst]
  unfold frs at hb |-
  rw[xF,hf]
  exact xl _ hb
 have hsup:∀ b,b∈frs X.stack->b=X.env.locals∨b∈frs X.outer:=fun b hb=>by
  rw[hst]at hb
  unfold frs at hb |-
  rw[xF,hf]at hb
  exact xo.mp hb
 have hL:∀ b o,X.s₀.heap.get? b=some o->b≠X.env.locals:=fun b o e z=>by
  have h1:=Heap.lt_size e
  have h2:=I.ok.above
  rw[z]at h1
  exact absurd (xy h1 h2) (uc _)
 refine⟨⟨fun b o e n hb _=>?_,fun b o e n hb _=>?_,fun b o e n _=>I.base.free b o e n (nex b),fun b o e _=>?_,I.base.tups,I.base.frzs,I.base.tbls⟩,fun a o e=>?_⟩
 ·refine kk b o (I.base.keep b o e n hb (nex b)) fun z=>?_
  rcases hsup b z with z | z
  ·exact hL b o e z
  ·exact hb z
 ·obtain⟨sl,e1⟩:=I.base.slot b o e n hb (nex b)
  obtain⟨sl2,e2⟩:=fr b (hsub b hb) _ e1
  exact⟨sl2,e2⟩
 ·obtain⟨o1,e1⟩:=I.base.there b o e (nex b)
  by_cases hb:b∈frs X.stack
  ·obtain⟨sl,e2⟩:=fr b hb _ e1
   exact⟨_,e2⟩
  ·exact⟨o1,kk b o1 e1 hb⟩
 ·refine (I.hok a o e).stay (fun b u hb q=>kk b u q fun z=>?_) (fun _ q=>q) fun _ _ q=>q
  have hn:=I.stkFree b z
  rcases hb with hb | hb
  ·subst hb;rw[e]at hn;cases hn
  ·rw[hb]at hn;cases hn
theorem yP(I:Inv X pins σ H s)(hx:X.ex= [])(hst:X.stack=X.env::X.outer)(hf:X.env.frame=some X.env.locals){h':Heap}{ea:Addr}{c:Value}{args:List Value}
  (hm:Heap.MadeExcOf s.heap h' ea c args) {E:XK} (q:E c none H) {E':Value->Shared->Prop} :
  wpAny (model X.prog X.w) X.A (leaving X.env (.ref ea)) (fun _ s''=>CX1 X.prog X.w X.outer X.H₀ X.s₀ E (.ref ea) s'') E' { s with heap:=h' }:=by
 have hfr:X.A.frames=some (X.env::X.outer):=by rw[<- hst];exact I.ok.frames
 have hst':=I.stack
 rw[hst]at hst'
 refine wpAny_leaves_madeW (base:=PySem.W.hideAll s.heap (frs X.stack)) (h:=s.heap) hfr hf (fun b o e=>PySem.W.of_hideAll _ e) (PySem.W.funFrames_hide hst' fun env he a ha=>?_) hm fun h'' t f1 f2 f3 f4=>?_
 ·rw[hst];exact uA.mpr ⟨env,he,ha⟩
 ·exact⟨ea,c,.ref t,_,s.heap,H,rfl,I.os,I.bare,f1,(Heap.UpToSlots.of_keeps hm.keeps).trans f4,fun h6 k1 k2=>I.flies hx hst hf k1 k2,q⟩
end
noncomputable abbrev bmV:List Value:= [.type "ValueError",.type "Exception",.type "BaseException",.type "object"]
noncomputable def mroIn(K:PySem.W.Frag)(C:Addr):List Value:=match K.lookup C with
 |some ⟨_,_,.cls cd,_⟩=>cd.mro
 |_=> []
theorem zet {K:PySem.W.Frag}{h:Heap}{C:Addr}(X:K.In h) (q:PySem.W.excIn K C bmV "ValueError.__new__" =true) :
  ∃ bm N nm qn bs hdct sn sub ab col dd k0 k1 k2 k3 k5 mN,h.get? C=some (excClassObj nm qn C N bs bm hdct sn sub ab col dd k0 k1 k2 k3 k5 "ValueError.__new__")/\h.Ns N mN/\mN "__init__" =none/\OwnTail h bmV bm/\mroIn K C=Value.ref C::bm:=by
 unfold PySem.W.excIn at q
 unfold mroIn
 split at q
 ·rename_i d0 c0 s0 e0
  rw[e0]
  dsimp only
  split at q
  ·rename_i C1 bm z0 z1 z2 z3 n1 z5 e1 e2
   rw[xa,xa,xa,xa,xa]at q
   obtain⟨⟨⟨⟨⟨q1,q2⟩,q3⟩,q4⟩,q5⟩,q6⟩:=q
   have r1:C1=C:=eq_of_beq q1
   have r2:n1= "ValueError.__new__" :=eq_of_beq q2
   have r3:c0.hasDel=false:=by simpa using q3
   have r6:PySem.W.nsIn K c0.ns "__init__" =some none:=eq_of_beq q6
   subst r1 r2
   have r5:s0=#[z0,z1,z2,z3,some (.builtin "ValueError.__new__"),z5]:=by
    cases s0 with
    |mk l=>exact congrArg Array.mk e2
   cases c0 with
   |mk a1 a2 a3 a4 a5 a6 a7 a8 a9 a10 a11=>
    dsimp only at e1 r3 q5 r6
    subst e1 r3 r5
    exact⟨_,_,_,_,_,_,_,_,_,_,_,_,_,_,_,_,_,X _ _ e0,.of_isNs (PySem.W.isNs_of_in X q5),PySem.W.nsMap_none_of_in X q5 r6,PySem.W.tail_of_in X q4,rfl⟩
  ·cases q
 ·cases q
structure KC(X:Cx)(x:Str)(C:Addr):Prop where
 gl:Gl X x
 mg:X.mg x=some (.ref C)
 ex:PySem.W.excIn X.K C bmV "ValueError.__new__" =true
 d:(x==("__debug__" :Str))=false
section
variable {X:Cx} {x:Str} {C:Addr} {np cpos pos cp:Pos} {z:Str} {cj:Nat} {σ:St} {H:Hp} {D:jk}
theorem zcT {h:Heap}{bm:List Value}(T:OwnTail h bmV bm):bm.contains (.type "BaseException")=true:=(T.hasType (by decide +kernel))
theorem zbl(k:KC X x C)(hcalm:X.calm=true)
  (h:∀ pins s,Inv X pins σ H s->∀ h' ea args,Heap.MadeExcOf s.heap h' ea (.ref C) args->X.xe (.ref ea) { s with heap:=h' }) :
  wpS X (.Raise (some (.Call (.Name x np) [.Constant (.str z) cj cp] [] cpos)) none pos) D σ H:=fun pins s I=>by
 obtain⟨bm,N,nm,qn,bs,hdct,sn,sub,ab,col,dd,k0,k1,k2,k3,k5,mN,hC,hN,hi,T,_⟩:=zet I.mod.kin k.ex
 refine wpAny_Raise_call_subT (C:=C) (nm:=nm) (q:=qn) (N:=N) (bs:=bs) (bm:=bm) (hdct:=hdct) (sn:=sn) (sub:=sub) (ab:=ab) (col:=col) (dd:=dd) (k0:=k0) (k1:=k1) (k2:=k2) (k3:=k3) (k5:=k5) (mN:=mN) PySem.F.excBase_ValueError (zcT T) (I.ok.hd hcalm) rfl hi (wj I k.gl k.mg ⟨rfl,?_⟩ k.d)
 refine Calls.evalArgs_plain ?_
 have hz:wpE X (.Constant (.str z) cj cp) σ H fun v H'=>v=.str z/\H'=H:=pe_str.wp ⟨rfl,rfl⟩
 have hA:wpA X [.Constant (.str z) cj cp] σ H fun vs H'=>vs= [.str z]/\H'=H:=(zy zf pa_nil rfl).wp (hz.mono fun v H' ⟨e1,e2⟩=>⟨by rw[e1],e2⟩)
 refine wpAny_mono (hA cpos pins s I) (fun vs s1 hq=>?_) fun _ _ y=>y
 obtain⟨ws,H1,I1,r,e,eH⟩:=hq
 subst eH
 have hlen:vs.length=1:=by rw[<- r.length,e];rfl
 exact⟨rfl,by have:=sizeLine_eq;show vs.length<=sizeLine;omega,I1.bk _ _ hC,hN.keeps I1.bk,T.keeps I1.bk,fun h' ea hm=>h pins s1 I1 h' ea vs hm⟩
end
end L2
namespace L2
open PySem PySem.Spec PyProof.Rows
noncomputable abbrev Cx.tried(X:Cx)(pins:List (Addr×Obj))(E:Value->Shared->Prop):Cx:={ X with pn:=X.pn++pins,xe:=E }
section
variable {X:Cx} {pins:List (Addr×Obj)} {σ:St} {H:Hp} {s:Shared} {e:Value} {E:Value->Shared->Prop} {D:jk} {f:Flow}
theorem Cx.Ok.tried(ok:X.Ok):(X.tried pins E).Ok :=
 ⟨ok.mod,ok.kind,ok.glob,ok.blt,ok.above,ok.inj,ok.has,ok.cab,ok.hd,ok.frames,ok.stk,ok.exf,ok.bs,ok.bsz,ok.noex,ok.exfs,ok.funs,ok.frf⟩
theorem Inv.tried(I:Inv X pins σ H s)(E:Value->Shared->Prop):Inv (X.tried pins E) [] σ H s:=⟨I.ok.tried,I.os,I.bare,I.base,I.loc,I.cell,I.free,I.freeC,fun p hp=>I.pin p (by simpa using hp),I.hok,I.len⟩
end
structure HdK(X:Cx)(hd:ExceptHandler)(C:Addr)(t:Nat)(v:Str):Prop where
 ex:∃ x np y py cj pc pa hp,hd=.ExceptHandler (some (.Name x np)) none [.Assign [.Name y py] (.Constant (.str v) cj pc) pa] hp/\KC X x C/\X.N[t]?=some y/\Loc X.env.scope y/\(X.fn y=true∨X.env.scope.names.lookup y=some .local)
inductive zdW(X:Cx):List ExceptHandler->List (Addr×Nat×Str)->Prop
 |nil:zdW X [] []
 |cons {hd:ExceptHandler} {hs:List ExceptHandler} {C:Addr} {t:Nat} {v:Str} {zs:List (Addr×Nat×Str)}:HdK X hd C t v->zdW X hs zs->zdW X (hd::hs) ((C,t,v)::zs)
section
variable {X:Cx} {pins:List (Addr×Obj)} {σ:St} {H:Hp} {s:Shared} {E:Value->Shared->Prop} {D:jk} {B:Heap} {ea C:Addr} {a0:Value}
end
end L2
namespace L2
open PySem PySem.Spec PyProof.Rows
section
variable {X:Cx} {pins:List (Addr×Obj)} {σ:St} {H:Hp} {s s':Shared} {D:jk} {e:Value}
end
section
variable {P:Program} {w:World} {K:PySem.W.Frag} {mg:Str->Option Value} {base:Heap} {x:Str} {st:Stmt} {N ps:List Str} {k:Nat}
theorem Df.knX{sp:Sp}(D:Df K mg x st ps)(S:qQ N ps (defScope st))(len:∀ vs H Q E,sp vs H Q E->vs.length=ps.length)
  (hbody:∀ (f:Addr) (cdv:Value) (A:Around) (outer:List Env) (s:Shared) (H:Hp) (vs:List V) (Q:VK) (E:XK),Room k (A.deeper (envOfC x (defScope st) s.heap.objs.size f cdv))->sp vs H Q E ->
   wpB (Z2 (CX1 P w) P w K mg base N x (defScope st) f cdv A outer s H E) (defBody st) { nx:=fun _ H'=>Q .non H',rt:=Q } (start N vs) H):Kn P w K mg base (CX1 P w) x (k+1) sp:=by
 obtain⟨f,fd,F,hm,hb⟩:=D.ex
 obtain⟨oc,od,kV,doc,pm,an,cdv,ct,osl,rfl,lk,hcd⟩:=F.ex
 exact⟨f,_,ps,zfg lk hcd S len fun A outer s H vs Q E hr hsp=>⟨_,qJ,hbody f cdv A outer s H vs Q E hr hsp⟩,hm,F.kp,hb⟩
end
end L2
namespace L2
open PySem PySem.Spec PyProof.Rows
section
variable {prog:Program} {w:World} {A:Around} {E:Value->Shared->Prop} {s:Shared}
theorem zbF{l:Addr}{x:Value}{xs:List Value}{Q:List Value->Shared->Prop}(hl:s.heap.IsList l (x::xs).toArray)(hh:A.handled=none)(hz:(x::xs).length<=sizeLine)
  (k:∀ (h2:Heap) (tk:Nat),(∀ b o,s.heap.get? b=some o->h2.get? b=some o)->Q [x,.ref h2.objs.size] { s with heap:=h2.push { cls:=.type "list",data:=.seq xs.toArray },toks:=tk }) :
  wpAny (model prog w) A (unpackItems (.ref l) 2 (some 1)) Q E s:=by
 obtain⟨ol,hol,hcl,hdl⟩:=id hl
 have hlt:=Heap.lt_size hol
 have hne:l≠s.heap.objs.size:=xu hlt
 unfold unpackItems notIterableAtAll
 refine wpAny_bind (wpAny_bind (wpAny_specialOf hl.typeIs PySem.F.slot_list_iter.lookup (wpAny_pure ?_)))
 simp only[xG,if_false]
 refine wpAny_bind (wpAny_holding (wpAny_pyIter_list hl ?_))
 refine wpAny_bind (wpAny_holding (PySem.W.kun_draw hne 1 0 _ _ ⟨_,Heap.get?_push_size _ rfl,rfl,rfl⟩ (hl.push _) (by simp) fun h1 it1 sb1=>?_))
 have hl1:h1.IsList l (x::xs).toArray:=(hl.push _).extBut sb1.extBut hne
 obtain⟨oi,hoi,_⟩:=id it1
 obtain⟨o1,ho1,_⟩:=id hl1
 have hfst:(((x::xs).toArray.toList.drop 0).take 1)= [x]:=rfl
 rw[hfst]
 rw[if_neg (show ¬ ([x].length<1) by simp)]
 refine wpAny_bind (wpAny_holding (PySem.W.kun_collect (s:={ s with heap:=h1 }) (T:= "list_iterator") (.inr (.inr (.inl rfl))) (Walks.list (A:=A.in1) hh s.heap.objs.size l hne (x::xs).toArray) (fun j u st=>st.1.typeIs) (k:=1) (by simp) ⟨it1,hl1⟩ (Heap.lt_size hoi) (Heap.lt_size ho1) (fun h2 tk hk=>?_) (by simpa using hz)))
 have hdr:(x::xs).toArray.toList.drop 1=xs:=rfl
 rw[hdr]
 show wpAny _ _ (if xs.length<2-1-1 then _ else _) _ _ _
 rw[if_neg (by omega)]
 have keep:∀ b o,s.heap.get? b=some o->h2.get? b=some o:=fun b o e=>by
  have hb:b≠s.heap.objs.size:=xu (Heap.lt_size e)
  exact hk b o hb (sb1.extBut b o hb (Heap.get?_push_of_some _ e))
 show wpAny _ _ (newList (xs.take (xs.length-(2-1-1))) >>= fun d=>pure ([x]++ [d]++xs.drop (xs.length-(2-1-1)))) _ _ _
 have h0:xs.length-(2-1-1)=xs.length:=by omega
 rw[h0,uw,List.drop_length]
 refine wpAny_bind (wpAny_newList (s:={ s with heap:=h2,toks:=tk }) (wpAny_pure ?_) (by simp at hz;omega))
 exact k h2 tk keep
end
section
variable {M:Model} {A:Around} {E:Value->Shared->Prop} {s:Shared}
theorem zal:fillsInplaceSlot (.type "list") "add" true=pure false:=by
 unfold fillsInplaceSlot
 show (typeLookup (.type "list") (dunderI "add") >>= fun z=>pure (z.isSome&& !isSeqSlot z))=pure false
 rw[PySem.F.slot_list_iadd.lookup]
 have z:isSeqSlot (some (.builtin "list.__iadd__"))=true:=by decide +kernel
 show (pure (true&& !isSeqSlot (some (.builtin "list.__iadd__"))):Sem Bool)=pure false
 rw[z];rfl
theorem zbS:seqSlot? (.type "list") (dunderI "add")=pure (some (.builtin "list.__iadd__")):=PySem.seqSlot_of PySem.F.slot_list_iadd.lookup (by decide +kernel)
theorem V1 {a b:Value}{Q:Value->Shared->Prop}(ha:s.TypeIs a "list") (hb:s.TypeIs b "list") (h:wpAny M A (call (.builtin "list.__iadd__") [a,b]) Q E s):wpAny M A (inplaceOp .Add a b) Q E s:=by
 unfold inplaceOp
 refine wpAny_holding (wpAny_bind (wpAny_typeOf ha (wpAny_bind (wpAny_of_eq zal ?_))))
 show wpAny M A (if false=true then _ else _) Q E s
 rw[if_neg uz]
 refine wpAny_bind (wpAny_binaryOp1_none (nm:= "add") ha hb noFill_list_add (wpAny_bind (wpAny_of_eq zbS ?_)))
 exact wpAny_bind (wpAny_rule h)
end
section
variable {X:Cx}
theorem zek:PIp X .Add (fun x y H Q=>∃ l b xs zs,x=.ref l/\y=.ref b/\H l=some (.lst xs)/\H b=some (.lst zs)/\xs.length+zs.length<=sizeLine/\Q (.ref l) (upd H l (.lst (xs++zs)))):=by
 intro pins s σ H x y v u Q I rx ry h
 obtain⟨l,b,xs,zs,rfl,rfl,hH,hB,hz,q⟩:=h
 cases rx
 cases ry
 obtain⟨z,its,n,r,hl,e⟩:=I.lstM hH
 obtain⟨z2,its2,n2,r2,hl2,e2⟩:=I.lstM hB
 refine V1 ⟨_,e,rfl⟩ ⟨_,e2,rfl⟩ ?_
 have hsz:its.toArray.size+its2.toArray.size<=sizeLine:=by rw[xp,xp];omega
 have hlong:¬ (!its.toArray.isEmpty&&Builtin.List.listTooLong (its.toArray.size+its2.toArray.size))=true:=by
  rw[zcV hsz,Bool.and_false];exact uz
 refine call_meets PySem.F.slot_list_iadd ⟨_,e,rfl⟩ PySem.F.entry_list_iadd (PySem.F.args_list_iadd_2 _ _) (AutoSeq1.list___iadd___list_list_0 l its.toArray n b its2.toArray n2 hlong (by rw[xp];omega) (by omega)) ⟨e,e2,?_⟩
 exact⟨.ref l,_,I.lset (its':=its++its2) hH e (by simp) (r.append r2) (by rw[xw];omega),rfl,q⟩
noncomputable def zh6(K:PySem.W.Frag)(i j:Nat):TG:=fun v σ H Q=>∃ l y ys,v=.ref l/\SqL K H l (y::ys)/\∀ p,H p=none->Q ((σ.set i (some y)).set j (some (.ref p))) (upd H p (.lst ys))
theorem zeO{i j:Nat}{x y:Str}{k:Nat}{px py ps pos:Pos}(hc:X.calm=true)(hN:X.N.Nodup)(hi:X.N[i]?=some x)(hx:Loc X.env.scope x)(hfx:X.fn x=true∨X.env.scope.names.lookup x=some .local)(hj:X.N[j]?=some y)(hy:Loc X.env.scope y)(hfy:X.fn y=true∨X.env.scope.names.lookup y=some .local) :
  PG X (.Tuple [.Name x px,.Starred (.Name y py) ps] k pos) (zh6 X.K i j):=by
 intro pins s σ H v u Q I r h
 obtain⟨l,z,zs,rfl,hq,q⟩:=h
 cases r
 obtain⟨its,rv,pl,hz⟩:=I.list hq
 cases rv with
 |cons r1 r2=>
  rename_i w ws
  rw[assign_Tuple]
  refine wpAny_bind (wpAny_standAt ?_)
  unfold unpack
  refine wpAny_bind (wpAny_holding (zbF (x:=w) (xs:=ws) pl.isList (I.ok.hd hc) (by have:=r2.length;simp at hz |-;omega) fun h2 tk keep=>?_))
  have I2:Inv X pins σ H { s with heap:=h2,toks:=tk }:=I.kept (t':=tk) keep
  have I3:=I2.lnew (t':=tk) r2 (by simp at hz;omega)
  refine assignInOrder_cons (wpAny_assign_Name (Zb I3 hN hi hx r1 (fun s4 I4=>?_) hfx))
  refine assignInOrder_cons (wpAny_assign_Name (Zb (v:=.ref h2.objs.size) I4 hN hj hy rfl (fun s5 I5=>?_) hfy))
  exact assignInOrder_nil ⟨_,_,I5,q _ I2.fresh⟩
end
end L2
namespace L3
open PySem PySem.Spec PyProof.Rows L2
inductive OV where
 |d (x:PyData)
 |l (xs:List OV)
noncomputable abbrev Gv:=List (Option OV)
mutual
noncomputable def OV.view:OV->PyData
 |.d x=>x
 |.l xs=>.list (OV.views xs)
noncomputable def OV.views:List OV->List PyData
 |[]=> []
 |x::xs=>x.view::OV.views xs
end
theorem OV.views_d(xs:List PyData):OV.views (xs.map .d)=xs:=by
 induction xs with
 |nil=>rfl
 |cons x xs ih=>simp[OV.views,OV.view,ih]
theorem OV.views_map(xs:List OV):OV.views xs=xs.map OV.view:=by
 induction xs with
 |nil=>rfl
 |cons x xs ih=>simp[OV.views,ih]
mutual
/-- v stands for the value;its own lists lie at A -/
inductive OR(M:Addr->Prop)(H:Hp):V->OV->List Addr->Prop
 |d {v:V} {x:PyData}:Rep M H v x->OR M H v (.d x) []
 |l {a:Addr} {vs:List V} {xs:List OV} {A:List Addr}:H a=some (.lst vs)->ORL M H vs xs A->OR M H (.ref a) (.l xs) (a::A)
inductive ORL(M:Addr->Prop)(H:Hp):List V->List OV->List Addr->Prop
 |nil:ORL M H [] [] []
 |cons {v:V} {vs:List V} {x:OV} {xs:List OV} {A B:List Addr}:OR M H v x A->ORL M H vs xs B->ORL M H (v::vs) (x::xs) (A++B)
end
noncomputable abbrev zE:Addr->Prop:=fun _=>False
mutual
theorem OR.go{M M':Addr->Prop}{H H':Hp}(hr:∀ v d,Rep M H v d->Rep M' H' v d):∀ {v:V}{o:OV}{A:List Addr},(∀ a∈A,H' a=H a)->OR M H v o A->OR M' H' v o A
 |_,_,_,_,.d r=>.d (hr _ _ r)
 |_,_,_,h,.l e r=>.l (by rw[h _ xz];exact e) (ORL.go hr (fun a ha=>h a (xl _ ha)) r)
theorem ORL.go{M M':Addr->Prop}{H H':Hp}(hr:∀ v d,Rep M H v d->Rep M' H' v d):∀ {v:List V}{o:List OV}{A:List Addr},(∀ a∈A,H' a=H a)->ORL M H v o A->ORL M' H' v o A
 |_,_,_,_,.nil=>.nil
 |_,_,_,h,.cons r t=>.cons (OR.go hr (fun a ha=>h a (xq _ ha)) r) (ORL.go hr (fun a ha=>h a (xB _ ha)) t)
end
mutual
/-- given up: it is data from now on -/
theorem OR.rep{M M':Addr->Prop}{H:Hp}(hm:∀ b,M' b->M b):∀ {v:V}{o:OV}{A:List Addr},(∀ a∈A,¬ M' a)->OR M H v o A->Rep M' H v o.view
 |_,_,_,_,.d r=>r.less fun b hb _=>hm b hb
 |_,_,_,h,.l e r=>.list e (h _ xz) (ORL.rep hm (fun a ha=>h a (xl _ ha)) r)
theorem ORL.rep{M M':Addr->Prop}{H:Hp}(hm:∀ b,M' b->M b):∀ {v:List V}{o:List OV}{A:List Addr},(∀ a∈A,¬ M' a)->ORL M H v o A->RepL M' H v (OV.views o)
 |_,_,_,_,.nil=>.nil
 |_,_,_,h,.cons r t=>.cons (OR.rep hm (fun a ha=>h a (xq _ ha)) r) (ORL.rep hm (fun a ha=>h a (xB _ ha)) t)
end
theorem OR.weak{M:Addr->Prop}{H:Hp}{v:V}{o:OV}{A:List Addr}(r:OR M H v o A):Rep zE H v o.view:=r.rep (fun _ h=>h.elim) fun _ _ h=>h
mutual
theorem OR.laid{M:Addr->Prop}{H:Hp}:∀ {v:V}{o:OV}{A:List Addr},OR M H v o A->∀ a∈A,∃ vs,H a=some (.lst vs)
 |_,_,_,.d _,a,h=>by cases h
 |_,_,_,.l e r,a,h=>by
  rcases xo.mp h with rfl | h
  ·exact⟨_,e⟩
  ·exact ORL.laid r a h
theorem ORL.laid{M:Addr->Prop}{H:Hp}:∀ {v:List V}{o:List OV}{A:List Addr},ORL M H v o A->∀ a∈A,∃ vs,H a=some (.lst vs)
 |_,_,_,.nil,a,h=>by cases h
 |_,_,_,.cons r t,a,h=>by
  rcases xJ.mp h with h | h
  ·exact OR.laid r a h
  ·exact ORL.laid t a h
end
theorem ORL.length{M:Addr->Prop}{H:Hp}:∀ {vs:List V}{os:List OV}{A:List Addr},ORL M H vs os A->vs.length=os.length
 |_,_,_,.nil=>rfl
 |_,_,_,.cons _ t=>by rw[xk,xk,ORL.length t]
theorem ORL.data{M:Addr->Prop}{H:Hp}:∀ {vs:List V}{ds:List PyData},RepL M H vs ds->ORL M H vs (ds.map .d) []
 |_,_,.nil=>.nil
 |_,_,.cons r t=>.cons (A:= []) (.d r) (ORL.data t)
noncomputable abbrev Fp:=Nat->List Addr
noncomputable def jD(F:Fp)(i:Nat)(A:List Addr):Fp:=fun j=>if j=i then A else F j
theorem zG{F:Fp}{i:Nat}{A:List Addr}:jD F i A i=A:=by unfold jD;rw[if_pos rfl]
theorem zO{F:Fp}{i j:Nat}{A:List Addr}(h:j≠i):jD F i A j=F j:=by unfold jD;rw[if_neg h]
noncomputable def MM(M0:Addr->Prop)(F:Fp):Addr->Prop:=fun a=>M0 a∨∃ i,a∈F i
noncomputable abbrev Nu:=List (Option V)
structure RS(M0:Addr->Prop)(F:Fp)(Γ:Gv)(ν:Nu)(H:Hp):Prop where
 al0:∀ a,M0 a->H a≠none
 dis0:∀ i a,a∈F i->¬ M0 a
 nd:∀ i,(F i).Nodup
 dis:∀ i j a,a∈F i->a∈F j->i=j
 at':∀ i o,Γ[i]?=some (some o)->∃ v,ν[i]?=some (some v)/\OR (MM M0 F) H v o (F i)
 emp:∀ i,(∀ o,Γ[i]?≠some (some o))->F i= []
 len:ν.length=Γ.length
structure Stp(F:Fp)(H:Hp)(F':Fp)(H':Hp):Prop where
 keep:∀ b o,H b=some o->(∀ i,b∉F i)->H' b=some o/\∀ i,b∉F' i
 tups:∀ b xs,H b=some (.tup xs)->H' b=some (.tup xs)
 stay:∀ b,H b≠none->H' b≠none
theorem Stp.refl(F:Fp)(H:Hp):Stp F H F H:=⟨fun _ _ e n=>⟨e,n⟩,fun _ _ e=>e,fun _ h=>h⟩
theorem Stp.trans{F F1 F2:Fp}{H H1 H2:Hp}(a:Stp F H F1 H1)(b:Stp F1 H1 F2 H2):Stp F H F2 H2 :=
 ⟨fun c o e n=>let ⟨e1,n1⟩:=a.keep c o e n;b.keep c o e1 n1,fun c xs e=>b.tups c xs (a.tups c xs e),fun c h=>b.stay c (a.stay c h)⟩
theorem Stp.same{F:Fp}{H H':Hp}(s:Same H H'):Stp F H F H':=⟨fun b o e n=>⟨s b o e,n⟩,fun b xs e=>s b _ e,fun b h=>by
 cases q:H b with
 |none=>exact absurd q h
 |some o=>rw[s b o q];exact fun z=>nomatch z⟩
theorem Stp.free{F F':Fp}{H H':Hp}(s:Stp F H F' H'){a:Addr}(n:H' a=none):H a=none:=by
 cases q:H a with
 |none=>rfl
 |some o=>exact absurd n (s.stay a (by rw[q];exact fun z=>nomatch z))
section
variable {M0:Addr->Prop} {F F':Fp} {Γ Γ':Gv} {ν ν':Nu} {H H':Hp}
theorem RS.laidF(r:RS M0 F Γ ν H){i:Nat}{a:Addr}(h:a∈F i):∃ vs,H a=some (.lst vs):=by
 by_cases q:∃ o,Γ[i]?=some (some o)
 ·obtain⟨o,q⟩:=q
  obtain⟨v,_,z⟩:=r.at' i o q
  exact z.laid a h
 ·rw[r.emp i fun o e=>q ⟨o,e⟩]at h;cases h
theorem RS.al(r:RS M0 F Γ ν H):Al (MM M0 F) H:=fun a h=>by
 rcases h with h | ⟨i,h⟩
 ·exact r.al0 a h
 ·obtain⟨vs,e⟩:=r.laidF h
  rw[e];exact fun z=>nomatch z
mutual
/-- data goes through a step -/
theorem zJ(s:Stp F H F' H')(h0:∀ a,M0 a->H a≠none):∀ {v:V}{d:PyData},Rep (MM M0 F) H v d->Rep (MM M0 F') H' v d
 |_,_,.none=>.none
 |_,_,.bool b=>.bool b
 |_,_,.int i=>.int i
 |_,_,.str x=>.str x
 |_,_,.list (a:=a) e n q=>by
  have hn:∀ i,a∉F i:=fun i h=>n (.inr ⟨i,h⟩)
  obtain⟨e',n'⟩:=s.keep a _ e hn
  refine .list e' ?_ (qj s h0 q)
  rintro (h | ⟨i,h⟩)
  ·exact n (.inl h)
  ·exact n' i h
 |_,_,.tuple e q=>.tuple (s.tups _ _ e) (qj s h0 q)
theorem qj(s:Stp F H F' H')(h0:∀ a,M0 a->H a≠none):∀ {vs:List V}{ds:List PyData},RepL (MM M0 F) H vs ds->RepL (MM M0 F') H' vs ds
 |_,_,.nil=>.nil
 |_,_,.cons r t=>.cons (zJ s h0 r) (qj s h0 t)
end
theorem RS.same(r:RS M0 F Γ ν H)(s:Same H H'):RS M0 F Γ ν H' where
 al0 a h:=by
  have:=r.al0 a h
  cases q:H a with
  |none=>exact absurd q this
  |some o=>rw[s a o q];exact fun z=>nomatch z
 dis0:=r.dis0
 nd:=r.nd
 dis:=r.dis
 at' i o e:=by
  obtain⟨v,e1,q⟩:=r.at' i o e
  exact⟨v,e1,q.go (fun v d x=>x.grow s.grow) fun a ha=>by
   obtain⟨vs,z⟩:=q.laid a ha
   rw[z,s a _ z]⟩
 emp:=r.emp
 len:=r.len
theorem RS.put{i:Nat}{o:OV}{v:V}{A:List Addr}(r:RS M0 F Γ ν H)(s:Stp F H (jD F i A) H')(hF:∀ j,j≠i->∀ a∈F j,H' a=H a)
  (hm:∀ a,M0 a->H' a≠none) (hA0:∀ a∈A,¬ M0 a) (hAn:A.Nodup) (hAd:∀ j,j≠i->∀ a∈A,a∉F j) (hi:i<Γ.length)
  (q:OR (MM M0 (jD F i A)) H' v o A):RS M0 (jD F i A) (Γ.set i (some o)) (ν.set i (some v)) H' where
 al0:=hm
 dis0 j a h:=by
  by_cases hj:j=i
  ·subst hj;rw[zG]at h;exact hA0 a h
  ·rw[zO hj]at h;exact r.dis0 j a h
 nd j:=by
  by_cases hj:j=i
  ·subst hj;rw[zG];exact hAn
  ·rw[zO hj];exact r.nd j
 dis j k a h1 h2:=by
  by_cases hj:j=i
  ·by_cases hk:k=i
   ·rw[hj,hk]
   ·subst hj;rw[zG]at h1;rw[zO hk]at h2;exact absurd h2 (hAd k hk a h1)
  ·by_cases hk:k=i
   ·subst hk;rw[zG]at h2;rw[zO hj]at h1;exact absurd h1 (hAd j hj a h2)
   ·rw[zO hj]at h1;rw[zO hk]at h2;exact r.dis j k a h1 h2
 at' j p e:=by
  by_cases hj:j=i
  ·subst hj
   rw[xt hi]at e
   cases e
   refine⟨v,by rw[xt (by rw[r.len];exact hi)],?_⟩
   rw[zG];exact q
  ·rw[xv (Ne.symm hj)]at e |-
   obtain⟨u,e1,z⟩:=r.at' j p e
   refine⟨u,e1,?_⟩
   rw[zO hj]
   exact z.go (fun v d x=>zJ s r.al0 x) (hF j hj)
 emp j h:=by
  by_cases hj:j=i
  ·subst hj
   rw[xt hi]at h
   exact absurd rfl (h o)
  ·rw[zO hj]
   refine r.emp j fun p e=>h p ?_
   rw[xv (Ne.symm hj)];exact e
 len:=by rw[ul,ul];exact r.len
theorem RS.setD{i:Nat}{d:PyData}{v:V}(r:RS M0 F Γ ν H)(q:Rep (MM M0 F) H v d)(hi:i<Γ.length):∃ F',RS M0 F' (Γ.set i (some (.d d))) (ν.set i (some v)) H/\Stp F H F' H:=by
 have s:Stp F H (jD F i []) H:=⟨fun b o e n=>⟨e,fun j=>by
  by_cases hj:j=i
  ·subst hj;rw[zG];exact fun z=>nomatch z
  ·rw[zO hj];exact n j⟩,fun _ _ e=>e,fun _ h=>h⟩
 exact⟨_,r.put s (fun _ _ _ _=>rfl) r.al0 (fun _ h=>nomatch h) .nil (fun _ _ _ h=>nomatch h) hi (.d (zJ s r.al0 q)),s⟩
noncomputable def wB(F:Fp)(n:Nat):Fp:=fun j=>if j<n then F j else []
theorem VQ{n j:Nat}(h:j<n):wB F n j=F j:=by unfold wB;rw[if_pos h]
theorem kT{n j:Nat}(h:¬ j<n):wB F n j= []:=by unfold wB;rw[if_neg h]
theorem ji{n j:Nat}{a:Addr}(h:a∈wB F n j):j<n/\a∈F j:=by
 unfold wB at h
 split at h
 ·exact⟨by assumption,h⟩
 ·cases h
theorem Zu(h:∀ j a,a∈F' j->∃ k,a∈F k):Stp F H F' H:=⟨fun b o e n=>⟨e,fun j hj=>let ⟨k,hk⟩:=h j b hj;n k hk⟩,fun _ _ e=>e,fun _ h=>h⟩
theorem RS.cut(r:RS M0 F Γ ν H)(n:Nat):RS M0 (wB F n) (Γ.take n) (ν.take n) H/\Stp F H (wB F n) H:=by
 have s:Stp F H (wB F n) H:=Zu fun j a h=>⟨j,(ji h).2⟩
 refine⟨⟨r.al0,fun j a h=>r.dis0 j a (ji h).2,fun j=>?_,fun j k a h1 h2=>r.dis j k a (ji h1).2 (ji h2).2,fun j o e=>?_,fun j h=>?_,?_⟩,s⟩
 ·by_cases hj:j<n
  ·rw[VQ hj];exact r.nd j
  ·rw[kT hj];exact .nil
 ·have hj:j<n:=by
   by_cases hj:j<n
   ·exact hj
   ·rw[xj (by rw[xW];omega)]at e;cases e
  rw[xX hj]at e |-
  obtain⟨v,e1,q⟩:=r.at' j o e
  exact⟨v,e1,by rw[VQ hj];exact q.go (fun _ _ x=>zJ s r.al0 x) fun _ _=>rfl⟩
 ·by_cases hj:j<n
  ·rw[VQ hj]
   refine r.emp j fun o e=>h o ?_
   rw[xX hj];exact e
  ·exact kT hj
 ·rw[xW,xW,r.len]
theorem RS.ext(r:RS M0 F Γ ν H)(k:Nat):RS M0 F (Γ++List.replicate k none) (ν++List.replicate k none) H:=by
 have get:∀ {α:Type} (l:List (Option α)) (j:Nat) (o:α),(l++List.replicate k none)[j]?=some (some o)->l[j]?=some (some o):=fun {α} l j o e=>by
  by_cases hj:j<l.length
  ·rw[xf hj]at e;exact e
  ·rw[xg (by omega),xQ]at e
   split at e<;>cases e
 have put:∀ {α:Type} (l:List (Option α)) (j:Nat) (o:α),l[j]?=some (some o)->(l++List.replicate k none)[j]?=some (some o):=fun {α} l j o e=>by
  rw[xf (xc.mp e).1];exact e
 exact⟨r.al0,r.dis0,r.nd,r.dis,fun j o e=>let ⟨v,e1,q⟩:=r.at' j o (get _ _ _ e);⟨v,put _ _ _ e1,q⟩,fun j h=>r.emp j fun o e=>h o (put _ _ _ e),by simp[r.len]⟩
theorem yN{α:Type}(l:List (Option α))(x:α):(l++List.replicate 1 none).set l.length (some x)=l++ [some x]:=by
 rw[List.set_append_right _ _ (xm _)];simp
theorem RS.newO{p:Addr}{vs:List V}{ds:List PyData}(r:RS M0 F Γ ν H)(n:H p=none)(q:RepL (MM M0 F) H vs ds) :
  RS M0 (jD F Γ.length [p]) (Γ++ [some (.l (ds.map .d))]) (ν++ [some (.ref p)]) (upd H p (.lst vs))/\Stp F H (jD F Γ.length [p]) (upd H p (.lst vs)):=by
 have hp:∀ i,p∉F i:=fun i h=>by
  obtain⟨vs,e⟩:=r.laidF h
  rw[n]at e;cases e
 have he:F Γ.length= []:=r.emp _ fun o e=>by
  rw[xj (xm _)]at e;cases e
 have s:Stp F H (jD F Γ.length [p]) (upd H p (.lst vs)):=⟨fun b o e nb=>⟨zN n b o e,fun j h=>by
  by_cases hj:j=Γ.length
  ·subst hj;rw[zG]at h
   have e':b=p:=by simpa using h
   subst e';rw[n]at e;cases e
  ·rw[zO hj]at h;exact nb j h⟩,fun b xs e=>zN n b _ e,fun b h=>by
   by_cases e:b=p
   ·subst e;exact absurd n h
   ·rw[zo e];exact h⟩
 have r1:=(r.ext 1).put (i:=Γ.length) (o:=.l (ds.map .d)) (v:=.ref p) (A:= [p]) (H':=upd H p (.lst vs)) s (fun j _ a ha=>zo (fun e=>hp j (by rw[<- e];exact ha)))
  (fun a h=>s.stay a (r.al0 a h)) (fun a ha h=>by
   have e:a=p:=by simpa using ha
   subst e;exact r.al0 a h n) (xC.mpr ⟨(fun z=>nomatch z),.nil⟩) (fun j _ a ha=>by
   have e:a=p:=by simpa using ha
   subst e;exact hp j) (by simp) (.l zA (ORL.data (qj s r.al0 q)))
 rw[yN]at r1
 have e2:(ν++List.replicate 1 none).set Γ.length (some (V.ref p))=ν++ [some (V.ref p)]:=by rw[<- r.len,yN]
 rw[e2]at r1
 exact⟨r1,s⟩
theorem RS.move{i:Nat}{o:OV}{v:V}(r:RS M0 F (Γ++ [some o]) (ν++ [some v]) H)(hi:i<Γ.length):∃ F',RS M0 F' (Γ.set i (some o)) (ν.set i (some v)) H/\Stp F H F' H:=by
 have hl:ν.length=Γ.length:=by have:=r.len;simp at this;exact this
 have hni:Γ.length≠i:=Nat.ne_of_gt hi
 let F':Fp:=fun j=>if j=i then F Γ.length else if j<Γ.length then F j else []
 have hFi:F' i=F Γ.length:=by show (if i=i then _ else _)=_;rw[if_pos rfl]
 have hFj:∀ j,j≠i->j<Γ.length->F' j=F j:=fun j h1 h2=>by show (if j=i then _ else _)=_;rw[if_neg h1,if_pos h2]
 have hFo:∀ j,j≠i->¬ j<Γ.length->F' j= []:=fun j h1 h2=>by show (if j=i then _ else _)=_;rw[if_neg h1,if_neg h2]
 have sub:∀ j a,a∈F' j->(j=i/\a∈F Γ.length)∨(j≠i/\j<Γ.length/\a∈F j):=fun j a h=>by
  by_cases h1:j=i
  ·subst h1;rw[hFi]at h;exact .inl ⟨rfl,h⟩
  ·by_cases h2:j<Γ.length
   ·rw[hFj j h1 h2]at h;exact .inr ⟨h1,h2,h⟩
   ·rw[hFo j h1 h2]at h;cases h
 have s:Stp F H F' H:=Zu fun j a h=>by
  rcases sub j a h with ⟨_,h⟩ | ⟨_,_,h⟩
  ·exact⟨_,h⟩
  ·exact⟨_,h⟩
 refine⟨F',⟨r.al0,fun j a h=>?_,fun j=>?_,fun j k a h1 h2=>?_,fun j p e=>?_,fun j h=>?_,by simp[hl]⟩,s⟩
 ·rcases sub j a h with ⟨_,h⟩ | ⟨_,_,h⟩
  ·exact r.dis0 _ a h
  ·exact r.dis0 _ a h
 ·by_cases h1:j=i
  ·subst h1;rw[hFi];exact r.nd _
  ·by_cases h2:j<Γ.length
   ·rw[hFj j h1 h2];exact r.nd _
   ·rw[hFo j h1 h2];exact .nil
 ·rcases sub j a h1 with ⟨e1,z1⟩ | ⟨n1,l1,z1⟩
  ·rcases sub k a h2 with ⟨e2,z2⟩ | ⟨n2,l2,z2⟩
   ·rw[e1,e2]
   ·have:=r.dis _ _ a z1 z2;omega
  ·rcases sub k a h2 with ⟨e2,z2⟩ | ⟨n2,l2,z2⟩
   ·have:=r.dis _ _ a z1 z2;omega
   ·exact r.dis _ _ a z1 z2
 ·by_cases hj:j=i
  ·subst hj
   rw[xt hi]at e
   cases e
   obtain⟨u,e1,q⟩:=r.at' Γ.length o (by rw[xg (xm _)];simp)
   rw[xg (by omega),hl]at e1
   simp at e1
   subst e1
   refine⟨v,by rw[xt (by omega)],?_⟩
   rw[hFi];exact q.go (fun _ _ x=>zJ s r.al0 x) fun _ _=>rfl
  ·rw[xv (Ne.symm hj)]at e |-
   have hjl:j<Γ.length:=(xc.mp e).1
   obtain⟨u,e1,q⟩:=r.at' j p (by rw[xf hjl];exact e)
   rw[xf (by omega)]at e1
   exact⟨u,e1,by rw[hFj j hj hjl];exact q.go (fun _ _ x=>zJ s r.al0 x) fun _ _=>rfl⟩
 ·by_cases hj:j=i
  ·subst hj;rw[xt hi]at h;exact absurd rfl (h o)
  ·by_cases h2:j<Γ.length
   ·rw[hFj j hj h2]
    refine r.emp j fun p e=>h p ?_
    rw[xf h2]at e
    rw[xv (Ne.symm hj)];exact e
   ·exact hFo j hj h2
theorem RS.dropD{o:OV}{v:V}(r:RS M0 F (Γ++ [some o]) (ν++ [some v]) H):∃ F',RS M0 F' Γ ν H/\Stp F H F' H/\Rep (MM M0 F') H v o.view:=by
 have hl:ν.length=Γ.length:=by have:=r.len;simp at this;exact this
 obtain⟨r1,s⟩:=r.cut Γ.length
 have e1:(Γ++ [some o]).take Γ.length=Γ:=by simp
 have e2:(ν++ [some v]).take Γ.length=ν:=by rw[<- hl];simp
 rw[e1,e2]at r1
 refine⟨_,r1,s,?_⟩
 obtain⟨u,e,q⟩:=r.at' Γ.length o (by rw[xg (xm _)];simp)
 rw[xg (by omega),hl]at e
 simp at e
 subst e
 refine q.rep (fun b hb=>?_) (fun a ha hb=>?_)
 ·rcases hb with hb | ⟨j,hb⟩
  ·exact .inl hb
  ·exact .inr ⟨j,(ji hb).2⟩
 ·rcases hb with hb | ⟨j,hb⟩
  ·exact r.dis0 _ a ha hb
  ·have:=r.dis _ _ a ha (ji hb).2
   have:=(ji hb).1
   omega
theorem RS.frz{i:Nat}{o:OV}(r:RS M0 F Γ ν H)(e:Γ[i]?=some (some o)):∃ F' v,ν[i]?=some (some v)/\RS M0 F' (Γ.set i (some (.d o.view))) ν H/\Stp F H F' H/\Rep (MM M0 F') H v o.view:=by
 obtain⟨v,ev,q⟩:=r.at' i o e
 have hi:=(xc.mp e).1
 have s:Stp F H (jD F i []) H:=Zu fun j a h=>by
  by_cases hj:j=i
  ·subst hj;rw[zG]at h;cases h
  ·rw[zO hj]at h;exact⟨j,h⟩
 have hq:Rep (MM M0 (jD F i [])) H v o.view:=q.rep (fun b hb=>by
  rcases hb with hb | ⟨j,hb⟩
  ·exact .inl hb
  ·by_cases hj:j=i
   ·subst hj;rw[zG]at hb;cases hb
   ·rw[zO hj]at hb;exact .inr ⟨j,hb⟩) (fun a ha hb=>by
  rcases hb with hb | ⟨j,hb⟩
  ·exact r.dis0 _ a ha hb
  ·by_cases hj:j=i
   ·subst hj;rw[zG]at hb;cases hb
   ·rw[zO hj]at hb;exact hj (r.dis _ _ a hb ha))
 have r1:=r.put (i:=i) (A:= []) s (fun _ _ _ _=>rfl) r.al0 (fun _ h=>nomatch h) .nil (fun _ _ _ h=>nomatch h) hi (.d hq)
 have e2:ν.set i (some v)=ν:=by
  apply xU
  intro j
  by_cases hj:i=j
  ·subst hj;rw[xt (xc.mp ev).1,ev]
  ·rw[xv hj]
 rw[e2]at r1
 exact⟨_,v,ev,r1,s,hq⟩
theorem RS.mut{i:Nat}{xs xs':List OV}{a:Addr}{vs:List V}(r:RS M0 F Γ ν H)(e:Γ[i]?=some (some (.l xs)))(ev:ν[i]?=some (some (.ref a)))
  (h:∀ us A,H a=some (.lst us)->ORL (MM M0 F) H us xs A->F i=a::A->∃ A',(∀ b∈A',b∈A)/\A'.Nodup/\ORL (MM M0 F) H vs xs' A') :
  ∃ F',RS M0 F' (Γ.set i (some (.l xs'))) ν (upd H a (.lst vs))/\Stp F H F' (upd H a (.lst vs)):=by
 obtain⟨v,ev',q⟩:=r.at' i _ e
 rw[ev]at ev';cases ev'
 have hi:=(xc.mp e).1
 generalize hA:F i=Ai at q
 cases q with
 |l ea qa=>
  rename_i us A
  obtain⟨A',sub,nd',q'⟩:=h us A ea qa hA
  have nd:=r.nd i
  rw[hA]at nd
  have hnA:a∉A:=(xC.mp nd).1
  have inF:∀ b,b∈(a::A')->b∈F i:=fun b hb=>by
   rw[hA]
   rcases xo.mp hb with z | z
   ·rw[z];exact xz
   ·exact xl _ (sub b z)
  have s:Stp F H (jD F i (a::A')) (upd H a (.lst vs)):=⟨fun b o eb nb=>⟨by rw[zo (fun z=>nb i (by rw[hA,z];exact xz))];exact eb,fun j hj=>by
   by_cases z:j=i
   ·subst z;rw[zG]at hj;exact nb j (inF b hj)
   ·rw[zO z]at hj;exact nb j hj⟩,fun b xs eb=>by rw[zo (zh4 eb ea (by intro z;cases z))];exact eb,fun b hb=>by
   by_cases z:b=a
   ·subst z;rw[zA];exact fun w=>nomatch w
   ·rw[zo z];exact hb⟩
  have r1:=r.put (i:=i) (o:=.l xs') (v:=.ref a) (A:=a::A') s (fun j hj b hb=>by
    rw[zo]
    intro z
    subst z
    exact hj (r.dis j i b hb (by rw[hA];exact xz))) (fun b hb=>s.stay b (r.al0 b hb)) (fun b hb=>r.dis0 i b (inF b hb)) (xC.mpr ⟨fun z=>hnA (sub a z),nd'⟩)
   (fun j hj b hb hbj=>hj (r.dis j i b hbj (inF b hb))) hi (.l zA (q'.go (fun _ _ x=>zJ s r.al0 x) fun b hb=>by
    rw[zo];intro z;subst z;exact hnA (sub b hb)))
  have e2:ν.set i (some (V.ref a))=ν:=by
   apply xU
   intro j
   by_cases hj:i=j
   ·subst hj;rw[xt (xc.mp ev).1,ev]
   ·rw[xv hj]
  rw[e2]at r1
  exact⟨_,r1,s⟩
end
theorem ORL.snoc{M:Addr->Prop}{H:Hp}{v:V}{d:PyData}(q:Rep M H v d):∀ {vs:List V}{os:List OV}{A:List Addr},ORL M H vs os A->ORL M H (vs++ [v]) (os++ [.d d]) A
 |_,_,_,.nil=>.cons (A:= []) (.d q) .nil
 |_,_,_,.cons r t=>.cons r (ORL.snoc q t)
theorem ORL.setD{M:Addr->Prop}{H:Hp}{v:V}{d:PyData}(q:Rep M H v d):∀ {vs:List V}{os:List OV}{A:List Addr}{j:Nat}{x:PyData},ORL M H vs os A->os[j]?=some (.d x)->ORL M H (vs.set j v) (os.set j (.d d)) A
 |_,_,_,_,_,.nil,e=>by simp at e
 |_,_,_,0,x,.cons r t,e=>by
  simp at e
  subst e
  cases r
  exact .cons (A:= []) (.d q) t
 |_,_,_,j+1,x,.cons r t,e=>.cons r (ORL.setD (j:=j) q t (by simpa using e))
theorem ORL.get{M:Addr->Prop}{H:Hp}:∀ {vs:List V}{os:List OV}{A:List Addr}{j:Nat}{x:PyData},ORL M H vs os A->os[j]?=some (.d x)->∃ v,vs[j]?=some v/\Rep M H v x
 |_,_,_,_,_,.nil,e=>by simp at e
 |_,_,_,0,x,.cons r t,e=>by
  simp at e
  subst e
  cases r with
  |d r=>exact⟨_,rfl,r⟩
 |_,_,_,j+1,x,.cons r t,e=>by
  obtain⟨v,e1,q⟩:=ORL.get (j:=j) t (by simpa using e)
  exact⟨v,by simpa using e1,q⟩
end L3
namespace L3
open PySem PySem.Spec PyProof.Rows L2
noncomputable abbrev St:=L2.St
structure Exc where
 cls:Str
 pay:PyData
inductive R(α:Type) where
 |ok (a:α)
 |exc (x:Exc) (Γ:Gv)
 |bad
noncomputable def R.bind{α β:Type}(r:R α)(f:α->R β):R β:=match r with
 |.ok a=>f a
 |.exc x Γ=>.exc x Γ
 |.bad=>.bad
noncomputable abbrev EM(α:Type):=Gv->R (α×Gv)
inductive FV where
 |dat (x:PyData)
 |own (i:Nat)
noncomputable def derf(Γ:Gv):FV->Option PyData
 |.dat x=>some x
 |.own i=>match Γ[i]? with
  |some (some o)=>some o.view
  |_=>none
noncomputable def derS(Γ:Gv):FV->Option PyData
 |.dat x=>some x
 |.own i=>match Γ[i]? with
  |some (some (.d x))=>some x
  |_=>none
noncomputable def leaves:List OV->Option (List PyData)
 |[]=>some []
 |.d x::r=>(leaves r).map (x::·)
 |.l _::_=>none
theorem zbG(xs:List PyData):leaves (xs.map .d)=some xs:=by
 induction xs with
 |nil=>rfl
 |cons x r ih=>simp[leaves,ih]
noncomputable def derL(Γ:Gv):FV->Option (List PyData)
 |.dat (.list xs)=>some xs
 |.own i=>match Γ[i]? with
  |some (some (.l xs))=>leaves xs
  |some (some (.d (.list xs)))=>some xs
  |_=>none
 |_=>none
noncomputable abbrev XPT:=Exc->Gv->Fp->Nu->St->Hp->Prop
noncomputable def Sees(mp:List Nat)(ν:Nu)(σ:St):Prop:=∀ (s i:Nat) (v:V),mp[s]?=some i->ν[i]?=some (some v)->σ[s]?=some (some v)
noncomputable def EPost{α:Type}(M0:Addr->Prop)(F:Fp)(ν:Nu)(σ:St)(H:Hp)(XP:XPT)(P:Fp->Gv->Hp->α->Prop)(r:R (α×Gv)):Prop:=match r with
 |.ok (a,Γ')=>∀ F' H',RS M0 F' Γ' ν H'->Stp F H F' H'->P F' Γ' H' a
 |.exc x Γ'=>∀ F' H',RS M0 F' Γ' ν H'->Stp F H F' H'->XP x Γ' F' ν σ H'
 |.bad=>False
section
variable {α β:Type} {M0:Addr->Prop} {F:Fp} {Γ:Gv} {ν:Nu} {σ:St} {H:Hp} {XP:XPT}
theorem EPost.mono{P P':Fp->Gv->Hp->α->Prop}{r:R (α×Gv)}(h:EPost M0 F ν σ H XP P r)(k:∀ F' Γ' H' a,RS M0 F' Γ' ν H'->Stp F H F' H'->P F' Γ' H' a->P' F' Γ' H' a):EPost M0 F ν σ H XP P' r:=by
 cases r with
 |ok a=>exact fun F' H' rs s=>k F' _ H' _ rs s (h F' H' rs s)
 |exc x Γ'=>exact h
 |bad=>exact h
theorem EPost.seq{P:Fp->Gv->Hp->β->Prop}{r:R (α×Gv)}{k:α×Gv->R (β×Gv)}(h:EPost M0 F ν σ H XP P (r.bind k)) :
  EPost M0 F ν σ H XP (fun F1 Γ1 H1 a=>EPost M0 F1 ν σ H1 XP P (k (a,Γ1))) r:=by
 cases r with
 |ok a=>
  obtain⟨a,Γ1⟩:=a
  intro F1 H1 rs1 s1
  have h':EPost M0 F ν σ H XP P (k (a,Γ1)):=h
  revert h'
  generalize k (a,Γ1)=r2
  intro h'
  cases r2 with
  |ok b=>exact fun F' H' rs s=>h' F' H' rs (s1.trans s)
  |exc x Γ'=>exact fun F' H' rs s=>h' F' H' rs (s1.trans s)
  |bad=>exact h'
 |exc x Γ'=>exact h
 |bad=>exact h
theorem EPost.step{P:Fp->Gv->Hp->α->Prop}{r:R (α×Gv)}{F1:Fp}{H1:Hp}(h:EPost M0 F ν σ H XP P r)(s1:Stp F H F1 H1):EPost M0 F1 ν σ H1 XP P r:=by
 cases r with
 |ok b=>exact fun F' H' rs s=>h F' H' rs (s1.trans s)
 |exc x Γ'=>exact fun F' H' rs s=>h F' H' rs (s1.trans s)
 |bad=>exact h
end
noncomputable def FOk(M0:Addr->Prop)(F:Fp)(ν:Nu)(H:Hp)(v:V):FV->Prop
 |.dat x=>Rep (MM M0 F) H v x
 |.own i=>ν[i]?=some (some v)
section
variable {M0:Addr->Prop} {F F':Fp} {Γ:Gv} {ν:Nu} {H H':Hp} {v:V} {u:FV} {x:PyData}
theorem FOk.stp(h:FOk M0 F ν H v u)(s:Stp F H F' H')(h0:∀ a,M0 a->H a≠none):FOk M0 F' ν H' v u:=by
 cases u with
 |dat x=>exact zJ s h0 h
 |own i=>exact h
theorem FOk.weak(h:FOk M0 F ν H v u)(rs:RS M0 F Γ ν H)(e:derf Γ u=some x):Rep zE H v x:=by
 cases u with
 |dat y=>cases e;exact Rep.less (fun _ z _=>z.elim) h
 |own i=>
  dsimp only [derf]at e
  split at e
  ·rename_i o q
   cases e
   obtain⟨w,e1,r⟩:=rs.at' i o q
   have h':ν[i]?=some (some v):=h
   rw[h']at e1;cases e1
   exact r.weak
  ·cases e
theorem FOk.strong(h:FOk M0 F ν H v u)(rs:RS M0 F Γ ν H)(e:derS Γ u=some x):Rep (MM M0 F) H v x:=by
 cases u with
 |dat y=>cases e;exact h
 |own i=>
  dsimp only [derS]at e
  split at e
  ·rename_i y q
   cases e
   obtain⟨w,e1,r⟩:=rs.at' i _ q
   have h':ν[i]?=some (some v):=h
   rw[h']at e1;cases e1
   generalize F i=A at r
   cases r with
   |d r=>exact r
  ·cases e
theorem ORL.leaf{M:Addr->Prop}:∀ {vs:List V}{os:List OV}{A:List Addr}{ds:List PyData},ORL M H vs os A->leaves os=some ds->RepL M H vs ds/\A= []
 |_,_,_,_,.nil,e=>by cases e;exact⟨.nil,rfl⟩
 |_,_,_,_,.cons (x:=.d x) r t,e=>by
  unfold leaves at e
  rename_i vs xs A B
  cases q:leaves xs with
  |none=>rw[q]at e;cases e
  |some ys=>
   rw[q]at e;cases e
   obtain⟨h1,h2⟩:=ORL.leaf t q
   cases r with
   |d r=>exact⟨.cons r h1,by rw[h2];rfl⟩
 |_,_,_,_,.cons (x:=.l x) r t,e=>by cases e
theorem FOk.list{ds:List PyData}(h:FOk M0 F ν H v u)(rs:RS M0 F Γ ν H)(e:derL Γ u=some ds):∃ a vs,v=.ref a/\H a=some (.lst vs)/\RepL (MM M0 F) H vs ds:=by
 unfold derL at e
 split at e
 ·cases e
  obtain⟨a,vs,rfl,e1,_,r⟩:=Rep.lst_inv h
  exact⟨a,vs,rfl,e1,r⟩
 ·rename_i i
  have h':ν[i]?=some (some v):=h
  split at e
  ·rename_i q
   obtain⟨w,e1,r⟩:=rs.at' i _ q
   rw[h']at e1;cases e1
   generalize F i=A at r
   cases r with
   |l ea qa=>exact⟨_,_,rfl,ea,(ORL.leaf qa e).1⟩
  ·rename_i q
   cases e
   obtain⟨w,e1,r⟩:=rs.at' i _ q
   rw[h']at e1;cases e1
   generalize F i=A at r
   cases r with
   |d r=>
    obtain⟨a,vs,rfl,e1,_,r⟩:=Rep.lst_inv r
    exact⟨a,vs,rfl,e1,r⟩
  ·cases e
 ·cases e
end
noncomputable def SE(X:Cx)(XP:XPT)(mp:List Nat)(e:Expr)(f:EM FV):Prop:=∀ (M0:Addr->Prop) (F:Fp) (Γ:Gv) (ν:Nu) (σ:St) (H:Hp) (Q:VK),RS M0 F Γ ν H->Sees mp ν σ ->
 EPost M0 F ν σ H XP (fun F' Γ' H' u=>∀ v,FOk M0 F' ν H' v u->Q v H') (f Γ)->wpE X e σ H Q
noncomputable def SN(X:Cx)(XP:XPT)(mp:List Nat)(e:Expr)(f:EM (List PyData)):Prop:=∀ (M0:Addr->Prop) (F:Fp) (Γ:Gv) (ν:Nu) (σ:St) (H:Hp) (Q:VK),RS M0 F Γ ν H->Sees mp ν σ ->
 EPost M0 F ν σ H XP (fun F' Γ' H' ds=>∀ vs p,RepL (MM M0 F') H' vs ds->H' p=none->Q (.ref p) (upd H' p (.lst vs))) (f Γ)->wpE X e σ H Q
noncomputable def ST(X:Cx)(XP:XPT)(mp:List Nat)(e:Expr)(f:EM Bool):Prop:=∀ (M0:Addr->Prop) (F:Fp) (Γ:Gv) (ν:Nu) (σ:St) (H:Hp) (Q:Bool->Hp->Prop),RS M0 F Γ ν H->Sees mp ν σ ->
 EPost M0 F ν σ H XP (fun F' Γ' H' b=>Q b H') (f Γ)->wpT X e σ H Q
noncomputable def SW(X:Cx)(XP:XPT)(mp:List Nat)(e:Expr)(f:EM Bool):Prop:=∀ (M0:Addr->Prop) (F:Fp) (Γ:Gv) (ν:Nu) (σ:St) (H:Hp) (Q:Bool->Hp->Prop),RS M0 F Γ ν H->Sees mp ν σ ->
 EPost M0 F ν σ H XP (fun F' Γ' H' b=>Q b H') (f Γ)->wpW X e σ H Q
section
variable {X:Cx} {XP:XPT} {mp:List Nat} {a b c e:Expr} {es:List Expr} {pos p p2:Pos} {fa fb fc:EM FV} {ta tb:EM Bool} {na nb:EM (List PyData)}
section
variable {β:Type} {M0:Addr->Prop} {F:Fp} {Γ:Gv} {ν:Nu} {σ:St} {H:Hp} {P:Fp->Gv->Hp->β->Prop}
theorem SE.run{Q:VK}{k:FV×Gv->R (β×Gv)}(ha:SE X XP mp a fa)(rs:RS M0 F Γ ν H)(hs:Sees mp ν σ)(h:EPost M0 F ν σ H XP P ((fa Γ).bind k))
  (kk:∀ F1 Γ1 H1 u v,RS M0 F1 Γ1 ν H1->Stp F H F1 H1->FOk M0 F1 ν H1 v u->EPost M0 F1 ν σ H1 XP P (k (u,Γ1))->Q v H1):wpE X a σ H Q :=
 ha M0 F Γ ν σ H Q rs hs (h.seq.mono fun F1 Γ1 H1 u rs1 s1 h1 v hv=>kk F1 Γ1 H1 u v rs1 s1 hv h1)
theorem SN.run{Q:VK}{k:List PyData×Gv->R (β×Gv)}(ha:SN X XP mp a na)(rs:RS M0 F Γ ν H)(hs:Sees mp ν σ)(h:EPost M0 F ν σ H XP P ((na Γ).bind k))
  (kk:∀ F1 Γ1 H1 ds vs p,RS M0 F1 Γ1 ν H1->Stp F H F1 H1->RepL (MM M0 F1) H1 vs ds->H1 p=none->EPost M0 F1 ν σ H1 XP P (k (ds,Γ1))->Q (.ref p) (upd H1 p (.lst vs))):wpE X a σ H Q :=
 ha M0 F Γ ν σ H Q rs hs (h.seq.mono fun F1 Γ1 H1 u rs1 s1 h1 vs p r n=>kk F1 Γ1 H1 u vs p rs1 s1 r n h1)
theorem ST.run{Q:Bool->Hp->Prop}{k:Bool×Gv->R (β×Gv)}(ha:ST X XP mp a ta)(rs:RS M0 F Γ ν H)(hs:Sees mp ν σ)(h:EPost M0 F ν σ H XP P ((ta Γ).bind k))
  (kk:∀ F1 Γ1 H1 u,RS M0 F1 Γ1 ν H1->Stp F H F1 H1->EPost M0 F1 ν σ H1 XP P (k (u,Γ1))->Q u H1):wpT X a σ H Q :=
 ha M0 F Γ ν σ H Q rs hs (h.seq.mono fun F1 Γ1 H1 u rs1 s1 h1=>kk F1 Γ1 H1 u rs1 s1 h1)
end
noncomputable def fNew(n:EM (List PyData)):EM FV:=fun Γ=>(n Γ).bind fun (ds,Γ1)=>.ok (.dat (.list ds),Γ1)
theorem SN.se(h:SN X XP mp a na):SE X XP mp a (fNew na):=fun M0 F Γ ν σ H Q rs hs hp=>
 h.run rs hs hp fun F1 Γ1 H1 ds vs p rs1 s1 r n h1=>by
  have s2:Same H1 (upd H1 p (.lst vs)):=zN n
  exact h1 F1 _ (rs1.same s2) (.same s2) _ (Rep.list zA (fun z=>rs1.al p z n) (r.grow s2.grow))
noncomputable def fVar(i:Nat):EM FV:=fun Γ=>match Γ[i]? with
 |some (some (.d x))=>.ok (.dat x,Γ)
 |some (some (.l _))=>.ok (.own i,Γ)
 |_=>.bad
theorem zgu {s i:Nat}{x:Str}(hN:X.N[s]?=some x) (hv:Vis X.env.scope x) (hm:mp[s]?=some i) (hd:(x==("__debug__" :Str))=false) (hcd:(x==("__classdict__" :Str))=false) :
  SE X XP mp (.Name x pos) (fVar i):=fun M0 F Γ ν σ H Q rs hs hp=>by
 unfold fVar at hp
 split at hp
 ·rename_i y q
  obtain⟨v,e1,r⟩:=rs.at' i _ q
  generalize hA:F i=A at r
  cases r with
  |d r=>exact (jT hN hv hd hcd).wp ⟨v,hs s i v hm e1,hp F H rs (.refl F H) v r⟩
 ·rename_i y q
  obtain⟨v,e1,r⟩:=rs.at' i _ q
  exact (jT hN hv hd hcd).wp ⟨v,hs s i v hm e1,hp F H rs (.refl F H) v e1⟩
 ·exact hp.elim
noncomputable def fFrz(i:Nat):EM FV:=fun Γ=>match Γ[i]? with
 |some (some o)=>.ok (.dat o.view,Γ.set i (some (.d o.view)))
 |_=>.bad
theorem zhn {s i:Nat}{x:Str}(hN:X.N[s]?=some x) (hv:Vis X.env.scope x) (hm:mp[s]?=some i) (hd:(x==("__debug__" :Str))=false) (hcd:(x==("__classdict__" :Str))=false) :
  SE X XP mp (.Name x pos) (fFrz i):=fun M0 F Γ ν σ H Q rs hs hp=>by
 unfold fFrz at hp
 split at hp
 ·rename_i o q
  obtain⟨F',v,e1,rs1,s1,r⟩:=rs.frz q
  exact (jT hN hv hd hcd).wp ⟨v,hs s i v hm e1,hp F' H rs1 s1 v r⟩
 ·exact hp.elim
noncomputable def fC(x:PyData):EM FV:=fun Γ=>.ok (.dat x,Γ)
theorem zfB{i j}:SE X XP mp (.Constant (.int i) j pos) (fC (.int i)):=fun M0 F Γ ν σ H Q rs hs hp=>pe_int.wp (hp F H rs (.refl F H) _ (Rep.int i))
theorem zdR{x j}:SE X XP mp (.Constant (.bool x) j pos) (fC (.bool x)):=fun M0 F Γ ν σ H Q rs hs hp=>pe_bl.wp (hp F H rs (.refl F H) _ (Rep.bool x))
theorem zdV{j}:SE X XP mp (.Constant .none j pos) (fC .none):=fun M0 F Γ ν σ H Q rs hs hp=>pe_non.wp (hp F H rs (.refl F H) _ Rep.none)
theorem zgd{x j}:SE X XP mp (.Constant (.str x) j pos) (fC (.str x)):=fun M0 F Γ ν σ H Q rs hs hp=>pe_str.wp (hp F H rs (.refl F H) _ (Rep.str x))
theorem zeT {x:Str}{i:Int}(hg:Gl X x) (hm:∃ t,X.mg x=some (.int i t)) (hd:(x==("__debug__" :Str))=false):SE X XP mp (.Name x pos) (fC (.int i)):=fun M0 F Γ ν σ H Q rs hs hp=>by
 obtain⟨t,hm⟩:=hm
 exact (zeF (v:=.int i) hg hm ⟨t,rfl⟩ hd).wp (hp F H rs (.refl F H) _ (Rep.int i))
noncomputable def OpS(X:Cx)(f:Value->Value->Sem Value)(g:PyData->PyData->Option PyData):Prop:=∀ x y z,g x y=some z->∃ r:R2,OpR X f r/\∀ (M:Addr->Prop) (H:Hp) (v u:V) (Q:VK),
 Al M H->Rep M H v x->Rep M H u y->(∀ w H',Same H H'->Rep M H' w z->Q w H')->r v u H Q
noncomputable def fBin(g:PyData->PyData->Option PyData)(fa fb:EM FV):EM FV:=fun Γ=>(fa Γ).bind fun (u,Γ1)=>(fb Γ1).bind fun (w,Γ2)=>match derS Γ2 u,derS Γ2 w with
 |some x,some y=>match g x y with
  |some z=>.ok (.dat z,Γ2)
  |none=>.bad
 |_,_=>.bad
theorem zfU{op:Operator}{g:PyData->PyData->Option PyData}(ho:OpS X (binaryOp op) g)(ha:SE X XP mp a fa)(hb:SE X XP mp b fb):SE X XP mp (.BinOp a op b pos) (fBin g fa fb):=fun M0 F Γ ν σ H Q rs hs hp=>by
 have key:∀ x y z,g x y=some z->∃ r:R2,OpR X (binaryOp op) r/\∀ (M:Addr->Prop) (H:Hp) (v u:V) (Q:VK),Al M H->Rep M H v x->Rep M H u y->(∀ w H',Same H H'->Rep M H' w z->Q w H')->r v u H Q:=ho
 refine (WU (r:=fun v u H Q=>∃ M x y z,g x y=some z/\Al M H/\Rep M H v x/\Rep M H u y/\∀ w H',Same H H'->Rep M H' w z->Q w H') ?_ zf zf).wp
  (ha.run rs hs hp fun F1 Γ1 H1 u v rs1 s1 o1 h1=>hb.run rs1 hs h1 fun F2 Γ2 H2 w v2 rs2 s2 o2 h2=>?_)
 ·rintro pins s σ H x y v u Q I rx ry ⟨M,dx,dy,dz,e,al,r1,r2,k⟩
  obtain⟨r,hr,hh⟩:=ho dx dy dz e
  exact hr pins s σ H x y v u Q I rx ry (hh M H x y Q al r1 r2 k)
 ·dsimp only at h2
  split at h2
  ·rename_i x y e1 e2
   split at h2
   ·rename_i z e3
    exact⟨MM M0 F2,x,y,z,e3,rs2.al,(o1.stp s2 rs1.al0).strong rs2 e1,o2.strong rs2 e2,fun w' H3 s3 r3=>h2 F2 H3 (rs2.same s3) (.same s3) w' r3⟩
   ·exact h2.elim
  ·exact h2.elim
noncomputable def yq(X:Cx)(op:CmpOp)(g:PyData->PyData->Option Bool):Prop:=∀ x y z,g x y=some z->∃ r:R2,OpR X (compareOp op) r/\∀ (H:Hp) (v u:V) (Q:VK),
 Rep zE H v x->Rep zE H u y->Q (.bl z) H->r v u H Q
noncomputable def fCmp(g:PyData->PyData->Option Bool)(fa fb:EM FV):EM Bool:=fun Γ=>(fa Γ).bind fun (u,Γ1)=>(fb Γ1).bind fun (w,Γ2)=>match derf Γ2 u,derf Γ2 w with
 |some x,some y=>match g x y with
  |some z=>.ok (z,Γ2)
  |none=>.bad
 |_,_=>.bad
noncomputable def fB(t:EM Bool):EM FV:=fun Γ=>(t Γ).bind fun (b,Γ1)=>.ok (.dat (.bool b),Γ1)
theorem Zz{op:CmpOp}{g:PyData->PyData->Option Bool}(ho:yq X op g):OpR X (compareOp op) (fun v u H Q=>∃ x y z,g x y=some z/\Rep zE H v x/\Rep zE H u y/\Q (.bl z) H):=by
 rintro pins s σ H x y v u Q I rx ry ⟨dx,dy,dz,e,r1,r2,k⟩
 obtain⟨r,hr,hh⟩:=ho dx dy dz e
 exact hr pins s σ H x y v u Q I rx ry (hh H x y Q r1 r2 k)
section
variable {M0:Addr->Prop} {F:Fp} {Γ:Gv} {ν:Nu} {σ:St} {H:Hp} {β:Type} {P:Fp->Gv->Hp->β->Prop}
theorem kY{g:PyData->PyData->Option Bool}{k:Bool×Gv->R (β×Gv)}{Q:VK}(ha:SE X XP mp a fa)(hb:SE X XP mp b fb)(rs:RS M0 F Γ ν H)(hs:Sees mp ν σ)(hp:EPost M0 F ν σ H XP P ((fCmp g fa fb Γ).bind k))
  (kk:∀ F2 Γ2 H2 z,RS M0 F2 Γ2 ν H2->Stp F H F2 H2->EPost M0 F2 ν σ H2 XP P (k (z,Γ2))->Q (.bl z) H2) :
  wpE X a σ H fun v H1=>wpE X b σ H1 fun u H2=>∃ x y z,g x y=some z/\Rep zE H2 v x/\Rep zE H2 u y/\Q (.bl z) H2:=by
 have hp':EPost M0 F ν σ H XP P ((fa Γ).bind fun (u,Γ1)=>(fb Γ1).bind fun (w,Γ2)=>(match derf Γ2 u,derf Γ2 w with
  |some x,some y=>match g x y with
   |some z=>R.ok (z,Γ2)
   |none=>.bad
  |_,_=>.bad).bind k):=by
  have e:((fCmp g fa fb Γ).bind k)=((fa Γ).bind fun (u,Γ1)=>(fb Γ1).bind fun (w,Γ2)=>(match derf Γ2 u,derf Γ2 w with
   |some x,some y=>match g x y with
    |some z=>R.ok (z,Γ2)
    |none=>.bad
   |_,_=>.bad).bind k):=by
   unfold fCmp
   cases fa Γ with
   |ok a=>
    obtain⟨a,Γ1⟩:=a
    simp only[R.bind]
    cases fb Γ1<;>rfl
   |exc x y=>rfl
   |bad=>rfl
  rw[<- e];exact hp
 refine ha.run rs hs hp' fun F1 Γ1 H1 u v rs1 s1 o1 h1=>hb.run rs1 hs h1 fun F2 Γ2 H2 w v2 rs2 s2 o2 h2=>?_
 dsimp only at h2
 split at h2
 ·rename_i x y e1 e2
  split at h2
  ·rename_i z e3
   exact⟨x,y,z,e3,(o1.stp s2 rs1.al0).weak rs2 e1,o2.weak rs2 e2,kk F2 Γ2 H2 z rs2 (s1.trans s2) h2⟩
  ·exact h2.elim
 ·exact h2.elim
end
theorem R.bind_ok{α:Type}(r:R α):r.bind .ok=r:=by cases r<;>rfl
theorem zgh{op:CmpOp}{g:PyData->PyData->Option Bool}(ho:yq X op g)(ha:SE X XP mp a fa)(hb:SE X XP mp b fb)(hm:behindInMarks op b=false):SE X XP mp (.Compare a [op] [b] pos) (fB (fCmp g fa fb)):=fun M0 F Γ ν σ H Q rs hs hp=>
 (zeo (Zz ho) zf zf hm).wp (kY ha hb rs hs hp fun F2 Γ2 H2 z rs2 s2 h2=>h2 F2 H2 rs2 (.refl _ _) _ (Rep.bool z))
theorem zgm{op:CmpOp}{g:PyData->PyData->Option Bool}(ho:yq X op g)(ha:SE X XP mp a fa)(hb:SE X XP mp b fb)(hm:behindInMarks op b=false):ST X XP mp (.Compare a [op] [b] pos) (fCmp g fa fb):=fun M0 F Γ ν σ H Q rs hs hp=>
 (zeV (Zz ho) zf zf hm).wp (kY (k:=.ok) (Q:=fun v H'=>∃ k,v=.bl k/\Q k H') ha hb rs hs (by rw[R.bind_ok];exact hp) fun F2 Γ2 H2 z rs2 s2 h2=>⟨z,rfl,h2 F2 H2 rs2 (.refl _ _)⟩)
end
end L3
namespace L3
open PySem PySem.Spec PyProof.Rows L2
noncomputable def truD:PyData->Option Bool
 |.none=>some false
 |.bool b=>some b
 |.int i=>some (i !=0)
 |.list xs=>some (!xs.isEmpty)
 |.tuple xs=>some (!xs.isEmpty)
 |_=>none
theorem V3{M:Addr->Prop}{H:Hp}{vs:List V}{ds:List PyData}(r:RepL M H vs ds):(!vs.isEmpty)= !ds.isEmpty:=by cases r<;>rfl
theorem kJ{K:PySem.W.Frag}{M:Addr->Prop}{H:Hp}{v:V}{x:PyData}{k:Bool}(r:Rep M H v x)(e:truD x=some k):zeG K v H k:=by
 cases r with
 |none=>cases e;rfl
 |bool b=>cases e;rfl
 |int i=>cases e;rfl
 |str x=>cases e
 |list ea n q=>cases e;exact .inl ⟨_,SqL.of ea,(V3 q).symm⟩
 |tuple ea q=>cases e;exact .inr (.inl ⟨_,SqT.of ea,(V3 q).symm⟩)
section
variable {X:Cx} {XP:XPT} {mp:List Nat} {a b c e:Expr} {es:List Expr} {pos p p2:Pos} {fa fb fc:EM FV} {ta tb:EM Bool} {na nb:EM (List PyData)}
noncomputable def fTru(fa:EM FV):EM Bool:=fun Γ=>(fa Γ).bind fun (u,Γ1)=>match (derf Γ1 u).bind truD with
 |some k=>.ok (k,Γ1)
 |none=>.bad
theorem zbq(ha:SE X XP mp a fa)(he:∀ whole,isTrue a X.env whole=(do let v<-whole;standAt a.pos;holding [v] (truthy v))):ST X XP mp a (fTru fa):=fun M0 F Γ ν σ H Q rs hs hp=>
 (za7 zf he).wp (ha.run rs hs hp fun F1 Γ1 H1 u v rs1 s1 o1 h1=>by
  dsimp only at h1
  split at h1
  ·rename_i k ek
   cases ex:derf Γ1 u with
   |none=>rw[ex]at ek;cases ek
   |some x=>
    rw[ex]at ek
    exact⟨k,kJ (o1.weak rs1 ex) ek,h1 F1 H1 rs1 (.refl _ _)⟩
  ·exact h1.elim)
noncomputable def fNotT(ta:EM Bool):EM Bool:=fun Γ=>(ta Γ).bind fun (b,Γ1)=>.ok (!b,Γ1)
theorem zgz(h:ST X XP mp a ta):ST X XP mp (.UnaryOp .Not a pos) (fNotT ta):=fun M0 F Γ ν σ H Q rs hs hp=>
 (zf7 qV).wp (h.run rs hs hp fun F1 Γ1 H1 b rs1 s1 h1=>h1 F1 H1 rs1 (.refl _ _))
theorem SW.st(h:SW X XP mp a ta):ST X XP mp a ta:=fun M0 F Γ ν σ H Q rs hs hp pins s I=>h M0 F Γ ν σ H Q rs hs hp _ pins s I
theorem zdB(h:ST X XP mp a ta):SW X XP mp (.BoolOp .And [a] pos) ta:=fun M0 F Γ ν σ H Q rs hs hp=>(zdn qV).wp (h M0 F Γ ν σ H Q rs hs hp)
theorem zeJ(h:ST X XP mp a ta):SW X XP mp (.BoolOp .Or [a] pos) ta:=fun M0 F Γ ν σ H Q rs hs hp=>(zgp qV).wp (h M0 F Γ ν σ H Q rs hs hp)
noncomputable def fAndT(ta tb:EM Bool):EM Bool:=fun Γ=>(ta Γ).bind fun (b,Γ1)=>if b then tb Γ1 else .ok (false,Γ1)
noncomputable def fOrT(ta tb:EM Bool):EM Bool:=fun Γ=>(ta Γ).bind fun (b,Γ1)=>if b then .ok (true,Γ1) else tb Γ1
theorem za4(ha:ST X XP mp a ta)(hb:SW X XP mp (.BoolOp .And (b::es) pos) tb):SW X XP mp (.BoolOp .And (a::b::es) pos) (fAndT ta tb):=fun M0 F Γ ν σ H Q rs hs hp=>
 (zgV qV kw).wp (ha.run rs hs hp fun F1 Γ1 H1 b rs1 s1 h1=>by
  cases b with
  |true=>exact Ve (hb M0 F1 Γ1 ν σ H1 Q rs1 hs h1)
  |false=>exact v9 (h1 F1 H1 rs1 (.refl _ _)))
theorem zfn(ha:ST X XP mp a ta)(hb:SW X XP mp (.BoolOp .Or (b::es) pos) tb):SW X XP mp (.BoolOp .Or (a::b::es) pos) (fOrT ta tb):=fun M0 F Γ ν σ H Q rs hs hp=>
 (zhz qV kw).wp (ha.run rs hs hp fun F1 Γ1 H1 b rs1 s1 h1=>by
  cases b with
  |true=>exact Ve (h1 F1 H1 rs1 (.refl _ _))
  |false=>exact v9 (hb M0 F1 Γ1 ν σ H1 Q rs1 hs h1))
noncomputable def fAndV(fa fb:EM FV):EM FV:=fun Γ=>(fa Γ).bind fun (u,Γ1)=>match derf Γ1 u with
 |some (.bool true)=>fb Γ1
 |some (.bool false)=>.ok (.dat (.bool false),Γ1)
 |_=>.bad
noncomputable def fOrV(fa fb:EM FV):EM FV:=fun Γ=>(fa Γ).bind fun (u,Γ1)=>match derf Γ1 u with
 |some (.bool true)=>.ok (.dat (.bool true),Γ1)
 |some (.bool false)=>fb Γ1
 |_=>.bad
theorem zbE{op}(h:SE X XP mp a fa):SE X XP mp (.BoolOp op [a] pos) fa:=fun M0 F Γ ν σ H Q rs hs hp=>(zfQ zf).wp (h M0 F Γ ν σ H Q rs hs hp)
theorem za2(ha:SE X XP mp a fa)(hb:SE X XP mp (.BoolOp .And (b::es) pos) fb):SE X XP mp (.BoolOp .And (a::b::es) pos) (fAndV fa fb):=fun M0 F Γ ν σ H Q rs hs hp=>
 (zgA zf zf).wp (ha.run rs hs hp fun F1 Γ1 H1 u v rs1 s1 o1 h1=>by
  dsimp only at h1
  split at h1
  ·rename_i ex
   cases o1.weak rs1 ex
   exact⟨true,rfl,Ve (hb M0 F1 Γ1 ν σ H1 Q rs1 hs h1)⟩
  ·rename_i ex
   cases o1.weak rs1 ex
   exact⟨false,rfl,v9 (h1 F1 H1 rs1 (.refl _ _) _ (Rep.bool false))⟩
  ·exact h1.elim)
theorem zfr(ha:SE X XP mp a fa)(hb:SE X XP mp (.BoolOp .Or (b::es) pos) fb):SE X XP mp (.BoolOp .Or (a::b::es) pos) (fOrV fa fb):=fun M0 F Γ ν σ H Q rs hs hp=>
 (zh2 zf zf).wp (ha.run rs hs hp fun F1 Γ1 H1 u v rs1 s1 o1 h1=>by
  dsimp only at h1
  split at h1
  ·rename_i ex
   cases o1.weak rs1 ex
   exact⟨true,rfl,Ve (h1 F1 H1 rs1 (.refl _ _) _ (Rep.bool true))⟩
  ·rename_i ex
   cases o1.weak rs1 ex
   exact⟨false,rfl,v9 (hb M0 F1 Γ1 ν σ H1 Q rs1 hs h1)⟩
  ·exact h1.elim)
theorem zdr:UnR X (unaryOp .Not) (fun x H Q=>∃ k,zeG X.K x H k/\Q (.bl (!k)) H):=by
 intro pins s σ H x v Q I rx h
 obtain⟨k,hk,q⟩:=h
 exact not_of (thn (zb1 pins s σ H x v _ I rx ⟨k,hk,q⟩) fun b s' ⟨H',I',q'⟩=>⟨.bl (!b),H',I',rfl,q'⟩)
theorem zg3(ha:SE X XP mp a fa):SE X XP mp (.UnaryOp .Not a pos) (fB (fNotT (fTru fa))):=fun M0 F Γ ν σ H Q rs hs hp=>by
 refine (zfe zdr zf).wp (ha.run (k:=fun (u,Γ1)=>match (derf Γ1 u).bind truD with
  |some k=>R.ok (FV.dat (.bool (!k)),Γ1)
  |none=>.bad) (P:=fun F' Γ' H' u=>∀ (v:V),FOk M0 F' ν H' v u->Q v H') rs hs ?_ fun F1 Γ1 H1 u v rs1 s1 o1 h1=>?_)
 ·have e:fB (fNotT (fTru fa)) Γ=(fa Γ).bind fun (u,Γ1)=>match (derf Γ1 u).bind truD with
   |some k=>.ok (.dat (.bool (!k)),Γ1)
   |none=>.bad:=by
   unfold fB fNotT fTru
   cases fa Γ with
   |ok a=>
    obtain⟨u,Γ1⟩:=a
    simp only[R.bind]
    cases (derf Γ1 u).bind truD<;>rfl
   |exc x y=>rfl
   |bad=>rfl
  rw[<- e];exact hp
 ·dsimp only at h1
  split at h1
  ·rename_i k ek
   cases ex:derf Γ1 u with
   |none=>rw[ex]at ek;cases ek
   |some x=>
    rw[ex]at ek
    exact⟨k,kJ (o1.weak rs1 ex) ek,h1 F1 H1 rs1 (.refl _ _) _ (Rep.bool (!k))⟩
  ·exact h1.elim
noncomputable def fIf(t:EM Bool)(fa fb:EM FV):EM FV:=fun Γ=>(t Γ).bind fun (b,Γ1)=>if b then fa Γ1 else fb Γ1
theorem zhA(hc:ST X XP mp c ta)(ha:SE X XP mp a fa)(hb:SE X XP mp b fb):SE X XP mp (.IfExp c a b pos) (fIf ta fa fb):=fun M0 F Γ ν σ H Q rs hs hp=>
 (zdc qV zf zf).wp (hc.run rs hs hp fun F1 Γ1 H1 b rs1 s1 h1=>by
  cases b with
  |true=>exact Ve (ha M0 F1 Γ1 ν σ H1 Q rs1 hs h1)
  |false=>exact v9 (hb M0 F1 Γ1 ν σ H1 Q rs1 hs h1))
noncomputable def fChain(g g':PyData->PyData->Option Bool)(fa fb fc:EM FV):EM Bool:=fun Γ=>(fa Γ).bind fun (u,Γ1)=>(fb Γ1).bind fun (w,Γ2)=>match derf Γ2 u,derf Γ2 w with
 |some x,some y=>match g x y with
  |some true=>(fc Γ2).bind fun (t,Γ3)=>match derf Γ3 w,derf Γ3 t with
   |some y,some z=>match g' y z with
    |some k=>.ok (k,Γ3)
    |none=>.bad
   |_,_=>.bad
  |some false=>.ok (false,Γ2)
  |none=>.bad
 |_,_=>.bad
theorem R.bind_assoc{α β γ:Type}(r:R α)(f:α->R β)(g:β->R γ):(r.bind f).bind g=r.bind fun a=>(f a).bind g:=by cases r<;>rfl
section
variable {M0:Addr->Prop} {F:Fp} {Γ:Gv} {ν:Nu} {σ:St} {H:Hp} {β:Type} {P:Fp->Gv->Hp->β->Prop}
theorem W2{g g':PyData->PyData->Option Bool}{k:Bool×Gv->R (β×Gv)}{Q:VK}(ha:SE X XP mp a fa)(hb:SE X XP mp b fb)(hc:SE X XP mp c fc)(rs:RS M0 F Γ ν H)(hs:Sees mp ν σ)(hp:EPost M0 F ν σ H XP P ((fChain g g' fa fb fc Γ).bind k))
  (kk:∀ F2 Γ2 H2 z,RS M0 F2 Γ2 ν H2->EPost M0 F2 ν σ H2 XP P (k (z,Γ2))->Q (.bl z) H2) :
  YT (fun v u H Q=>∃ x y z,g x y=some z/\Rep zE H v x/\Rep zE H u y/\Q (.bl z) H) (fun v u H Q=>∃ x y z,g' x y=some z/\Rep zE H v x/\Rep zE H u y/\Q (.bl z) H) (wpE X a) (wpE X b) (wpE X c) σ H Q:=by
 unfold fChain at hp
 rw[R.bind_assoc]at hp
 refine ha.run rs hs hp fun F1 Γ1 H1 u v rs1 s1 o1 h1=>?_
 dsimp only at h1
 rw[R.bind_assoc]at h1
 refine hb.run rs1 hs h1 fun F2 Γ2 H2 w v2 rs2 s2 o2 h2=>?_
 dsimp only at h2
 split at h2
 ·rename_i x y e1 e2
  split at h2
  ·rename_i e3
   refine⟨x,y,true,e3,(o1.stp s2 rs1.al0).weak rs2 e1,o2.weak rs2 e2,true,rfl,Ve ?_⟩
   rw[R.bind_assoc]at h2
   refine hc.run rs2 hs h2 fun F3 Γ3 H3 t v3 rs3 s3 o3 h3=>?_
   dsimp only at h3
   split at h3
   ·rename_i y' z e4 e5
    split at h3
    ·rename_i kz e6
     exact⟨y',z,kz,e6,(o2.stp s3 rs2.al0).weak rs3 e4,o3.weak rs3 e5,kk F3 Γ3 H3 kz rs3 h3⟩
    ·exact h3.elim
   ·exact h3.elim
  ·rename_i e3
   exact⟨x,y,false,e3,(o1.stp s2 rs1.al0).weak rs2 e1,o2.weak rs2 e2,false,rfl,v9 (kk F2 Γ2 H2 false rs2 h2)⟩
  ·exact h2.elim
 ·exact h2.elim
end
theorem zbc{op op':CmpOp}{g g':PyData->PyData->Option Bool}(ho:yq X op g)(ho':yq X op' g')(ha:SE X XP mp a fa)(hb:SE X XP mp b fb)(hc:SE X XP mp c fc)(hm:lastMarks [op,op'] [b,c]=false) :
  SE X XP mp (.Compare a [op,op'] [b,c] pos) (fB (fChain g g' fa fb fc)):=fun M0 F Γ ν σ H Q rs hs hp=>
 (zbB (Zz ho) (Zz ho') zf zf zf hm).wp (W2 ha hb hc rs hs hp fun F2 Γ2 H2 z rs2 h2=>h2 F2 H2 rs2 (.refl _ _) _ (Rep.bool z))
theorem zbJ{op op':CmpOp}{g g':PyData->PyData->Option Bool}(ho:yq X op g)(ho':yq X op' g')(ha:SE X XP mp a fa)(hb:SE X XP mp b fb)(hc:SE X XP mp c fc)(hm:lastMarks [op,op'] [b,c]=false) :
  ST X XP mp (.Compare a [op,op'] [b,c] pos) (fChain g g' fa fb fc):=fun M0 F Γ ν σ H Q rs hs hp=>
 (zcd (Zz ho) (Zz ho') zf zf zf hm).wp (W2 (k:=.ok) (Q:=fun v H'=>∃ k,v=.bl k/\Q k H') ha hb hc rs hs (by rw[R.bind_ok];exact hp) fun F2 Γ2 H2 z rs2 h2=>⟨z,rfl,h2 F2 H2 rs2 (.refl _ _)⟩)
inductive FOks(M0:Addr->Prop)(F:Fp)(ν:Nu)(H:Hp):List V->List FV->Prop
 |nil:FOks M0 F ν H [] []
 |cons {v:V} {vs:List V} {u:FV} {us:List FV}:FOk M0 F ν H v u->FOks M0 F ν H vs us->FOks M0 F ν H (v::vs) (u::us)
noncomputable def derSs(Γ:Gv):List FV->Option (List PyData)
 |[]=>some []
 |u::us=>match derS Γ u,derSs Γ us with
  |some x,some xs=>some (x::xs)
  |_,_=>none
theorem FOks.strong{M0:Addr->Prop}{F:Fp}{Γ:Gv}{ν:Nu}{H:Hp}(rs:RS M0 F Γ ν H):∀ {vs:List V}{us:List FV}{ds:List PyData},FOks M0 F ν H vs us->derSs Γ us=some ds->RepL (MM M0 F) H vs ds
 |_,_,_,.nil,e=>by cases e;exact .nil
 |_,_,_,.cons h t,e=>by
  unfold derSs at e
  split at e
  ·rename_i e1 e2
   cases e
   exact .cons (h.strong rs e1) (FOks.strong rs t e2)
  ·cases e
theorem FOks.length{M0:Addr->Prop}{F:Fp}{ν:Nu}{H:Hp}:∀ {vs:List V}{us:List FV},FOks M0 F ν H vs us->vs.length=us.length
 |_,_,.nil=>rfl
 |_,_,.cons _ t=>by rw[xk,xk,FOks.length t]
noncomputable def SL(X:Cx)(XP:XPT)(mp:List Nat)(es:List Expr)(f:EM (List FV)):Prop:=∀ (M0:Addr->Prop) (F:Fp) (Γ:Gv) (ν:Nu) (σ:St) (H:Hp) (Q:List V->Hp->Prop),RS M0 F Γ ν H->Sees mp ν σ ->
 EPost M0 F ν σ H XP (fun F' Γ' H' us=>∀ vs,FOks M0 F' ν H' vs us->Q vs H') (f Γ)->wpA X es σ H Q
theorem SL.run{β:Type}{M0:Addr->Prop}{F:Fp}{Γ:Gv}{ν:Nu}{σ:St}{H:Hp}{P:Fp->Gv->Hp->β->Prop}{fl:EM (List FV)}{Q:List V->Hp->Prop}{k:List FV×Gv->R (β×Gv)}(ha:SL X XP mp es fl)(rs:RS M0 F Γ ν H)(hs:Sees mp ν σ)(h:EPost M0 F ν σ H XP P ((fl Γ).bind k))
  (kk:∀ F1 Γ1 H1 us vs,RS M0 F1 Γ1 ν H1->Stp F H F1 H1->FOks M0 F1 ν H1 vs us->EPost M0 F1 ν σ H1 XP P (k (us,Γ1))->Q vs H1):wpA X es σ H Q :=
 ha M0 F Γ ν σ H Q rs hs (h.seq.mono fun F1 Γ1 H1 u rs1 s1 h1 v hv=>kk F1 Γ1 H1 u v rs1 s1 hv h1)
noncomputable def fNil:EM (List FV):=fun Γ=>.ok ([],Γ)
noncomputable def fCons(fa:EM FV)(fl:EM (List FV)):EM (List FV):=fun Γ=>(fa Γ).bind fun (u,Γ1)=>(fl Γ1).bind fun (us,Γ2)=>.ok (u::us,Γ2)
theorem zg4:SL X XP mp [] fNil:=fun M0 F Γ ν σ H Q rs hs hp=>pa_nil.wp (hp F H rs (.refl _ _) [] .nil)
theorem zei{fl:EM (List FV)}(ha:SE X XP mp a fa)(hl:SL X XP mp es fl)(hst:starEach (a::es) X.env=(false,eval a X.env)::starEach es X.env):SL X XP mp (a::es) (fCons fa fl):=fun M0 F Γ ν σ H Q rs hs hp=>
 (zy zf jl hst).wp (ha.run rs hs hp fun F1 Γ1 H1 u v rs1 s1 o1 h1=>hl.run rs1 hs h1 fun F2 Γ2 H2 us vs rs2 s2 o2 h2=>h2 F2 H2 rs2 (.refl _ _) _ (.cons (o1.stp s2 rs1.al0) o2))
theorem sz6{n:Nat}(h:n<=1000000):n<=sizeLine:=by have:=sizeLine_eq;omega
noncomputable def fTup(fl:EM (List FV)):EM FV:=fun Γ=>(fl Γ).bind fun (us,Γ1)=>match derSs Γ1 us with
 |some ds=>if us.length<=1000000 then .ok (.dat (.tuple ds),Γ1) else .bad
 |none=>.bad
noncomputable def fLst(fl:EM (List FV)):EM (List PyData):=fun Γ=>(fl Γ).bind fun (us,Γ1)=>match derSs Γ1 us with
 |some ds=>if us.length<=1000000 then .ok (ds,Γ1) else .bad
 |none=>.bad
theorem zfP{fl:EM (List FV)}{x1}(h:SL X XP mp es fl):SE X XP mp (.Tuple es x1 pos) (fTup fl):=fun M0 F Γ ν σ H Q rs hs hp=>
 (zfK jl).wp (h.run rs hs hp fun F1 Γ1 H1 us vs rs1 s1 o1 h1=>by
  dsimp only at h1
  split at h1
  ·rename_i ds e
   split at h1
   ·rename_i hz
    exact⟨by rw[o1.length];exact sz6 hz,fun p n=>h1 F1 _ (rs1.same (zN n)) (.same (zN n)) _ (Rep.tuple zA ((o1.strong rs1 e).grow (zN n).grow))⟩
   ·exact h1.elim
  ·exact h1.elim)
theorem zhb{fl:EM (List FV)}(h:SL X XP mp es fl):SN X XP mp (.List es pos) (fLst fl):=fun M0 F Γ ν σ H Q rs hs hp=>
 (zcP jl).wp (h.run rs hs hp fun F1 Γ1 H1 us vs rs1 s1 o1 h1=>by
  dsimp only at h1
  split at h1
  ·rename_i ds e
   split at h1
   ·rename_i hz
    exact⟨by rw[o1.length];exact sz6 hz,fun p n=>h1 F1 H1 rs1 (.refl _ _) vs p (o1.strong rs1 e) n⟩
   ·exact h1.elim
  ·exact h1.elim)
noncomputable def itemF(Γ:Gv)(u:FV)(i:Int):Option PyData:=match u with
 |.dat (.list xs)=>atI xs i
 |.dat (.tuple xs)=>atI xs i
 |.own k=>match Γ[k]? with
  |some (some (.l xs))=>match atI xs i with
   |some (.d x)=>some x
   |_=>none
  |some (some (.d (.list xs)))=>atI xs i
  |_=>none
 |_=>none
theorem zdw{α:Type}{xs:List α}{i:Int}{x:α}(h:atI xs i=some x):∃ j,ixN xs.length i=some j/\xs[j]?=some x:=by
 unfold atI at h
 cases e:ixN xs.length i with
 |none=>rw[e]at h;cases h
 |some j=>rw[e]at h;exact⟨j,rfl,h⟩
theorem zf3{α:Type}{xs:List α}{i:Int}{x:α}{j:Nat}(h:ixN xs.length i=some j)(h2:xs[j]?=some x):atI xs i=some x:=by
 unfold atI;rw[h];exact h2
theorem FOk.item{M0:Addr->Prop}{F:Fp}{Γ:Gv}{ν:Nu}{H:Hp}{v:V}{u:FV}{i:Int}{x:PyData}{K:PySem.W.Frag}(h:FOk M0 F ν H v u)(rs:RS M0 F Γ ν H)(e:itemF Γ u i=some x) :
  ∃ l vs w,v=.ref l/\(SqL K H l vs∨SqT K H l vs)/\atI vs i=some w/\Rep (MM M0 F) H w x:=by
 unfold itemF at e
 split at e
 ·obtain⟨a,vs,rfl,e1,_,r⟩:=Rep.lst_inv h
  obtain⟨w,ew,rw'⟩:=VT r e
  exact⟨a,vs,w,rfl,.inl (SqL.of e1),ew,rw'⟩
 ·obtain⟨a,vs,rfl,e1,r⟩:=Rep.tup_inv h
  obtain⟨w,ew,rw'⟩:=VT r e
  exact⟨a,vs,w,rfl,.inr (SqT.of e1),ew,rw'⟩
 ·rename_i k
  have h':ν[k]?=some (some v):=h
  split at e
  ·rename_i q
   split at e
   ·rename_i y eo
    cases e
    obtain⟨w,e1,r⟩:=rs.at' k _ q
    rw[h']at e1;cases e1
    generalize F k=A at r
    cases r with
    |l ea qa=>
     obtain⟨j,ej,exj⟩:=zdw eo
     obtain⟨w,ew,r⟩:=qa.get exj
     rw[<- qa.length]at ej
     exact⟨_,_,w,rfl,.inl (SqL.of ea),zf3 ej ew,r⟩
   ·cases e
  ·rename_i q
   obtain⟨w,e1,r⟩:=rs.at' k _ q
   rw[h']at e1;cases e1
   generalize F k=A at r
   cases r with
   |d r=>
    obtain⟨a,vs,rfl,e1,_,r⟩:=Rep.lst_inv r
    obtain⟨w,ew,rw'⟩:=VT r e
    exact⟨a,vs,w,rfl,.inl (SqL.of e1),ew,rw'⟩
  ·cases e
 ·cases e
noncomputable def fIx(fa fb:EM FV):EM FV:=fun Γ=>(fa Γ).bind fun (u,Γ1)=>(fb Γ1).bind fun (w,Γ2)=>match derf Γ2 w with
 |some (.int i)=>match itemF Γ2 u i with
  |some x=>.ok (.dat x,Γ2)
  |none=>.bad
 |_=>.bad
theorem zhQ(ha:SE X XP mp a fa)(hb:SE X XP mp b fb)(hx:vB b):SE X XP mp (.Subscript a b pos) (fIx fa fb):=fun M0 F Γ ν σ H Q rs hs hp=>
 (zh3 (ix_list.or zfW) zf zf hx).wp (ha.run rs hs hp fun F1 Γ1 H1 u v rs1 s1 o1 h1=>hb.run rs1 hs h1 fun F2 Γ2 H2 w v2 rs2 s2 o2 h2=>by
  dsimp only at h2
  split at h2
  ·rename_i i e1
   split at h2
   ·rename_i x e2
    obtain⟨l,vs,z,rfl,hq,ez,rz⟩:=(o1.stp s2 rs1.al0).item (K:=X.K) rs2 e2
    cases o2.weak rs2 e1
    rcases hq with hq | hq
    ·exact .inl ⟨l,vs,i,z,rfl,rfl,hq,ez,h2 F2 H2 rs2 (.refl _ _) z rz⟩
    ·exact .inr ⟨l,vs,i,z,rfl,rfl,hq,ez,h2 F2 H2 rs2 (.refl _ _) z rz⟩
   ·exact h2.elim
  ·exact h2.elim)
noncomputable def Kx{α:Type}(xs:List α)(lo hi:Option Int):List α:=(xs.drop (HT.sIx xs.length 0 lo)).take (HT.sIx xs.length xs.length hi-HT.sIx xs.length 0 lo)
theorem zdj{M:Addr->Prop}{H:Hp}{vs:List V}{ds:List PyData}(r:RepL M H vs ds)(lo hi:Option Int):RepL M H (Q1 vs lo hi) (Kx ds lo hi):=by
 unfold Q1 Kx
 rw[r.length]
 exact (r.drop _).take _
noncomputable def SOp(X:Cx)(XP:XPT)(mp:List Nat)(e:Option Expr)(f:EM (Option Int)):Prop:=∃ t:TO,PO X e t/\∀ (M0:Addr->Prop) (F:Fp) (Γ:Gv) (ν:Nu) (σ:St) (H:Hp) (Q:Option Int->Hp->Prop),RS M0 F Γ ν H->Sees mp ν σ ->
 EPost M0 F ν σ H XP (fun F' Γ' H' b=>Q b H') (f Γ)->t σ H Q
noncomputable def zhe:EM (Option Int):=fun Γ=>.ok (none,Γ)
noncomputable def zf8(fa:EM FV):EM (Option Int):=fun Γ=>(fa Γ).bind fun (u,Γ1)=>match derf Γ1 u with
 |some (.int i)=>.ok (some i,Γ1)
 |_=>.bad
theorem zd2:SOp X XP mp none zhe:=⟨_,Vo,fun M0 F Γ ν σ H Q rs hs hp=>hp F H rs (.refl _ _)⟩
theorem zdz(ha:SE X XP mp a fa):SOp X XP mp (some a) (zf8 fa):=⟨_,Vg zf,fun M0 F Γ ν σ H Q rs hs hp=>ha.run rs hs hp fun F1 Γ1 H1 u v rs1 s1 o1 h1=>by
 dsimp only at h1
 split at h1
 ·rename_i i e1
  cases o1.weak rs1 e1
  exact⟨i,rfl,h1 F1 H1 rs1 (.refl _ _)⟩
 ·exact h1.elim⟩
noncomputable def zgg(fa:EM FV)(fl fh:EM (Option Int)):EM (List PyData):=fun Γ=>(fa Γ).bind fun (u,Γ1)=>(fl Γ1).bind fun (lo,Γ2)=>(fh Γ2).bind fun (hi,Γ3)=>match derL Γ3 u with
 |some ds=>.ok (Kx ds lo hi,Γ3)
 |none=>.bad
theorem zg9{lo hi:Option Expr}{fl fh:EM (Option Int)}(ha:SE X XP mp a fa)(hl:SOp X XP mp lo fl)(hh:SOp X XP mp hi fh):SN X XP mp (.Subscript a (.Slice lo hi none p2) pos) (zgg fa fl fh):=fun M0 F Γ ν σ H Q rs hs hp=>by
 obtain⟨tl,pl,kl⟩:=hl
 obtain⟨th,ph,kh⟩:=hh
 refine (wM Vs zf pl ph).wp (ha.run rs hs hp fun F1 Γ1 H1 u v rs1 s1 o1 h1=>?_)
 refine kl M0 F1 Γ1 ν σ H1 _ rs1 hs (h1.seq.mono fun F2 Γ2 H2 lo rs2 s2 h2=>?_)
 refine kh M0 F2 Γ2 ν σ H2 _ rs2 hs (h2.seq.mono fun F3 Γ3 H3 hi rs3 s3 h3=>?_)
 dsimp only at h3
 split at h3
 ·rename_i ds e
  obtain⟨l,vs,rfl,el,rl⟩:=((o1.stp s2 rs1.al0).stp s3 rs2.al0).list rs3 e
  exact⟨l,vs,rfl,SqL.of el,fun p n=>h3 F3 H3 rs3 (.refl _ _) _ p (zdj rl lo hi) n⟩
 ·exact h3.elim
noncomputable def Y2(fa fb:EM FV):EM (List PyData):=fun Γ=>(fa Γ).bind fun (u,Γ1)=>(fb Γ1).bind fun (w,Γ2)=>match derL Γ2 u,derL Γ2 w with
 |some xs,some ys=>if xs.length+ys.length<=1000000 then .ok (xs++ys,Γ2) else .bad
 |_,_=>.bad
theorem zgN(ha:SE X XP mp a fa)(hb:SE X XP mp b fb):SN X XP mp (.BinOp a .Add b pos) (Y2 fa fb):=fun M0 F Γ ν σ H Q rs hs hp=>
 (WU zha zf zf).wp (ha.run rs hs hp fun F1 Γ1 H1 u v rs1 s1 o1 h1=>hb.run rs1 hs h1 fun F2 Γ2 H2 w v2 rs2 s2 o2 h2=>by
  dsimp only at h2
  split at h2
  ·rename_i xs ys e1 e2
   split at h2
   ·rename_i hz
    obtain⟨l,vs,rfl,el,rl⟩:=(o1.stp s2 rs1.al0).list rs2 e1
    obtain⟨l2,vs2,rfl,el2,rl2⟩:=o2.list rs2 e2
    exact⟨l,l2,vs,vs2,rfl,rfl,el,el2,by rw[rl.length,rl2.length];exact sz6 hz,fun p n=>h2 F2 H2 rs2 (.refl _ _) _ p (rl.append rl2) n⟩
   ·exact h2.elim
  ·exact h2.elim)
structure BiK(X:Cx)(x:Str)(val:Value):Prop where
 gl:Gl X x
 mg:X.mg x=none
 bt:bootBuiltins x=some val
 n:x≠ "__name__"
 d:(x==("__debug__" :Str))=false
noncomputable def lenD:PyData->Option Nat
 |.list xs=>some xs.length
 |.tuple xs=>some xs.length
 |_=>none
noncomputable def f1(g:PyData->Option PyData)(fa:EM FV):EM FV:=fun Γ=>(fa Γ).bind fun (u,Γ1)=>match (derf Γ1 u).bind g with
 |some y=>.ok (.dat y,Γ1)
 |none=>.bad
noncomputable def Wa(X:Cx)(f:Value)(g:PyData->Option PyData):Prop:=∀ x z,g x=some z->noL z=true/\∃ r,jn X f r/\∀ (H:Hp) (v:V) (Q:VK),
 Rep zE H v x->(∀ w,Rep zE H w z->Q w H)->r [v] H Q
theorem Ya{f:Value}{g:PyData->Option PyData}(ho:Wa X f g):jn X f (fun vs H Q=>∃ v x z,vs= [v]/\g x=some z/\Rep zE H v x/\∀ w,Rep zE H w z->Q w H):=by
 rintro pins s σ H xs us Q I r ⟨v,x,z,rfl,e,rv,k⟩
 obtain⟨_,r',hr,hh⟩:=ho x z e
 exact hr pins s σ H [v] us Q I r (hh H v Q rv k)
theorem zbp{M0:Addr->Prop}{F:Fp}{Γ:Gv}{ν:Nu}{σ:St}{H:Hp}{g:PyData->Option PyData}{Q:VK}(hz:∀ x z,g x=some z->noL z=true)(ha:SE X XP mp a fa)(rs:RS M0 F Γ ν H)(hs:Sees mp ν σ)(hst:starEach [a] X.env= [(false,eval a X.env)])
  (hp:EPost M0 F ν σ H XP (fun F' Γ' H' u=>∀ v,FOk M0 F' ν H' v u->Q v H') (f1 g fa Γ)):wpA X [a] σ H fun vs H1=>∃ v x z,vs= [v]/\g x=some z/\Rep zE H1 v x/\∀ w,Rep zE H1 w z->Q w H1 :=
 (zy zf pa_nil hst).wp (ha.run rs hs hp fun F1 Γ1 H1 u v rs1 s1 o1 h1=>by
  dsimp only at h1
  split at h1
  ·rename_i y ey
   cases ex:derf Γ1 u with
   |none=>rw[ex]at ey;cases ey
   |some x=>
    rw[ex]at ey
    exact⟨v,x,y,rfl,ey,o1.weak rs1 ex,fun w rw'=>h1 F1 H1 rs1 (.refl _ _) w (Rep.free (hz x y ey) rw')⟩
  ·exact h1.elim)
theorem zdl{x:Str}{id:String}{g:PyData->Option PyData}(ho:Wa X (.builtin id) g)(B:BiK X x (.builtin id))(ha:SE X XP mp a fa)(hst:starEach [a] X.env= [(false,eval a X.env)]):SE X XP mp (.Call (.Name x p) [a] [] pos) (f1 g fa):=fun M0 F Γ ν σ H Q rs hs hp=>
 (j8 (Ya ho) B.gl B.mg B.bt jl B.n B.d hst rfl).wp (zbp (fun x z e=>(ho x z e).1) ha rs hs hst hp)
theorem zhS{x:Str}{id:String}{g:PyData->Option PyData}(ho:Wa X (.type id) g)(B:BiK X x (.type id))(ha:SE X XP mp a fa)(hst:starEach [a] X.env= [(false,eval a X.env)]):SE X XP mp (.Call (.Name x p) [a] [] pos) (f1 g fa):=fun M0 F Γ ν σ H Q rs hs hp=>
 (ZC (Ya ho) B.gl B.mg B.bt jl B.n B.d hst rfl).wp (zbp (fun x z e=>(ho x z e).1) ha rs hs hst hp)
noncomputable def gLen(x:PyData):Option PyData:=(lenD x).map fun n=>.int n
theorem zhj:Wa X (.builtin "len") gLen:=fun x z e=>by
 cases x with
 |list xs=>cases e;exact⟨rfl,_,QK,fun H v Q r k=>by
   obtain⟨l,vs,rfl,el,_,rl⟩:=r.lst_inv
   exact⟨l,vs,rfl,.inl (SqL.of el),by rw[rl.length];exact k _ (.int _)⟩⟩
 |tuple xs=>cases e;exact⟨rfl,_,QK,fun H v Q r k=>by
   obtain⟨l,vs,rfl,el,rl⟩:=r.tup_inv
   exact⟨l,vs,rfl,.inr (SqT.of el),by rw[rl.length];exact k _ (.int _)⟩⟩
 |_=>cases e
noncomputable def gInt:PyData->Option PyData
 |.int i=>some (.int i)
 |.bool b=>some (.int (if b then 1 else 0))
 |_=>none
theorem zgZ:Wa X (.type "int") gInt:=fun x z e=>by
 cases x with
 |int i=>cases e;exact⟨rfl,_,WG,fun H v Q r k=>by cases r;exact .inl ⟨i,rfl,k _ (.int _)⟩⟩
 |bool b=>cases e;exact⟨rfl,_,WG,fun H v Q r k=>by cases r;exact .inr ⟨b,rfl,k _ (.int _)⟩⟩
 |_=>cases e
noncomputable def qg:List PyData->Option (List Bool)
 |[]=>some []
 |.bool b::r=>(qg r).map (b::·)
 |_=>none
theorem qf(bs:List Bool):qg (bs.map .bool)=some bs:=by
 induction bs with
 |nil=>rfl
 |cons b r ih=>simp[qg,ih]
theorem ZU:∀ {ds:List PyData}{bs:List Bool},qg ds=some bs->ds=bs.map .bool
 |[],bs,e=>by cases e;rfl
 |.bool b::r,bs,e=>by
  unfold qg at e
  cases q:qg r with
  |none=>rw[q]at e;cases e
  |some l=>rw[q]at e;cases e;rw[ZU q];rfl
 |.none::r,bs,e=>by cases e
 |.int _::r,bs,e=>by cases e
 |.str _::r,bs,e=>by cases e
 |.list _::r,bs,e=>by cases e
 |.tuple _::r,bs,e=>by cases e
 |.dict _::r,bs,e=>by cases e
noncomputable def gAll:PyData->Option PyData
 |.list xs=>(qg xs).map fun bs=>.bool (bs.all id)
 |_=>none
noncomputable def gAny:PyData->Option PyData
 |.list xs=>(qg xs).map fun bs=>.bool (bs.any id)
 |_=>none
theorem zgr (hc:X.calm=true):Wa X (.builtin "all") gAll:=fun x z e=>by
 cases x with
 |list xs=>
  dsimp only [gAll]at e
  cases q:qg xs with
  |none=>rw[q]at e;cases e
  |some bs=>
   rw[q]at e;cases e
   exact⟨rfl,_,K0 hc,fun H v Q r k=>by
    obtain⟨l,vs,rfl,el,_,rl⟩:=r.lst_inv
    rw[ZU q]at rl
    rw[rl.bls]at el
    exact⟨l,bs,rfl,SqL.of el,k _ (.bool _)⟩⟩
 |_=>cases e
theorem zf1 (hc:X.calm=true):Wa X (.builtin "any") gAny:=fun x z e=>by
 cases x with
 |list xs=>
  dsimp only [gAny]at e
  cases q:qg xs with
  |none=>rw[q]at e;cases e
  |some bs=>
   rw[q]at e;cases e
   exact⟨rfl,_,zaO hc,fun H v Q r k=>by
    obtain⟨l,vs,rfl,el,_,rl⟩:=r.lst_inv
    rw[ZU q]at rl
    rw[rl.bls]at el
    exact⟨l,bs,rfl,SqL.of el,k _ (.bool _)⟩⟩
 |_=>cases e
noncomputable def zx(Γ:Gv)(u:FV):Option (List PyData):=match u with
 |.dat (.tuple xs)=>some xs
 |u=>derL Γ u
theorem FOk.seq{M0:Addr->Prop}{F:Fp}{Γ:Gv}{ν:Nu}{H:Hp}{v:V}{u:FV}{ds:List PyData}{K:PySem.W.Frag}(h:FOk M0 F ν H v u)(rs:RS M0 F Γ ν H)(e:zx Γ u=some ds) :
  ∃ l vs,v=.ref l/\(SqL K H l vs∨SqT K H l vs)/\RepL (MM M0 F) H vs ds:=by
 unfold zx at e
 split at e
 ·cases e
  obtain⟨a,vs,rfl,e1,r⟩:=Rep.tup_inv h
  exact⟨a,vs,rfl,.inr (SqT.of e1),r⟩
 ·obtain⟨a,vs,rfl,e1,r⟩:=h.list rs e
  exact⟨a,vs,rfl,.inl (SqL.of e1),r⟩
noncomputable def fListC(fa:EM FV):EM (List PyData):=fun Γ=>(fa Γ).bind fun (u,Γ1)=>match zx Γ1 u with
 |some ds=>.ok (ds,Γ1)
 |none=>.bad
theorem zdP {x:Str}(B:BiK X x (.type "list")) (ha:SE X XP mp a fa) (hst:starEach [a] X.env= [(false,eval a X.env)]):SN X XP mp (.Call (.Name x p) [a] [] pos) (fListC fa):=fun M0 F Γ ν σ H Q rs hs hp=>
 (ZC Qb B.gl B.mg B.bt (zy zf pa_nil hst) B.n B.d hst rfl).wp (ha.run rs hs hp fun F1 Γ1 H1 u v rs1 s1 o1 h1=>by
  dsimp only at h1
  split at h1
  ·rename_i ds e
   obtain⟨l,vs,rfl,hq,r⟩:=o1.seq (K:=X.K) rs1 e
   exact⟨l,vs,rfl,hq,fun p n=>h1 F1 H1 rs1 (.refl _ _) vs p r n⟩
  ·exact h1.elim)
noncomputable def fTupC(fa:EM FV):EM FV:=fun Γ=>(fa Γ).bind fun (u,Γ1)=>match derL Γ1 u with
 |some ds=>.ok (.dat (.tuple ds),Γ1)
 |none=>.bad
theorem zby {x:Str}(B:BiK X x (.type "tuple")) (ha:SE X XP mp a fa) (hst:starEach [a] X.env= [(false,eval a X.env)]):SE X XP mp (.Call (.Name x p) [a] [] pos) (fTupC fa):=fun M0 F Γ ν σ H Q rs hs hp=>
 (ZC Wu B.gl B.mg B.bt (zy zf pa_nil hst) B.n B.d hst rfl).wp (ha.run rs hs hp fun F1 Γ1 H1 u v rs1 s1 o1 h1=>by
  dsimp only at h1
  split at h1
  ·rename_i ds e
   obtain⟨l,vs,rfl,el,r⟩:=o1.list rs1 e
   exact⟨l,vs,rfl,.inl ⟨SqL.of el,fun p n=>h1 F1 _ (rs1.same (zN n)) (.same (zN n)) _ (Rep.tuple zA (r.grow (zN n).grow))⟩⟩
  ·exact h1.elim)
noncomputable def isiB (a T:String):Option Bool:=if T= "int" ∨T= "bool" ∨T= "list" ∨T= "tuple" ∨T= "str" then some (a==T||(a== "bool" &&T== "int")) else none
theorem zgk{K:PySem.W.Frag}{x:PyData}{T:String}{k:Bool}(h:isiB (tyD x) T=some k):PySem.W.kitOne K (.type (tyD x)) (.type T)=some k:=by
 unfold isiB at h
 split at h
 ·rename_i hT
  cases h
  rcases hT with rfl | rfl | rfl | rfl | rfl<;>cases x<;>kernel_rfl
 ·cases h
noncomputable def fIsi(T:String)(fa:EM FV):EM FV:=fun Γ=>(fa Γ).bind fun (u,Γ1)=>match (derf Γ1 u).bind fun x=>isiB (tyD x) T with
 |some k=>.ok (.dat (.bool k),Γ1)
 |none=>.bad
theorem wY {x y:Str}{T:String}(B:BiK X x (.builtin "isinstance")) (BT:BiK X y (.type T)) (ha:SE X XP mp a fa) (hst:starEach [a,.Name y p2] X.env=(false,eval a X.env)::starEach [.Name y p2] X.env) :
  SE X XP mp (.Call (.Name x p) [a,.Name y p2] [] pos) (fIsi T fa):=fun M0 F Γ ν σ H Q rs hs hp=>
 (j8 zda B.gl B.mg B.bt (zy zf (zy (zdS (v:=.ty T) BT.gl BT.mg BT.bt rfl BT.n BT.d) pa_nil rfl) hst) B.n B.d hst rfl).wp (ha.run rs hs hp fun F1 Γ1 H1 u v rs1 s1 o1 h1=>by
  dsimp only at h1
  split at h1
  ·rename_i k ek
   cases ex:derf Γ1 u with
   |none=>rw[ex]at ek;cases ek
   |some z=>
    rw[ex]at ek
    exact⟨v,T,_,k,rfl,(o1.weak rs1 ex).ty,zgk ek,h1 F1 H1 rs1 (.refl _ _) _ (Rep.bool k)⟩
  ·exact h1.elim)
noncomputable def f2(g:PyData->PyData->Option PyData)(fa fb:EM FV):EM FV:=fun Γ=>(fa Γ).bind fun (u,Γ1)=>(fb Γ1).bind fun (w,Γ2)=>match derf Γ2 u,derf Γ2 w with
 |some x,some y=>match g x y with
  |some z=>.ok (.dat z,Γ2)
  |none=>.bad
 |_,_=>.bad
noncomputable def gMin:PyData->PyData->Option PyData
 |.int i,.int j=>some (.int (if j<i then j else i))
 |_,_=>none
noncomputable def gMax:PyData->PyData->Option PyData
 |.int i,.int j=>some (.int (if j>i then j else i))
 |_,_=>none
theorem zco{x y z:PyData}(h:gMin x y=some z):∃ i j,x=.int i/\y=.int j/\z=.int (if j<i then j else i):=by
 cases x<;>cases y<;>cases h
 exact⟨_,_,rfl,rfl,rfl⟩
theorem zbi{x y z:PyData}(h:gMax x y=some z):∃ i j,x=.int i/\y=.int j/\z=.int (if j>i then j else i):=by
 cases x<;>cases y<;>cases h
 exact⟨_,_,rfl,rfl,rfl⟩
theorem zeu {x:Str}(hc:X.calm=true) (B:BiK X x (.builtin "min")) (ha:SE X XP mp a fa) (hb:SE X XP mp b fb) (hst:starEach [a,b] X.env=(false,eval a X.env)::starEach [b] X.env) (hst2:starEach [b] X.env= [(false,eval b X.env)]) :
  SE X XP mp (.Call (.Name x p) [a,b] [] pos) (f2 gMin fa fb):=fun M0 F Γ ν σ H Q rs hs hp=>
 (j8 (K9 hc) B.gl B.mg B.bt (zy zf (zy zf pa_nil hst2) hst) B.n B.d hst (by rw[hst2];rfl)).wp (ha.run rs hs hp fun F1 Γ1 H1 u v rs1 s1 o1 h1=>hb.run rs1 hs h1 fun F2 Γ2 H2 w v2 rs2 s2 o2 h2=>by
  dsimp only at h2
  split at h2
  ·rename_i x y e1 e2
   split at h2
   ·rename_i z e3
    obtain⟨i,j,rfl,rfl,rfl⟩:=zco e3
    cases (o1.stp s2 rs1.al0).weak rs2 e1
    cases o2.weak rs2 e2
    exact⟨i,j,rfl,h2 F2 H2 rs2 (.refl _ _) _ (Rep.int _)⟩
   ·exact h2.elim
  ·exact h2.elim)
theorem zeN {x:Str}(hc:X.calm=true) (B:BiK X x (.builtin "max")) (ha:SE X XP mp a fa) (hb:SE X XP mp b fb) (hst:starEach [a,b] X.env=(false,eval a X.env)::starEach [b] X.env) (hst2:starEach [b] X.env= [(false,eval b X.env)]) :
  SE X XP mp (.Call (.Name x p) [a,b] [] pos) (f2 gMax fa fb):=fun M0 F Γ ν σ H Q rs hs hp=>
 (j8 (Ks hc) B.gl B.mg B.bt (zy zf (zy zf pa_nil hst2) hst) B.n B.d hst (by rw[hst2];rfl)).wp (ha.run rs hs hp fun F1 Γ1 H1 u v rs1 s1 o1 h1=>hb.run rs1 hs h1 fun F2 Γ2 H2 w v2 rs2 s2 o2 h2=>by
  dsimp only at h2
  split at h2
  ·rename_i x y e1 e2
   split at h2
   ·rename_i z e3
    obtain⟨i,j,rfl,rfl,rfl⟩:=zbi e3
    cases (o1.stp s2 rs1.al0).weak rs2 e1
    cases o2.weak rs2 e2
    exact⟨i,j,rfl,h2 F2 H2 rs2 (.refl _ _) _ (Rep.int _)⟩
   ·exact h2.elim
  ·exact h2.elim)
noncomputable def gNeg:PyData->Option PyData
 |.int i=>some (.int (-i))
 |_=>none
theorem zfG(ha:SE X XP mp a fa):SE X XP mp (.UnaryOp .USub a pos) (f1 gNeg fa):=fun M0 F Γ ν σ H Q rs hs hp=>
 (zfe zgG zf).wp (ha.run rs hs hp fun F1 Γ1 H1 u v rs1 s1 o1 h1=>by
  dsimp only at h1
  split at h1
  ·rename_i y ey
   cases ex:derf Γ1 u with
   |none=>rw[ex]at ey;cases ey
   |some x=>
    rw[ex]at ey
    cases x with
    |int i=>
     cases ey
     cases o1.weak rs1 ex
     exact⟨i,rfl,h1 F1 H1 rs1 (.refl _ _) _ (Rep.int _)⟩
    |_=>cases ey
  ·exact h1.elim)
open Classical in
noncomputable def binD(op:Operator)(x y:PyData):Option PyData:=match op,x,y with
 |.Add,.int i,.int j=>some (.int (i+j))
 |.Sub,.int i,.int j=>some (.int (i-j))
 |.Mult,.int i,.int j=>if (-(2 ^ 64)<i/\i<2 ^ 64)∨(-(2 ^ 64)<j/\j<2 ^ 64) then some (.int (i*j)) else none
 |.Mod,.int i,.int j=>if 0<j then some (.int (i % j)) else none
 |.FloorDiv,.int i,.int j=>if 0<j/\j<1073741824 then some (.int (i / j)) else none
 |.Pow,.int i,.int j=>if 0<=j/\j<=1000000/\i.natAbs<2 ^ 64 then some (.int (i ^ j.toNat)) else none
 |.LShift,.int i,.int j=>if 0<=j/\j<=1000000/\i.natAbs<2 ^ 64 then some (.int (i*2 ^ j.toNat)) else none
 |.RShift,.int i,.int j=>if 0<=j then some (.int (i / 2 ^ j.toNat)) else none
 |.BitAnd,.int i,.int j=>some (.int (Builtin.bitAnd i j))
 |.Add,.tuple a,.tuple b=>if a.length+b.length<=1000000 then some (.tuple (a++b)) else none
 |.Mult,.tuple a,.int n=>if 0<=n/\n<1000000/\a.length*n.toNat<=1000000 then some (.tuple (List.replicate n.toNat a).flatten) else none
 |_,_,_=>none
theorem ZE{op:Operator}{x y z:PyData}{i j k:Int}{C:Int->Int->Prop}{f:Int->Int->Int}(hc:C i j)(ho:OpR X (binaryOp op) (rI C fun i j=>.int (f i j))) :
  ∃ r:R2,OpR X (binaryOp op) r/\∀ (M:Addr->Prop) (H:Hp) (v u:V) (Q:VK),Al M H->Rep M H v (.int i)->Rep M H u (.int j)->(∀ w H',Same H H'->Rep M H' w (.int (f i j))->Q w H')->r v u H Q :=
 ⟨_,ho,fun M H v u Q _ r1 r2 k=>by cases r1;cases r2;exact⟨i,j,rfl,rfl,hc,k _ H (Same.refl H) (.int _)⟩⟩
theorem wG{op:Operator}{i j:Int}{f:Int->Int->Int}(ho:OpR X (binaryOp op) (rI0 fun i j=>.int (f i j))) :
  ∃ r:R2,OpR X (binaryOp op) r/\∀ (M:Addr->Prop) (H:Hp) (v u:V) (Q:VK),Al M H->Rep M H v (.int i)->Rep M H u (.int j)->(∀ w H',Same H H'->Rep M H' w (.int (f i j))->Q w H')->r v u H Q :=
 ⟨_,ho,fun M H v u Q _ r1 r2 k=>by cases r1;cases r2;exact⟨i,j,rfl,rfl,k _ H (Same.refl H) (.int _)⟩⟩
theorem zga(op:Operator):OpS X (binaryOp op) (binD op):=fun x y z e=>by
 unfold binD at e
 split at e
 ·cases e;exact wG Y0
 ·cases e;exact wG zgO
 ·split at e
  ·rename_i h;cases e;exact ZE (x:=.none) (y:=.none) (z:=.none) (k:=0) h zcG
  ·cases e
 ·split at e
  ·rename_i h;cases e;exact ZE (x:=.none) (y:=.none) (z:=.none) (k:=0) h zch
  ·cases e
 ·split at e
  ·rename_i h;cases e;exact ZE (x:=.none) (y:=.none) (z:=.none) (k:=0) h zdM
  ·cases e
 ·split at e
  ·rename_i h;cases e;exact ZE (x:=.none) (y:=.none) (z:=.none) (k:=0) h zgK
  ·cases e
 ·split at e
  ·rename_i h;cases e;exact ZE (x:=.none) (y:=.none) (z:=.none) (k:=0) h zfF
  ·cases e
 ·split at e
  ·rename_i h;cases e;exact ZE (x:=.none) (y:=.none) (z:=.none) (k:=0) (C:=fun _ j=>0<=j) h zg7
  ·cases e
 ·cases e;exact wG zgf
 ·split at e
  ·rename_i h
   cases e
   exact⟨_,zcs,fun M H v u Q _ q1 q2 k=>by
    obtain⟨l,vs,rfl,e,r⟩:=q1.tup_inv
    obtain⟨l2,vs2,rfl,e2,r2⟩:=q2.tup_inv
    refine⟨l,l2,vs,vs2,rfl,rfl,SqT.of e,SqT.of e2,by rw[r.length,r2.length];exact sz6 h,fun z=>k _ H (Same.refl H) ?_,fun z=>k _ H (Same.refl H) ?_,fun p np=>k _ _ (zN np) (.tuple zA ((r.append r2).grow (zN np).grow))⟩
    ·subst z
     cases r
     exact q2
    ·subst z
     cases r2
     rw[ud];exact q1⟩
  ·cases e
 ·split at e
  ·rename_i h
   cases e
   exact⟨_,zeR,fun M H v u Q _ q1 q2 k=>by
    obtain⟨l,vs,rfl,e,r⟩:=q1.tup_inv
    cases q2
    refine⟨l,_,vs,rfl,rfl,SqT.of e,by omega,by omega,by rw[r.length];exact sz6 h.2.2,fun hs=>k _ H (Same.refl H) ?_,fun p np=>k _ _ (zN np) (.tuple zA ((r.rep _).grow (zN np).grow))⟩
    rcases hs with z | z
    ·subst z
     cases r
     rename_i n _
     have:(List.replicate n.toNat ([]:List PyData)).flatten= []:=by simp
     rw[this];exact q1
    ·subst z
     have key:∀ l:List PyData,(List.replicate (1:Int).toNat l).flatten=l:=fun l=>by simp
     rw[key];exact q1⟩
  ·cases e
 ·cases e
noncomputable def lay:Nat->PyData->Bool
 |_,.none=>true
 |_,.bool _=>true
 |_,.int _=>true
 |_,.str x=>PyData.strOk x
 |n+1,.list xs=>xs.all (lay n)
 |n+1,.tuple xs=>xs.all (lay n)
 |_,_=>false
theorem Vf{n:Nat}(ih:∀ d,lay n d=true->d.canLay0=true/\d.depth<=n):∀ xs:List PyData,xs.all (lay n)=true->PyData.canLayAll0 xs=true/\PyData.depthAll xs<=n
 |[],_=>⟨rfl,ui _⟩
 |x::r,h=>by
  rw[uE,xa]at h
  obtain⟨a,b⟩:=ih x h.1
  obtain⟨c,d⟩:=Vf ih r h.2
  exact⟨by simp[PyData.canLayAll0,a,c],by simp only[PyData.depthAll];omega⟩
theorem qT:∀ (n:Nat) (d:PyData),lay n d=true->d.canLay0=true/\d.depth<=n
 |n,.none,_=>⟨rfl,ui _⟩
 |n,.bool _,_=>⟨rfl,ui _⟩
 |n,.int _,_=>⟨rfl,ui _⟩
 |n,.str _,h=>⟨by simpa [PyData.canLay0,lay] using h,ui _⟩
 |n+1,.list xs,h=>by
  obtain⟨a,b⟩:=Vf (qT n) xs (by simpa [lay] using h)
  exact⟨by simpa [PyData.canLay0] using a,by simp only[PyData.depth];omega⟩
 |n+1,.tuple xs,h=>by
  obtain⟨a,b⟩:=Vf (qT n) xs (by simpa [lay] using h)
  exact⟨by simpa [PyData.canLay0] using a,by simp only[PyData.depth];omega⟩
 |0,.list _,h=>by simp[lay]at h
 |0,.tuple _,h=>by simp[lay]at h
 |0,.dict _,h=>by simp[lay]at h
 |n+1,.dict _,h=>by simp[lay]at h
noncomputable def isN:PyData->Bool
 |.none=>true
 |_=>false
noncomputable def inD(x:PyData)(ys:List PyData):Bool:=ys.any fun y=>PyData.eqv y x
noncomputable def cmpD(op:CmpOp)(x y:PyData):Option Bool:=match op,x,y with
 |.Eq,x,y=>if lay 20 x&&lay 20 y then some (PyData.eqv x y) else none
 |.NotEq,x,y=>if lay 20 x&&lay 20 y then some (!PyData.eqv x y) else none
 |.Lt,.int i,.int j=>some (decide (i<j))
 |.LtE,.int i,.int j=>some (decide (i<=j))
 |.Gt,.int i,.int j=>some (decide (j<i))
 |.GtE,.int i,.int j=>some (decide (j<=i))
 |.In,x,.list ys=>if lay 20 x&&ys.all (lay 20) then some (inD x ys) else none
 |.In,x,.tuple ys=>if lay 20 x&&ys.all (lay 20) then some (inD x ys) else none
 |.NotIn,x,.list ys=>if lay 20 x&&ys.all (lay 20) then some (!inD x ys) else none
 |.NotIn,x,.tuple ys=>if lay 20 x&&ys.all (lay 20) then some (!inD x ys) else none
 |.Is,x,.none=>some (isN x)
 |.IsNot,x,.none=>some (!isN x)
 |_,_,_=>none
end
end L3
namespace L3
open PySem PySem.Spec PyProof.Rows L2
section
variable {X:Cx}
open Classical in
/-- is the value w equal to the data? -/
noncomputable def eqW(h:Heap)(dx:PyData)(w:Value):Bool:=if ∃ d as,Reads h w d as/\d.canLay0=true/\PyData.eqv d dx=true then true else false
theorem kc{h:Heap}{dx d:PyData}{w:Value}{as:List Addr}(r:Reads h w d as)(hl:d.canLay0=true):eqW h dx w=PyData.eqv d dx:=by
 unfold eqW
 cases e:PyData.eqv d dx with
 |true=>rw[if_pos ⟨d,as,r,hl,e⟩]
 |false=>
  rw[if_neg]
  rintro⟨d',as',r',hl',e'⟩
  have:=SeqAt.Reads.unique d d' w as as' hl r r'
  rw[<- this,e]at e';cases e'
theorem QH{h:Heap}{dx:PyData}:∀ {us:List Value}{ys:List PyData}{as:List Addr},ReadsAll h us ys as->ys.all (lay 20)=true->us.any (eqW h dx)=inD dx ys
 |_,_,_,.nil,_=>rfl
 |_,_,_,.cons r t,hl=>by
  rw[uE,xa]at hl
  unfold inD
  rw[uF,uF,kc r (qT 20 _ hl.1).1,QH t hl.2];rfl
theorem ZD{A:Around}{s:Shared}{dx:PyData}{v:Value}{bs:List Addr}(rx:Reads s.heap v dx bs)(hx:lay 20 dx=true)(hu:∀ n,n<=60->A.units+n<cLine):∀ {us:List Value}{ys:List PyData}{as:List Addr},ReadsAll s.heap us ys as->ys.all (lay 20)=true->∀ u∈us,SeqAt.EqAt A s u v (eqW s.heap dx u)
 |_,_,_,.nil,_=>fun u hu=>by cases hu
 |_,_,_,.cons (d:=d) r t,hl=>fun u' hu'=>by
  rw[uE,xa]at hl
  rcases xo.mp hu' with rfl | hu'
  ·rw[kc r (qT 20 _ hl.1).1]
   have h1:=qT 20 _ hl.1
   have h2:=qT 20 _ hx
   exact SeqAt.eqAt_reads _ _ _ _ _ _ _ _ r rx h1.1 h2.1 (hu _ (xM (Nat.min_le_left _ _) (by omega)))
  ·exact ZD rx hx hu t hl.2 u' hu'
noncomputable def zhK(K:PySem.W.Frag)(neg:Bool):R2:=fun x y H Q=>∃ M M' dx ys p vs,Rep M H x dx/\y=.ref p/\(SqL K H p vs∨SqT K H p vs)/\RepL M' H vs ys/\lay 20 dx=true/\ys.all (lay 20)=true/\Q (.bl (if neg then !inD dx ys else inD dx ys)) H
theorem zcj(hr:Room 1 X.A):OpR X (compareOp .In) (zhK X.K false):=by
 intro pins s σ H x y v u Q I rx ry h
 obtain⟨M,M',dx,ys,p,vs,r1,rfl,hq,r2,l1,l2,q⟩:=h
 cases ry
 obtain⟨bs,z1⟩:=r1.reads I.hok rx
 have hu:∀ n,n<=60->X.A.in1.units+n<cLine:=(hr.in1).u60
 rcases hq with hq | hq
 ·obtain⟨its,r,pl,hz⟩:=I.list hq
  obtain⟨as,z2⟩:=r2.reads I.hok r
  refine SeqAt.in_listAt (eqW s.heap dx) pl.isList (fun w hw=>ZD z1 l1 hu z2 l2 w (by simpa using hw)) ⟨.bl _,H,I,rfl,?_⟩
  rw[show its.toArray.any (eqW s.heap dx)=its.any (eqW s.heap dx) by simp,QH z2 l2]
  exact q
 ·obtain⟨its,r,pl,hz⟩:=I.tuple hq
  obtain⟨as,z2⟩:=r2.reads I.hok r
  refine SeqAt.in_tupleAt (eqW s.heap dx) pl (fun w hw=>ZD z1 l1 hu z2 l2 w (by simpa using hw)) ⟨.bl _,H,I,rfl,?_⟩
  rw[show its.toArray.any (eqW s.heap dx)=its.any (eqW s.heap dx) by simp,QH z2 l2]
  exact q
theorem W4(hr:Room 1 X.A):OpR X (compareOp .NotIn) (zhK X.K true):=by
 intro pins s σ H x y v u Q I rx ry h
 obtain⟨M,M',dx,ys,p,vs,r1,rfl,hq,r2,l1,l2,q⟩:=h
 cases ry
 obtain⟨bs,z1⟩:=r1.reads I.hok rx
 have hu:∀ n,n<=60->X.A.in1.units+n<cLine:=(hr.in1).u60
 rcases hq with hq | hq
 ·obtain⟨its,r,pl,hz⟩:=I.list hq
  obtain⟨as,z2⟩:=r2.reads I.hok r
  refine SeqAt.notIn_listAt (eqW s.heap dx) pl.isList (fun w hw=>ZD z1 l1 hu z2 l2 w (by simpa using hw)) ⟨.bl _,H,I,rfl,?_⟩
  rw[show its.toArray.any (eqW s.heap dx)=its.any (eqW s.heap dx) by simp,QH z2 l2]
  exact q
 ·obtain⟨its,r,pl,hz⟩:=I.tuple hq
  obtain⟨as,z2⟩:=r2.reads I.hok r
  refine SeqAt.notIn_tupleAt (eqW s.heap dx) pl (fun w hw=>ZD z1 l1 hu z2 l2 w (by simpa using hw)) ⟨.bl _,H,I,rfl,?_⟩
  rw[show its.toArray.any (eqW s.heap dx)=its.any (eqW s.heap dx) by simp,QH z2 l2]
  exact q
theorem Wk{M:Addr->Prop}{H:Hp}{v:V}{x:PyData}(r:Rep M H v x):decide (v=.non)=isN x:=by
 cases r<;>rfl
theorem Ja(hr:Room 1 X.A)(op:CmpOp):yq X op (cmpD op):=fun x y z e=>by
 have h60:∀ n,n<=60->X.A.units+n<cLine:=hr.u60
 unfold cmpD at e
 split at e
 ·split at e
  ·rename_i h
   cases e
   rw[xa]at h
   have h1:=qT 20 _ h.1
   have h2:=qT 20 _ h.2
   exact⟨_,zah h60,fun H v u Q r1 r2 k=>⟨_,_,_,_,r1,r2,h1.1,h2.1,xM (Nat.min_le_left _ _) (by omega),k⟩⟩
  ·cases e
 ·split at e
  ·rename_i h
   cases e
   rw[xa]at h
   have h1:=qT 20 _ h.1
   have h2:=qT 20 _ h.2
   exact⟨_,KR h60,fun H v u Q r1 r2 k=>⟨_,_,_,_,r1,r2,h1.1,h2.1,xM (Nat.min_le_left _ _) (by omega),k⟩⟩
  ·cases e
 ·cases e;exact⟨_,zh9,fun H v u Q r1 r2 k=>by cases r1;cases r2;exact⟨_,_,rfl,rfl,k⟩⟩
 ·cases e;exact⟨_,zhY,fun H v u Q r1 r2 k=>by cases r1;cases r2;exact⟨_,_,rfl,rfl,k⟩⟩
 ·cases e;exact⟨_,zh0,fun H v u Q r1 r2 k=>by cases r1;cases r2;exact⟨_,_,rfl,rfl,k⟩⟩
 ·cases e;exact⟨_,zib,fun H v u Q r1 r2 k=>by cases r1;cases r2;exact⟨_,_,rfl,rfl,k⟩⟩
 ·split at e
  ·rename_i h
   cases e
   rw[xa]at h
   exact⟨_,zcj hr,fun H v u Q r1 r2 k=>by
    obtain⟨l,vs,rfl,el,_,rl⟩:=r2.lst_inv
    exact⟨_,_,_,_,l,vs,r1,rfl,.inl (SqL.of el),rl,h.1,h.2,k⟩⟩
  ·cases e
 ·split at e
  ·rename_i h
   cases e
   rw[xa]at h
   exact⟨_,zcj hr,fun H v u Q r1 r2 k=>by
    obtain⟨l,vs,rfl,el,rl⟩:=r2.tup_inv
    exact⟨_,_,_,_,l,vs,r1,rfl,.inr (SqT.of el),rl,h.1,h.2,k⟩⟩
  ·cases e
 ·split at e
  ·rename_i h
   cases e
   rw[xa]at h
   exact⟨_,W4 hr,fun H v u Q r1 r2 k=>by
    obtain⟨l,vs,rfl,el,_,rl⟩:=r2.lst_inv
    exact⟨_,_,_,_,l,vs,r1,rfl,.inl (SqL.of el),rl,h.1,h.2,k⟩⟩
  ·cases e
 ·split at e
  ·rename_i h
   cases e
   rw[xa]at h
   exact⟨_,W4 hr,fun H v u Q r1 r2 k=>by
    obtain⟨l,vs,rfl,el,rl⟩:=r2.tup_inv
    exact⟨_,_,_,_,l,vs,r1,rfl,.inr (SqT.of el),rl,h.1,h.2,k⟩⟩
  ·cases e
 ·cases e
  exact⟨_,zfX,fun H v u Q r1 r2 k=>by cases r2;exact⟨rfl,by rw[Wk r1];exact k⟩⟩
 ·cases e
  exact⟨_,zep,fun H v u Q r1 r2 k=>by
   cases r2
   refine⟨rfl,?_⟩
   rw[Wk r1];exact k⟩
 ·cases e
end
mutual
inductive IT where
 |nm (s i:Nat)
 |tp (ts:ITs)
inductive ITs where
 |nil
 |cons (t:IT) (ts:ITs)
end
mutual
/-- what a store makes of the frame -/
noncomputable def tgF:IT->PyData->Gv->Option Gv
 |.nm _ i,x,Γ=>if i<Γ.length then some (Γ.set i (some (.d x))) else none
 |.tp ts,.tuple xs,Γ=>tgFs ts xs Γ
 |_,_,_=>none
noncomputable def tgFs:ITs->List PyData->Gv->Option Gv
 |.nil,[],Γ=>some Γ
 |.cons t ts,x::xs,Γ=>(tgF t x Γ).bind fun Γ=>tgFs ts xs Γ
 |_,_,_=>none
end
noncomputable def ITs.len:ITs->Nat
 |.nil=>0
 |.cons _ ts=>ts.len+1
theorem y9:∀ {ts:ITs}{ds:List PyData}{Γ Γ':Gv},tgFs ts ds Γ=some Γ'->ds.length=ts.len
 |.nil,[],_,_,_=>rfl
 |.nil,_::_,_,_,e=>by simp[tgFs]at e
 |.cons t ts,[],_,_,e=>by simp[tgFs]at e
 |.cons t ts,d::ds,Γ,Γ',e=>by
  rw[tgFs]at e
  cases q:tgF t d Γ with
  |none=>rw[q]at e;cases e
  |some Γ1=>rw[q]at e;rw[xk,y9 (ts:=ts) e];rfl
theorem Y7(t:IT):∀ (d:PyData) (Γ Γ':Gv),tgF t d Γ=some Γ'->Γ'.length=Γ.length:=by
 refine IT.rec (motive_1:=fun t=>∀ (d:PyData) (Γ Γ':Gv),tgF t d Γ=some Γ'->Γ'.length=Γ.length) (motive_2:=fun ts=>∀ (ds:List PyData) (Γ Γ':Gv),tgFs ts ds Γ=some Γ'->Γ'.length=Γ.length) ?_ ?_ ?_ ?_ t
 ·intro s i d Γ Γ' e
  rw[tgF]at e
  split at e
  ·cases e;simp
  ·cases e
 ·intro ts ih d Γ Γ' e
  cases d with
  |tuple xs=>rw[tgF]at e;exact ih _ _ _ e
  |_=>simp[tgF]at e
 ·intro ds Γ Γ' e
  cases ds with
  |nil=>simp[tgFs]at e;rw[e]
  |cons=>simp[tgFs]at e
 ·intro t ts ih1 ih2 ds Γ Γ' e
  cases ds with
  |nil=>simp[tgFs]at e
  |cons d ds=>
   rw[tgFs]at e
   cases q:tgF t d Γ with
   |none=>rw[q]at e;cases e
   |some Γ1=>rw[q]at e;rw[ih2 _ _ _ e,ih1 _ _ _ q]
noncomputable def SG(X:Cx)(mp:List Nat)(kp:Nat->Prop)(tg:Expr)(t:IT):Prop:=∀ (M0:Addr->Prop) (F:Fp) (Γ Γ':Gv) (ν:Nu) (σ:St) (H:Hp) (v:V) (d:PyData) (Q:St->Hp->Prop),RS M0 F Γ ν H->Sees mp ν σ->σ.length=X.N.length->Rep (MM M0 F) H v d ->
 tgF t d Γ=some Γ'->(∀ F' ν' σ',RS M0 F' Γ' ν' H->Stp F H F' H->Sees mp ν' σ'->σ'.length=X.N.length->(∀ i:Nat,kp i->ν'[i]?=ν[i]?)->(∀ s i:Nat,mp[s]?=some i->kp i->σ'[s]?=σ[s]?)->Q σ' H)->wpG X tg v σ H Q
noncomputable def SGs(X:Cx)(mp:List Nat)(kp:Nat->Prop)(tgs:List Expr)(ts:ITs):Prop:=∀ (M0:Addr->Prop) (F:Fp) (Γ Γ':Gv) (ν:Nu) (σ:St) (H:Hp) (vs:List V) (ds:List PyData) (Q:St->Hp->Prop),RS M0 F Γ ν H->Sees mp ν σ->σ.length=X.N.length->RepL (MM M0 F) H vs ds ->
 tgFs ts ds Γ=some Γ'->(∀ F' ν' σ',RS M0 F' Γ' ν' H->Stp F H F' H->Sees mp ν' σ'->σ'.length=X.N.length->(∀ i:Nat,kp i->ν'[i]?=ν[i]?)->(∀ s i:Nat,mp[s]?=some i->kp i->σ'[s]?=σ[s]?)->Q σ' H)->zg1 X tgs vs σ H Q
section
variable {X:Cx} {mp:List Nat} {kp:Nat->Prop} {tg:Expr} {tgs:List Expr} {t:IT} {ts:ITs} {pos:Pos}
theorem Sees.set{ν:Nu}{σ:St}{s i:Nat}{v:V}(h:Sees mp ν σ)(hn:mp.Nodup)(hm:mp[s]?=some i)(hs:s<σ.length):Sees mp (ν.set i (some v)) (σ.set s (some v)):=fun s' j w e1 e2=>by
 by_cases hj:i=j
 ·subst hj
  have:s'=s:=by
   have h1:=(xc.mp e1).1
   have h2:=(xc.mp hm).1
   exact (List.getElem?_inj h1 hn).mp (by rw[e1,hm])
  subst this
  rw[xt hs]
  by_cases hl:i<ν.length
  ·rw[xt hl]at e2;rw[e2]
  ·rw[xj (by simpa using hl)]at e2;cases e2
 ·rw[xv hj]at e2
  have:s'≠s:=fun z=>hj (by subst z;rw[hm]at e1;exact Option.some.inj e1)
  rw[xv (Ne.symm this)]
  exact h s' j w e1 e2
theorem zeH{s i:Nat}{x:Str}(hN:X.N.Nodup)(hn:mp.Nodup)(hi:X.N[s]?=some x)(hm:mp[s]?=some i)(hlo:¬ kp i)(hx:Loc X.env.scope x)(hf:X.fn x=true∨X.env.scope.names.lookup x=some .local):SG X mp kp (.Name x pos) (.nm s i) :=
 fun M0 F Γ Γ' ν σ H v d Q rs hs hl r e k=>by
  rw[tgF]at e
  split at e
  ·rename_i hi'
   cases e
   have hsl:s<σ.length:=by rw[hl];exact (xc.mp hi).1
   obtain⟨F',rs',s'⟩:=rs.setD r hi'
   refine (k7 hN hi hx hf).wp (k F' _ _ rs' s' (hs.set hn hm hsl) (by simpa using hl) (fun j hj=>?_) (fun s2 j e2 hj=>?_))
   ·rw[xv (fun z=>hlo (by rw[z];exact hj))]
   ·rw[xv]
    intro z
    subst z
    rw[hm]at e2
    cases e2
    exact hlo hj
  ·cases e
theorem zdQ:SGs X mp kp [] .nil:=fun M0 F Γ Γ' ν σ H vs ds Q rs hs hl r e k=>by
 cases r with
 |nil=>
  simp[tgFs]at e
  subst e
  exact pgs_nil.wp ⟨rfl,k F ν σ rs (.refl _ _) hs hl (fun _ _=>rfl) (fun _ _ _ _=>rfl)⟩
 |cons r rr=>simp[tgFs]at e
theorem zbW(h1:SG X mp kp tg t)(h2:SGs X mp kp tgs ts)(hst:(assignEach (tg::tgs) X.env).map (·.2)=assign tg X.env::(assignEach tgs X.env).map (·.2)):SGs X mp kp (tg::tgs) (.cons t ts):=fun M0 F Γ Γ' ν σ H vs ds Q rs hs hl r e k=>by
 cases r with
 |nil=>simp[tgFs]at e
 |cons r rr=>
  rename_i v vs d ds
  rw[tgFs]at e
  cases e1:tgF t d Γ with
  |none=>rw[e1]at e;cases e
  |some Γ1=>
   rw[e1]at e
   refine (zcc VJ Yc hst).wp ⟨v,vs,rfl,h1 M0 F Γ Γ1 ν σ H v d _ rs hs hl r e1 fun F1 ν1 σ1 rs1 s1 hs1 hl1 n1 m1=>?_⟩
   exact h2 M0 F1 Γ1 Γ' ν1 σ1 H vs ds _ rs1 hs1 hl1 (qj s1 rs.al0 rr) e fun F2 ν2 σ2 rs2 s2 hs2 hl2 n2 m2=>k F2 ν2 σ2 rs2 (s1.trans s2) hs2 hl2 (fun i hi=>(n2 i hi).trans (n1 i hi)) (fun s i e hi=>(m2 s i e hi).trans (m1 s i e hi))
theorem zhl{n:Nat}(hc:X.calm=true)(h:SGs X mp kp tgs ts)(hl:ts.len=(assignEach tgs X.env).length)(hst:(assignEach tgs X.env).findIdx? (·.1)=none):SG X mp kp (.Tuple tgs n pos) (.tp ts):=fun M0 F Γ Γ' ν σ H v d Q rs hs hl' r e k=>by
 cases d with
 |tuple ds=>
  rw[tgF]at e
  obtain⟨a,vs,rfl,ea,rr⟩:=r.tup_inv
  exact (zhi hc Yc rfl hst).wp ⟨a,vs,rfl,SqT.of ea,by rw[rr.length,y9 e,hl],h M0 F Γ Γ' ν σ H vs ds Q rs hs hl' rr e k⟩
 |_=>simp[tgF]at e
end
end L3
namespace L3
open PySem PySem.Spec PyProof.Rows L2
noncomputable def JI(M0:Addr->Prop)(F:Fp)(J:It)(ds:List PyData)(H1:Hp):Prop:=∀ (i:Nat) (F':Fp) (H':Hp),Stp F H1 F' H'->(∀ a,M0 a->H1 a≠none) ->
 (∀ d,ds[i]?=some d->J.go i H'/\∀ x H2,J.yld i H' x H2->Same H' H2/\Rep (MM M0 F') H2 x d)/\(ds.length<=i->J.stop i H')
noncomputable def SI(X:Cx)(XP:XPT)(mp:List Nat)(tg iter:Expr)(f:EM (List PyData)):Prop:=∀ (M0:Addr->Prop) (F:Fp) (Γ:Gv) (ν:Nu) (σ:St) (H:Hp) (R:It->Hp->Prop),RS M0 F Γ ν H->Sees mp ν σ ->
 EPost M0 F ν σ H XP (fun F' Γ' H' ds=>∀ J,JI M0 F' J ds H'->R J H') (f Γ)->wpI X tg iter σ H R
section
variable {X:Cx} {XP:XPT} {mp:List Nat} {a b c e tg iter elt:Expr} {es ifs:List Expr} {pos p p2:Pos} {fa fb fc:EM FV} {ta tb:EM Bool} {na nb:EM (List PyData)}
noncomputable def fSeqL(fa:EM FV):EM (List PyData):=fun Γ=>(fa Γ).bind fun (u,Γ1)=>match derS Γ1 u with
 |some (.list ds)=>.ok (ds,Γ1)
 |_=>.bad
noncomputable def fSeqT(fa:EM FV):EM (List PyData):=fun Γ=>(fa Γ).bind fun (u,Γ1)=>match derS Γ1 u with
 |some (.tuple ds)=>.ok (ds,Γ1)
 |_=>.bad
theorem zdE{M0:Addr->Prop}{F:Fp}{K:PySem.W.Frag}{H1:Hp}{l:Addr}{ds:List PyData}{vs:List V}(e:H1 l=some (.lst vs))(n:¬ MM M0 F l)(r:RepL (MM M0 F) H1 vs ds):JI M0 F (Itl K l) ds H1:=fun i F' H' s h0=>by
 have e':H' l=some (.lst vs):=(s.keep l _ e fun j hj=>n (.inr ⟨j,hj⟩)).1
 refine⟨fun d hd=>?_,fun hl=>⟨vs,SqL.of e',by rw[r.length];exact hl⟩⟩
 obtain⟨v,hv,rv⟩:=r.get' hd
 exact⟨⟨vs,v,SqL.of e',hv⟩,fun x H2 ⟨e2,y⟩=>by
  subst e2
  have:=y vs (SqL.of e')
  rw[hv]at this;cases this
  exact⟨Same.refl _,zJ s h0 rv⟩⟩
theorem zfy{M0:Addr->Prop}{F:Fp}{K:PySem.W.Frag}{H1:Hp}{l:Addr}{ds:List PyData}{vs:List V}(e:H1 l=some (.tup vs))(r:RepL (MM M0 F) H1 vs ds):JI M0 F (Itt K l) ds H1:=fun i F' H' s h0=>by
 have e':H' l=some (.tup vs):=s.tups l _ e
 refine⟨fun d hd=>?_,fun hl=>⟨vs,SqT.of e',by rw[r.length];exact hl⟩⟩
 obtain⟨v,hv,rv⟩:=r.get' hd
 exact⟨⟨vs,v,SqT.of e',hv⟩,fun x H2 ⟨e2,y⟩=>by
  subst e2
  have:=y vs (SqT.of e')
  rw[hv]at this;cases this
  exact⟨Same.refl _,zJ s h0 rv⟩⟩
theorem zdK(ha:SE X XP mp iter fa):SI X XP mp tg iter (fSeqL fa):=fun M0 F Γ ν σ H R rs hs hp=>
 (Kq zf).wp (ha.run rs hs hp fun F1 Γ1 H1 u v rs1 s1 o1 h1=>by
  dsimp only at h1
  split at h1
  ·rename_i ds eu
   obtain⟨l,vs,rfl,e,n,r⟩:=(o1.strong rs1 eu).lst_inv
   exact⟨l,rfl,⟨vs,SqL.of e⟩,h1 F1 H1 rs1 (.refl _ _) _ (zdE e n r)⟩
  ·exact h1.elim)
theorem zgt(ha:SE X XP mp iter fa):SI X XP mp tg iter (fSeqT fa):=fun M0 F Γ ν σ H R rs hs hp=>
 (zfJ zf).wp (ha.run rs hs hp fun F1 Γ1 H1 u v rs1 s1 o1 h1=>by
  dsimp only at h1
  split at h1
  ·rename_i ds eu
   obtain⟨l,vs,rfl,e,r⟩:=(o1.strong rs1 eu).tup_inv
   exact⟨l,rfl,⟨vs,SqT.of e⟩,h1 F1 H1 rs1 (.refl _ _) _ (zfy e r)⟩
  ·exact h1.elim)
noncomputable def fRange(fa:EM FV):EM (List PyData):=fun Γ=>(fa Γ).bind fun (u,Γ1)=>match derf Γ1 u with
 |some (.int n)=>if -1000000<=n/\n<=1000000 then .ok (zq n.toNat,Γ1) else .bad
 |_=>.bad
theorem zbr{M0:Addr->Prop}{F:Fp}(n:Nat)(H1:Hp):JI M0 F (Itr 0 n) (zq n) H1:=fun i F' H' s h0=>by
 refine⟨fun d hd=>?_,fun hl=>?_⟩
 ·obtain⟨hi,rfl⟩:=j4 hd
  exact⟨hi,fun x H2 ⟨e,y⟩=>by subst e y;exact⟨Same.refl _,by rw[show (0:Int)+(i:Int)=i by omega];exact .int _⟩⟩
 ·show n<=i
  simpa [zk] using hl
theorem zc0 {x:Str}(B:BiK X x (.type "range")) (ex:x= "range") (ha:SE X XP mp a fa) (hst:starEach [a] X.env= [(false,eval a X.env)]):SI X XP mp tg (.Call (.Name x p) [a] [] pos) (fRange fa):=fun M0 F Γ ν σ H R rs hs hp=>by
 subst ex
 exact (KU B.gl B.mg (zy zf pa_nil hst) hst).wp (ha.run rs hs hp fun F1 Γ1 H1 u v rs1 s1 o1 h1=>by
  dsimp only at h1
  split at h1
  ·rename_i n eu
   split at h1
   ·rename_i hn
    cases o1.weak rs1 eu
    exact⟨n,rfl,by omega,by omega,h1 F1 H1 rs1 (.refl _ _) _ (zbr n.toNat H1)⟩
   ·exact h1.elim
  ·exact h1.elim)
noncomputable def SF(X:Cx)(XP:XPT)(mp:List Nat)(ifs:List Expr)(f:EM Bool):Prop:=∀ (M0:Addr->Prop) (F:Fp) (Γ:Gv) (ν:Nu) (σ:St) (H:Hp) (Q:Bool->Hp->Prop),RS M0 F Γ ν H->Sees mp ν σ ->
 EPost M0 F ν σ H XP (fun F' Γ' H' b=>Q b H') (f Γ)->wpF X ifs σ H Q
noncomputable def fYes:EM Bool:=fun Γ=>.ok (true,Γ)
theorem zgJ:SF X XP mp [] fYes:=fun M0 F Γ ν σ H Q rs hs hp=>pf_nil.wp (hp F H rs (.refl _ _))
theorem zfH(h:ST X XP mp c ta):SF X XP mp [c] ta:=fun M0 F Γ ν σ H Q rs hs hp=>(zgb qV).wp (h M0 F Γ ν σ H Q rs hs hp)
noncomputable def qr(k:Nat)(t:IT)(cond:EM Bool)(elt:EM FV):List PyData->List PyData->Gv->R (List PyData×Gv)
 |[],ys,Γ=>.ok (ys,Γ)
 |d::ds,ys,Γ=>match tgF t d (Γ++List.replicate k none) with
  |none=>.bad
  |some Γ2=>match cond Γ2 with
   |.ok (true,Γ3)=>match elt Γ3 with
    |.ok (u,Γ4)=>match derS Γ4 u with
     |some y=>qr k t cond elt ds (ys++ [y]) (Γ4.take Γ.length)
     |none=>.bad
    |_=>.bad
   |.ok (false,Γ3)=>qr k t cond elt ds ys (Γ3.take Γ.length)
   |_=>.bad
noncomputable def fComp(n k:Nat)(t:IT)(src:EM (List PyData))(cond:EM Bool)(elt:EM FV):EM (List PyData):=fun Γ=>(src Γ).bind fun (ds,Γ1)=>if ds.length<=1000000/\Γ1.length=n then qr k t cond elt ds [] Γ1 else .bad
noncomputable abbrev XP0:XPT:=fun _ _ _ _ _ _=>False
noncomputable def mpC(mp:List Nat)(n k:Nat)(ix:List Nat):List Nat:=(List.range k).map (n+·)++ix.map fun i=>mp.getD i 0
theorem zfV{mp:List Nat}{n k:Nat}{ix:List Nat}{s:Nat}(h:s<k):(mpC mp n k ix)[s]?=some (n+s):=by
 unfold mpC
 rw[xf (by simpa using h),xh,xY h];rfl
theorem zcC{mp:List Nat}{n k:Nat}{ix:List Nat}{j:Nat}:(mpC mp n k ix)[k+j]?=(ix[j]?).map fun i=>mp.getD i 0:=by
 unfold mpC
 rw[xg (by simp),xh]
 simp
theorem ym{N':List Str}{scope:Scope}{n k:Nat}{ix:List Nat}{t:IT}{cond:EM Bool}{el:EM FV}{M0:Addr->Prop}{F1:Fp}{ν:Nu}{σ:St}{H1:Hp}{J:It}{ds:List PyData}{P:Fp->Gv->Hp->List PyData->Prop}{Γ1:Gv}{Q:List V->Hp->Prop}
  (hm:∀ j i:Nat,ix[j]?=some i->∃ m,mp[i]?=some m/\m<n) (hN':N'.length=k+ix.length)
  (hg:∀ cl C s2 H2 fp,SG (X.comp N' scope cl C s2 H2 fp) (mpC mp n k ix) (·<n) tg t) (hc:∀ cl C s2 H2 fp,SF (X.comp N' scope cl C s2 H2 fp) XP0 (mpC mp n k ix) ifs cond) (he:∀ cl C s2 H2 fp,SE (X.comp N' scope cl C s2 H2 fp) XP0 (mpC mp n k ix) elt el)
  (rs1:RS M0 F1 Γ1 ν H1) (hs:Sees mp ν σ) (hJ:JI M0 F1 J ds H1) (hd:ds.length<=1000000) (hn:Γ1.length=n) (hp:EPost M0 F1 ν σ H1 XP P (qr k t cond el ds [] Γ1))
  (fin:∀ F' Γ' H' ys vs,RS M0 F' Γ' ν H'->RepL (MM M0 F') H' vs ys->P F' Γ' H' ys->Q vs H') :
  zgL k ix (gU X N' scope tg) (fU X N' scope ifs) (eU X N' scope elt) σ J H1 Q:=by
 have hνn:ν.length=n:=by rw[rs1.len,hn]
 refine⟨fun i m vs H=>m=ds.length-i/\i<=ds.length/\∃ F' Γ' ys,RS M0 F' Γ' ν H/\Stp F1 H1 F' H/\RepL (MM M0 F') H vs ys/\Γ'.length=n/\ys.length<=i/\EPost M0 F' ν σ H XP P (qr k t cond el (ds.drop i) ys Γ'),⟨ds.length,by simp,ui _,F1,Γ1,[],rs1,.refl _ _,.nil,hn,xm _,hp⟩,?_⟩
 rintro i m vs H ⟨rfl,hil,F',Γ',ys,rs,st,rv,hln,hyl,hp⟩
 have hsz:=sizeLine_eq
 refine⟨by rw[rv.length];omega,?_⟩
 obtain⟨jgo,jst⟩:=hJ i F' H st rs1.al0
 by_cases hlt:i<ds.length
 ·obtain⟨go,yl⟩:=jgo ds[i] (by simp[hlt])
  refine .inr ⟨go,fun vs' H'=>∃ F'' Γ'' ys',RS M0 F'' Γ'' ν H'/\Stp F1 H1 F'' H'/\RepL (MM M0 F'') H' vs' ys'/\Γ''.length=n/\ys'.length<=i+1/\EPost M0 F'' ν σ H' XP P (qr k t cond el (ds.drop (i+1)) ys' Γ''),fun vs' H' h=>⟨ds.length-(i+1),by omega,rfl,hlt,h⟩,fun x H2 hy=>?_⟩
  obtain⟨s2,rx⟩:=yl x H2 hy
  rw[List.drop_eq_getElem_cons hlt,qr]at hp
  have rs2:=(rs.same s2).ext k
  have hcl:(cS k ix σ).length=N'.length:=by unfold cS;simp[hN']
  have hsee:Sees (mpC mp n k ix) (ν++List.replicate k none) (cS k ix σ):=fun s j v e1 e2=>by
   by_cases hsk:s<k
   ·rw[zfV hsk]at e1
    cases e1
    rw[xg (by omega),xQ]at e2
    split at e2<;>cases e2
   ·obtain⟨j',rfl⟩:∃ j',s=k+j':=⟨s-k,by omega⟩
    rw[zcC]at e1
    cases q:ix[j']? with
    |none=>rw[q]at e1;cases e1
    |some i0=>
     rw[q]at e1
     obtain⟨m,hm1,hm2⟩:=hm j' i0 q
     have:mp.getD i0 0=m:=by rw[List.getD_eq_getElem?_getD,hm1];rfl
     have ej:m=j:=by
      have e3:some (mp.getD i0 0)=some j:=e1
      rw[this]at e3;exact Option.some.inj e3
     subst ej
     rw[xf (by omega)]at e2
     exact zgR q (hs i0 m v hm1 e2)
  cases et:tgF t ds[i] (Γ'++List.replicate k none) with
  |none=>rw[et]at hp;exact hp.elim
  |some Γ2=>
   rw[et]at hp
   intro cl C s2' H2' fp
   refine hg cl C s2' H2' fp M0 F' _ Γ2 _ (cS k ix σ) H2 x ds[i] _ rs2 hsee hcl rx et fun F3 ν3 σ3 rs3 s3 hs3 hl3 n3 m3=>⟨?_,fun cl C s2' H2' fp=>?_⟩
   ·apply xU
    intro j
    rw[List.getElem?_drop,List.getElem?_drop]
    by_cases hj:j<ix.length
    ·obtain⟨m,hm1,hm2⟩:=hm j ix[j] (by simp[hj])
     refine m3 (k+j) m ?_ hm2
     rw[zcC,xb hj]
     show some (mp.getD ix[j] 0)=some m
     rw[List.getD_eq_getElem?_getD,hm1];rfl
    ·have hl3':σ3.length=N'.length:=hl3
     rw[xj (by omega),xj (by omega)]
   ·have stA:Stp F1 H1 F3 H2:=(st.trans (.same s2)).trans s3
    have back:∀ {F4:Fp} {Γ4:Gv} {H4:Hp},RS M0 F4 Γ4 ν3 H4->RS M0 (wB F4 n) (Γ4.take n) ν H4/\Stp F4 H4 (wB F4 n) H4:=fun {F4 Γ4 H4} r4=>by
     obtain⟨r5,s5⟩:=r4.cut n
     have:ν3.take n=ν:=by
      apply xU
      intro j
      by_cases hj:j<n
      ·rw[xX hj,n3 j hj,xf (by omega)]
      ·rw[xj (by rw[xW];omega),xj (by omega)]
     rw[this]at r5
     exact⟨r5,s5⟩
    have hlen3:Γ2.length=n+k:=by
     rw[Y7 _ _ _ _ et,xw,uG,hln]
    have lenOf:∀ {F4:Fp} {Γ4:Gv} {H4:Hp},RS M0 F4 Γ4 ν3 H4->(Γ4.take n).length=n:=fun {F4 Γ4 H4} r4=>by
     have h1:=r4.len
     have h2:=rs3.len
     rw[xW];omega
    refine hc cl C s2' H2' fp M0 F3 Γ2 ν3 σ3 H2 _ rs3 hs3 ?_
    dsimp only at hp
    cases ec:cond Γ2 with
    |bad=>rw[ec]at hp;exact hp.elim
    |exc xx yy=>rw[ec]at hp;exact hp.elim
    |ok z=>
     obtain⟨bb,Γ3⟩:=z
     rw[ec]at hp
     intro F4 H4 rs4 s4
     cases bb with
     |false=>
      refine v9 ?_
      obtain⟨r5,s5⟩:=back rs4
      have stB:=(stA.trans s4).trans s5
      rw[hln]at hp
      refine⟨_,_,ys,r5,stB,?_,lenOf rs4,by omega,?_⟩
      ·exact qj s5 rs4.al0 (qj s4 rs3.al0 (qj s3 (rs.same s2).al0 (rv.grow s2.grow)))
      ·exact hp.step ((((Stp.same s2).trans s3).trans s4).trans s5)
     |true=>
      refine Ve fun cl C s2' H2' fp=>?_
      refine he cl C s2' H2' fp M0 F4 Γ3 ν3 σ3 H4 _ rs4 hs3 ?_
      dsimp only at hp
      cases ee:el Γ3 with
      |bad=>rw[ee]at hp;exact hp.elim
      |exc xx yy=>rw[ee]at hp;exact hp.elim
      |ok z=>
       obtain⟨u,Γ4⟩:=z
       rw[ee]at hp
       intro F5 H5 rs5 s5 v hv
       dsimp only at hp
       cases ed:derS Γ4 u with
       |none=>rw[ed]at hp;exact hp.elim
       |some y=>
        rw[ed]at hp
        dsimp only at hp
        obtain⟨r6,s6⟩:=back rs5
        have stB:=((stA.trans s4).trans s5).trans s6
        rw[hln]at hp
        refine⟨_,_,ys++ [y],r6,stB,?_,lenOf rs5,by simp;omega,?_⟩
        ·refine RepL.append ?_ (.cons (zJ s6 rs5.al0 (hv.strong rs5 ed)) .nil)
         exact qj s6 rs5.al0 (qj s5 rs4.al0 (qj s4 rs3.al0 (qj s3 (rs.same s2).al0 (rv.grow s2.grow))))
        ·exact hp.step (((((Stp.same s2).trans s3).trans s4).trans s5).trans s6)
 ·have e:i=ds.length:=by omega
  subst e
  rw[List.drop_length,qr]at hp
  exact .inl ⟨jst (xm _),fin F' Γ' H ys vs rs rv (hp F' H rs (.refl _ _))⟩
noncomputable def SNt(XP:XPT)(mp:List Nat)(t:TE)(f:EM (List PyData)):Prop:=∀ (M0:Addr->Prop) (F:Fp) (Γ:Gv) (ν:Nu) (σ:St) (H:Hp) (Q:VK),RS M0 F Γ ν H->Sees mp ν σ ->
 EPost M0 F ν σ H XP (fun F' Γ' H' ds=>∀ vs p,RepL (MM M0 F') H' vs ds->H' p=none->Q (.ref p) (upd H' p (.lst vs))) (f Γ)->t σ H Q
theorem yL{N':List Str}{scope:Scope}{n k:Nat}{ix:List Nat}{t:IT}{src:EM (List PyData)}{cond:EM Bool}{el:EM FV}(S:CSc X.env.scope X.N scope N' k ix)(hm:∀ j i:Nat,ix[j]?=some i->∃ m,mp[i]?=some m/\m<n)
  (hi:SI X XP mp tg iter src) (hg:∀ cl C s2 H2 fp,SG (X.comp N' scope cl C s2 H2 fp) (mpC mp n k ix) (·<n) tg t) (hc:∀ cl C s2 H2 fp,SF (X.comp N' scope cl C s2 H2 fp) XP0 (mpC mp n k ix) ifs cond) (he:∀ cl C s2 H2 fp,SE (X.comp N' scope cl C s2 H2 fp) XP0 (mpC mp n k ix) elt el) :
  SNt XP mp (WN k ix (wpI X tg iter) (gU X N' scope tg) (fU X N' scope ifs) (eU X N' scope elt)) (fComp n k t src cond el):=fun M0 F Γ ν σ H Q rs hs hp=>by
 refine hi M0 F Γ ν σ H _ rs hs (hp.seq.mono fun F1 Γ1 H1 ds rs1 s1 h1 J hJ=>?_)
 dsimp only at h1
 split at h1
 ·rename_i hh
  exact ym hm S.len hg hc he rs1 hs hJ hh.1 hh.2 h1 fun F' Γ' H' ys vs rs' rv hP p hp'=>hP vs p rv hp'
 ·exact h1.elim
theorem zd5{N':List Str}{scope:Scope}{n k:Nat}{ix:List Nat}{t:IT}{src:EM (List PyData)}{cond:EM Bool}{el:EM FV}(hcalm:X.calm=true)(S:CSc X.env.scope X.N scope N' k ix)(hm:∀ j i:Nat,ix[j]?=some i->∃ m,mp[i]?=some m/\m<n)
  (hi:SI X XP mp tg iter src) (hg:∀ cl C s2 H2 fp,SG (X.comp N' scope cl C s2 H2 fp) (mpC mp n k ix) (·<n) tg t) (hc:∀ cl C s2 H2 fp,SF (X.comp N' scope cl C s2 H2 fp) XP0 (mpC mp n k ix) ifs cond) (he:∀ cl C s2 H2 fp,SE (X.comp N' scope cl C s2 H2 fp) XP0 (mpC mp n k ix) elt el)
  (hf:∀ x,foldedSetIterable iter X.env x=pure x):SN X XP mp (.ListComp elt [⟨tg,iter,ifs,0⟩] scope pos) (fComp n k t src cond el):=fun M0 F Γ ν σ H Q rs hs hp=>
 (za6 hcalm S hf).wp (yL S hm hi hg hc he M0 F Γ ν σ H Q rs hs hp)
end
end L3
namespace L2
open PySem PySem.Spec PyProof.Rows
section
variable {X:Cx} {pins:List (Addr×Obj)} {σ:List (Option V)} {H:Hp} {s:Shared} {h':Heap}
theorem Inv.turnedL{t':Nat}{ch:List Addr}(I:Inv X pins σ H s)(k:∀ b o,b∉ch->s.heap.get? b=some o->h'.get? b=some o)(there:∀ b o,b∈ch->s.heap.get? b=some o->∃ o',h'.get? b=some o')(hf:∀ b∈ch,Jn X pins H b):Inv X pins σ H { s with heap:=h',toks:=t' }:=by
 have nit:∀ b u,H b=some u->b∉ch:=fun b u e z=>by rw[(hf b z).1]at e;cases e
 refine I.step (g':=s.gens) (d':=s.drawn) (ch:=ch) (fun b hb=>?_) (fun b o _ _ hc e _=>k b o hc e) (fun b o _ _ hc e _=>⟨o.slots,k b o hc e⟩) (fun _ _ _ _ n=>n)
  (fun b o hc e=>⟨o,k b o hc e⟩) (fun _ _ e=>e) (fun _ _ _ e=>e) (fun b ps e=>⟨#[],by rw[e];simp⟩) (fun m hm=>?_) (fun b u e=>?_) I.bare
 ·obtain⟨f0,f1,f2,f3,f4,f5⟩:=hf b hb
  exact⟨f3,f1,f4,f5⟩
 ·obtain⟨o,es,ep,ho,r⟩:=hm
  exact⟨o,es,ep,k _ o (fun z=>(hf _ z).2.1 rfl) ho,r⟩
 ·refine (I.hok b u e).stay (fun c v hc q=>k c v ?_ q) (fun _ q=>q) fun _ _ q=>q
  rcases hc with z | z
  ·rw[z];exact nit b u e
  ·exact nit c _ z
end
noncomputable def Ite(K:PySem.W.Frag)(a:Addr):It :=
 ⟨fun i H=>∃ xs x,SqL K H a xs/\xs[i]?=some x,fun i H x H'=>∃ p y,H p=none/\H'=upd H p (.tup [.int i,y])/\x=.ref p/\∀ xs,SqL K H a xs->xs[i]?=some y,fun i H=>∃ xs,SqL K H a xs/\xs.length<=i⟩
theorem KJ{P:Program}{w:World}{K:PySem.W.Frag}{elts:List Expr}{x1:Nat}{pos:Pos}(a e it:Addr)(hei:e≠it):zaw P w K (.Tuple elts x1 pos) (Ite K a) [e,it] e (fun i h=>(∃ old,IsEnum h e it i old)/\h.IsListIter it a i) where
 mem:=by simp
 obj:=fun i h st b hb=>by
  obtain⟨⟨old,he⟩,hit⟩:=st
  rcases xo.mp hb with rfl | hb
  ·exact⟨_,he,fun v z=>by cases z⟩
  ·have eb:b=it:=by simpa using hb
   subst eb
   obtain⟨o,e,c,d⟩:=hit
   exact⟨o,e,fun v z=>by rw[d]at z;cases z⟩
 keep:=fun i h h' st k=>by
  obtain⟨⟨old,he⟩,hit⟩:=st
  exact⟨⟨old,k e (by simp) _ he⟩,hit.at fun o q=>k it (by simp) o q⟩
 item:=by
  intro X hP hw hK hc i pins s σ H E I hf st hg
  subst hP hw hK
  obtain⟨⟨old,he⟩,hit⟩:=st
  obtain⟨xs,x,hq,hx⟩:=hg
  obtain⟨its,rv,p,hz⟩:=I.list hq
  obtain⟨u,hu,ru⟩:=rv.get hx
  have helt:e<s.heap.objs.size:=Heap.lt_size he
  have hilt:it<s.heap.objs.size:=by obtain⟨_,q,_⟩:=hit;exact Heap.lt_size q
  refine wpAny_pyNext_enum_item he hit p.isList (x:=u) (by simpa using hu) hei fun h1 ho hit1 hT hsz hk=>⟨.ref s.heap.objs.size,rfl,wpAny_letOwnedTupleGo_enum ho fun h2 he2 hs2=>?_⟩
  have keep2:∀ b o,b≠e->b≠it->s.heap.get? b=some o->h2.get? b=some o:=fun b o h1' h2' q=>(hs2.2 b h1').trans (hk b o h1' h2' q)
  have hit2:h2.IsListIter it a (i+1):=hit1.at fun o q=>(hs2.2 it (Ne.symm hei)).trans q
  have I1:Inv X pins σ H { s with heap:=h2,toks:=s.toks+1 }:=I.turnedL (ch:= [e,it]) (fun b o hb q=>keep2 b o (fun z=>hb (by simp[z])) (fun z=>hb (by simp[z])) q) (fun b o hb q=>by
   rcases xo.mp hb with rfl | hb
   ·exact⟨_,he2⟩
   ·have eb:b=it:=by simpa using hb
    subst eb
    obtain⟨o',q',_⟩:=hit2
    exact⟨o',q'⟩) hf
  have hTn:H s.heap.objs.size=none:=I.hok.fresh (xm _)
  have hT2:h2.get? s.heap.objs.size=some { cls:=.type "tuple",data:=.seq #[.int i s.toks,u] }:=(hs2.2 _ (Nat.ne_of_gt helt)).trans hT
  have I2:Inv X pins σ (upd H s.heap.objs.size (.tup [.int i,x])) { s with heap:=h2,toks:=s.toks+1 }:=I1.track I.sz hTn (Ne.symm (xu I.lt)) (fun y c q=>by
    obtain⟨v,ob,hob,_⟩:=I.cell y c q
    exact xu (Heap.lt_size hob)) (fun q hq'=>xu (Heap.lt_size (I.pin q hq').1))
   ⟨by show 2<=sizeLine;decide,[.int i s.toks,u],.cons ⟨_,rfl⟩ (.cons ru .nil),⟨_,hT2,rfl,_,rfl⟩⟩
  refine⟨.ref s.heap.objs.size,_,I2,rfl,⟨_,x,hTn,rfl,rfl,fun ys hy=>by rw[I.list_inj hy hq];exact hx⟩,⟨⟨u,by simpa using he2⟩,hit2⟩,fun b hb=>?_⟩
  rw[zo]
  ·exact (hf b hb).1
  ·rcases xo.mp hb with rfl | hb
   ·exact xu helt
   ·have eb:b=it:=by simpa using hb
    subst eb;exact xu hilt
 done:=by
  intro X hP hw hK hc i pins s σ H E I hf st hg
  subst hP hw hK
  obtain⟨⟨old,he⟩,hit⟩:=st
  obtain⟨xs,hq,hx⟩:=hg
  obtain⟨its,rv,p,hz⟩:=I.list hq
  obtain⟨f0,f1,f2,f3,f4,f5⟩:=hf it (by simp)
  have hl:=rv.length
  exact wpAny_pyNext_enum_end (I.ok.hd hc) he hit p.isList (by simp;omega) fun h1 eb=>⟨rfl,I.turned (t':=s.toks) (fun b o hb q=>eb b o hb q) f0 f1 f3 f4 f5⟩
 self:=fun _ _ _ _ _ st h=>by
  obtain⟨⟨old,he⟩,_⟩:=st
  exact wpAny_pyIter_enum he h
theorem boot_enumW:bootBuiltins "enumerate" =some (.type "enumerate"):=by decide +kernel
section
variable {X:Cx}
noncomputable def zhP(K:PySem.W.Frag)(tl:TE):TI:=fun σ H R=>tl σ H fun x H1=>∃ a,x=.ref a/\(∃ xs,SqL K H1 a xs)/\R (Ite K a) H1
theorem zd9 {elts:List Expr}{x1:Nat}{pt:Pos}{l:Expr}{p pos:Pos}(hg:Gl X "enumerate") (hm:X.mg "enumerate" =none) (hst:starEach [l] X.env= [(false,eval l X.env)]) :
  PI X (.Tuple elts x1 pt) (.Call (.Name "enumerate" p) [l] [] pos) (zhP X.K (wpE X l)):=by
 intro pins s σ H R I h
 have h':Ko (wpE X l) zct σ H (fun vs H1=>∃ v,vs= [v]/\∃ a,v=.ref a/\(∃ xs,SqL X.K H1 a xs)/\R (Ite X.K a) H1):=wpE.mono h fun v H1 q=>⟨v,rfl,q⟩
 refine Call_ (jt I hg hm boot_enumW (PyProof.Rows.callWith_type1 (thn ((zy zf pa_nil hst) pos pins s σ H _ I h') fun us s1 ⟨vs,H1,I1,r1,q1⟩=>?_) hst rfl))
 obtain⟨v,rfl,a,rfl,⟨xs,hq⟩,q⟩:=q1
 obtain⟨u,rfl,ru⟩:=Zg r1
 cases ru
 obtain⟨its,rv,pl,hz⟩:=I1.list hq
 refine call_enumerate_list pl.isList fun h1 he hit hsz hk=>?_
 refine wpAny_pyIter_enum he ?_
 have I2:Inv X pins σ H1 { s1 with heap:=h1 }:=I1.kept (t':=s1.toks) hk
 refine⟨s1.heap.objs.size+1,[s1.heap.objs.size+1,s1.heap.objs.size],_,_,H1,rfl,I2,KJ a _ _ (Nat.succ_ne_self _),⟨⟨_,he⟩,hit⟩,fun b hb=>?_,q⟩
 rcases xo.mp hb with rfl | hb
 ·exact I1.fpOk (Nat.le_succ _) (I1.hok.fresh (Nat.le_succ _))
 ·have eb:b=s1.heap.objs.size:=by simpa using hb
  subst eb
  exact I1.fpOk (xm _) (I1.hok.fresh (xm _))
end
end L2
namespace L3
open PySem PySem.Spec PyProof.Rows L2
noncomputable def qx(ds:List PyData):List PyData:=ds.zipIdx.map fun p=>PyData.tuple [.int p.2,p.1]
theorem Jb{ds:List PyData}{i:Nat}{d:PyData}(h:(qx ds)[i]?=some d):∃ x,ds[i]?=some x/\d=.tuple [.int i,x]:=by
 unfold qx at h
 rw[xh,List.getElem?_zipIdx]at h
 cases e:ds[i]? with
 |none=>rw[e]at h;cases h
 |some x=>rw[e]at h;simp at h;exact⟨x,rfl,h.symm⟩
theorem qu(ds:List PyData):(qx ds).length=ds.length:=by simp[qx]
noncomputable def fEnum(fa:EM FV):EM (List PyData):=fun Γ=>(fa Γ).bind fun (u,Γ1)=>match derS Γ1 u with
 |some (.list ds)=>.ok (qx ds,Γ1)
 |_=>.bad
theorem zeP{M0:Addr->Prop}{F:Fp}{K:PySem.W.Frag}{H1:Hp}{l:Addr}{ds:List PyData}{vs:List V}(e:H1 l=some (.lst vs))(n:¬ MM M0 F l)(r:RepL (MM M0 F) H1 vs ds):JI M0 F (Ite K l) (qx ds) H1:=fun i F' H' s h0=>by
 have e':H' l=some (.lst vs):=(s.keep l _ e fun j hj=>n (.inr ⟨j,hj⟩)).1
 refine⟨fun d hd=>?_,fun hl=>⟨vs,SqL.of e',by rw[qu]at hl;rw[r.length];exact hl⟩⟩
 obtain⟨x,hx,rfl⟩:=Jb hd
 obtain⟨v,hv,rv⟩:=r.get' hx
 refine⟨⟨vs,v,SqL.of e',hv⟩,fun z H2 ⟨p,y,np,e2,ez,hy⟩=>?_⟩
 subst e2 ez
 have:=hy vs (SqL.of e')
 rw[hv]at this;cases this
 exact⟨zN np,.tuple zA (.cons (.int _) (.cons ((zJ s h0 rv).grow (zN np).grow) .nil))⟩
section
variable {X:Cx} {XP:XPT} {mp:List Nat} {a:Expr} {p pos:Pos} {fa:EM FV}
theorem zen {x:Str}{elts:List Expr}{x1:Nat}{pt:Pos}(B:BiK X x (.type "enumerate")) (ex:x= "enumerate") (ha:SE X XP mp a fa) (hst:starEach [a] X.env= [(false,eval a X.env)]):SI X XP mp (.Tuple elts x1 pt) (.Call (.Name x p) [a] [] pos) (fEnum fa):=fun M0 F Γ ν σ H R rs hs hp=>by
 subst ex
 exact (zd9 B.gl B.mg hst).wp (ha.run rs hs hp fun F1 Γ1 H1 u v rs1 s1 o1 h1=>by
  dsimp only at h1
  split at h1
  ·rename_i ds eu
   obtain⟨l,vs,rfl,e,n,r⟩:=(o1.strong rs1 eu).lst_inv
   exact⟨l,rfl,⟨vs,SqL.of e⟩,h1 F1 H1 rs1 (.refl _ _) _ (zeP e n r)⟩
  ·exact h1.elim)
end
end L3
set_option maxHeartbeats 4000000
namespace L2
open PySem PySem.Spec PyProof.Rows
noncomputable def Qk(ns:List Int):List Int:=ns.mergeSort fun a b=>decide (a<=b)
theorem w5(ns:List Int):(Qk ns).Perm ns:=List.mergeSort_perm _ _
theorem zbj(ns:List Int):(Qk ns).Pairwise (·<=·):=by
 have h:=List.pairwise_mergeSort (le:=fun a b:Int=>decide (a<=b)) (by intro a b c h1 h2;simp at *;omega) (by intro a b;simp;omega) ns
 exact h.imp fun {a b} h=>by simpa using h
theorem wN{ns ms:List Int}(hp:ms.Perm ns)(hs:ms.Pairwise (·<=·)):ms=Qk ns :=
 List.Perm.eq_of_pairwise (le:=fun a b:Int=>a<=b) (fun a b _ _ h1 h2=>Int.le_antisymm h1 h2) hs (zbj ns) (hp.trans (w5 ns).symm)
theorem Kw(ns:List Int):(Qk ns).length=ns.length:=(w5 ns).length_eq
theorem IntsAre.of:∀ {ns:List Int}{us:List Value},Vals (ns.map V.int) us->IntsAre us ns
 |[],_,.nil=>.nil
 |n::ns,_,.cons ⟨t,e⟩ r=>by subst e;exact .cons n t (IntsAre.of r)
theorem Vals.ofInts:∀ {us:List Value}{ns:List Int},IntsAre us ns->Vals (ns.map V.int) us
 |_,_,.nil=>.nil
 |_,_,.cons n t r=>.cons ⟨t,rfl⟩ (Vals.ofInts r)
section
variable {X:Cx}
theorem yo:jn X (.builtin "sorted") (fun xs H Q=>∃ p ns,xs= [.ref p]/\SqL X.K H p (List.map V.int ns)/\ns.length<64/\∀ l,H l=none->Q (.ref l) (upd H l (.lst ((Qk ns).map V.int)))):=by
 intro pins s σ H xs us Q I r h
 obtain⟨p,ns,rfl,hq,h64,q⟩:=h
 obtain⟨u,rfl,rx⟩:=Zg r
 cases rx
 obtain⟨its,r',pl,hz⟩:=I.list hq
 have hlen:=r'.length
 rw[xi]at hlen
 refine sorted_ints pl.isList (IntsAre.of r') (by omega) fun out ns' a1 a2 a3=>?_
 have e:=wN a2 a3
 subst e
 obtain⟨c',ec⟩:=sortedAll_at s.heap its out
 refine⟨.ref (s.heap.objs.size+1),_,I.laid (t':=s.toks) (fun b o e=>sortedAll_old e) (Nat.le_succ _) (show ObjOk X.prog X.w _ _ _ (.lst ((Qk ns).map V.int)) from ⟨?_,out.toList,c',Vals.ofInts a1,?_⟩),rfl,q _ (I.hok.fresh (Nat.le_succ _))⟩
 ·rw[xi,Kw]
  have:=sizeLine_eq
  omega
 ·simpa [seqObj] using ec
end
end L2
namespace L3
open PySem PySem.Spec PyProof.Rows L2
noncomputable def qk:List PyData->Option (List Int)
 |[]=>some []
 |.int b::r=>(qk r).map (b::·)
 |_=>none
theorem w6(ns:List Int):qk (ns.map .int)=some ns:=by
 induction ns with
 |nil=>rfl
 |cons b r ih=>simp[qk,ih]
theorem QZ:∀ {ds:List PyData}{ns:List Int},qk ds=some ns->ds=ns.map .int
 |[],bs,e=>by cases e;rfl
 |.int b::r,bs,e=>by
  unfold qk at e
  cases q:qk r with
  |none=>rw[q]at e;cases e
  |some l=>rw[q]at e;cases e;rw[QZ q];rfl
 |.none::r,bs,e=>by cases e
 |.bool _::r,bs,e=>by cases e
 |.str _::r,bs,e=>by cases e
 |.list _::r,bs,e=>by cases e
 |.tuple _::r,bs,e=>by cases e
 |.dict _::r,bs,e=>by cases e
noncomputable def wS(fa:EM FV):EM (List PyData):=fun Γ=>(fa Γ).bind fun (u,Γ1)=>match (derL Γ1 u).bind qk with
 |some ns=>if ns.length<64 then .ok ((Qk ns).map .int,Γ1) else .bad
 |none=>.bad
section
variable {X:Cx} {XP:XPT} {mp:List Nat} {a:Expr} {p pos:Pos} {fa:EM FV}
theorem zav {x:Str}(B:BiK X x (.builtin "sorted")) (ha:SE X XP mp a fa) (hst:starEach [a] X.env= [(false,eval a X.env)]):SN X XP mp (.Call (.Name x p) [a] [] pos) (wS fa):=fun M0 F Γ ν σ H Q rs hs hp=>
 (j8 yo B.gl B.mg B.bt (zy zf pa_nil hst) B.n B.d hst rfl).wp (ha.run rs hs hp fun F1 Γ1 H1 u v rs1 s1 o1 h1=>by
  dsimp only at h1
  split at h1
  ·rename_i ns e
   split at h1
   ·rename_i h64
    cases ed:derL Γ1 u with
    |none=>rw[ed]at e;cases e
    |some ds=>
     rw[ed]at e
     have eds:=QZ (by simpa using e:qk ds=some ns)
     subst eds
     obtain⟨l,vs,rfl,el,r⟩:=o1.list rs1 ed
     have ev:=RepL.intsInv r
     subst ev
     exact⟨l,ns,rfl,SqL.of el,h64,fun p n=>h1 F1 H1 rs1 (.refl _ _) _ p (RepL.ints _) n⟩
   ·exact h1.elim
  ·exact h1.elim)
end
end L3
set_option maxHeartbeats 4000000
namespace L3
open PySem PySem.Spec PyProof.Rows L2
section
variable {X:Cx} {XP:XPT} {mp:List Nat} {a b:Expr} {p p2 pos:Pos} {fa fb:EM FV}
noncomputable def ZR(x:PyData)(ys:List PyData):Nat:=ys.countP fun y=>PyData.eqv y x
theorem vm{h:Heap}{dx:PyData}:∀ {us:List Value}{ys:List PyData}{as:List Addr},ReadsAll h us ys as->ys.all (lay 20)=true->us.countP (eqW h dx)=ZR dx ys
 |_,_,_,.nil,_=>rfl
 |_,_,_,.cons r t,hl=>by
  rw[uE,xa]at hl
  unfold ZR
  rw[List.countP_cons,List.countP_cons,kc r (qT 20 _ hl.1).1,vm t hl.2];rfl
noncomputable def zgC(K:PySem.W.Frag):V->List V->Hp->VK->Prop:=fun x vs H Q=>∃ l xs y M M' dx ys,x=.ref l/\vs= [y]/\H l=some (.lst xs)/\RepL M' H xs ys/\Rep M H y dx/\lay 20 dx=true/\ys.all (lay 20)=true/\Q (.int (ZR dx ys)) H
theorem zaU (hr:Room 1 X.A):MtM X "list.count" (zgC X.K):=by
 intro pins s σ H x vs v us Q I rx rv h
 obtain⟨l,xs,y,M,M',dx,ys,rfl,rfl,hH,r2,r1,l1,l2,q⟩:=h
 cases rx
 obtain⟨u,rfl,ru⟩:=rv.one
 obtain⟨z,its,n,r,hl,e⟩:=I.lstM hH
 obtain⟨bs,z1⟩:=r1.reads I.hok ru
 obtain⟨as,z2⟩:=r2.reads I.hok r
 have hu:∀ n,n<=60->X.A.in1.units+n<cLine:=(hr.in1).u60
 refine call_meets F.slot_list_count ⟨_,e,rfl⟩ F.entry_list_count (F.args_list_count_2 _ _) (SeqAt.list_countAt l its.toArray n none #[] u (eqW s.heap dx)) ⟨e,fun w hw=>ZD z1 l1 hu z2 l2 w (by simpa using hw),?_⟩
 exact⟨.int (ZR dx ys),H,I.tok _,⟨s.toks,by rw[<- vm z2 l2]⟩,q⟩
noncomputable def vM(fa fb:EM FV):EM FV:=fun Γ=>(fa Γ).bind fun (u,Γ1)=>if (derL Γ1 u).isSome then (fb Γ1).bind fun (w,Γ2)=>match derL Γ2 u,derf Γ2 w with
 |some ys,some x=>if lay 20 x&&ys.all (lay 20) then .ok (.dat (.int (ZR x ys)),Γ2) else .bad
 |_,_=>.bad
 else .bad
theorem zde (hr:Room 1 X.A) (ha:SE X XP mp a fa) (hb:SE X XP mp b fb) (hbase:attributeBase a "count" X.env (eval a X.env)=eval a X.env) (hst:starEach [b] X.env= [(false,eval b X.env)]) (hline:(p2.endLine==pos.line)=true) :
  SE X XP mp (.Call (.Attribute a "count" p2) [b] [] pos) (vM fa fb):=fun M0 F Γ ν σ H Q rs hs hp=>by
 refine (zfi PySem.F.plainAttrs_list PySem.F.slot_list_count PySem.F.type_list_count (zaU hr) zf (zy zf pa_nil hst) hbase (by rw[hst];rfl) hline hst rfl).wp (ha.run rs hs hp fun F1 Γ1 H1 u v rs1 s1 o1 h1=>?_)
 dsimp only at h1
 split at h1
 ·rename_i hsome
  obtain⟨ds,eds⟩:=uI.mp hsome
  obtain⟨l,vs,rfl,el,rl⟩:=o1.list rs1 eds
  refine⟨.inl ⟨rfl,_,SqL.of el⟩,?_⟩
  refine hb.run rs1 hs h1 fun F2 Γ2 H2 w v2 rs2 s2 o2 h2=>?_
  dsimp only at h2
  split at h2
  ·rename_i ys x e1 e2
   split at h2
   ·rename_i hlay
    rw[xa]at hlay
    obtain⟨l',vs',e',el',rl'⟩:=(o1.stp s2 rs1.al0).list rs2 e1
    cases e'
    exact⟨l,vs',v2,_,_,x,ys,rfl,rfl,el',rl',o2.weak rs2 e2,hlay.1,hlay.2,h2 F2 H2 rs2 (.refl _ _) _ (Rep.int _)⟩
   ·exact h2.elim
  ·exact h2.elim
 ·exact h1.elim
end
end L3
set_option maxHeartbeats 4000000
namespace Tab
open PySem PySem.SetTable
noncomputable def stp(m i:Nat):Nat:=(i*5+1) % (m+1)
noncomputable def orb(m:Nat):Nat->Nat->List Nat
 |0,_=> []
 |n+1,i=>i::orb m n (stp m i)
noncomputable def JL(m:Nat):Prop:=∀ i,i<=m->∀ j,j<=m->j∈orb m (m+1) i
noncomputable def it(m:Nat):Nat->Nat->Nat
 |0,i=>i
 |n+1,i=>it m n (stp m i)
theorem Vx(m:Nat):∀ a b i,it m (a+b) i=it m b (it m a i)
 |0,b,i=>by rw[ue];rfl
 |a+1,b,i=>by rw[show a+1+b=(a+b)+1 by omega,it,Vx m a b,it]
theorem VO(m:Nat):∀ n i t,t<n->it m t i∈orb m n i
 |0,_,_,h=>by omega
 |n+1,i,0,_=>by simp[orb,it]
 |n+1,i,t+1,h=>by rw[orb,it];exact xl _ (VO m n (stp m i) t (by omega))
theorem kQ(m:Nat):∀ n i j,j∈orb m n i->∃ t,t<n/\it m t i=j
 |0,_,_,h=>by cases h
 |n+1,i,j,h=>by
  rcases xo.mp h with rfl | h
  ·exact⟨0,by omega,rfl⟩
  ·obtain⟨t,h1,h2⟩:=kQ m n _ j h
   exact⟨t+1,by omega,h2⟩
noncomputable def zfl(m:Nat):Bool:=decide (it m (m+1) 0=0)&&(List.range (m+1)).all fun j=>(orb m (m+1) 0).contains j
theorem Qi{m:Nat}(h:zfl m=true):JL m:=fun i hi j hj=>by
 unfold zfl at h
 rw[xa,decide_eq_true_eq,xA]at h
 obtain⟨hper,hall⟩:=h
 have hc:∀ x,x<=m->∃ t,t<m+1/\it m t 0=x:=fun x hx=>kQ m _ _ _ (by simpa using hall x (xE.mpr (by omega)))
 obtain⟨p,hp,ep⟩:=hc i hi
 obtain⟨q,hq,eq⟩:=hc j hj
 by_cases hpq:p<=q
 ·have:it m (q-p) i=j:=by rw[<- ep,<- Vx,show p+(q-p)=q by omega,eq]
  rw[<- this];exact VO m _ _ _ (by omega)
 ·have:it m (q+(m+1)-p) i=j:=by rw[<- ep,<- Vx,show p+(q+(m+1)-p)=(m+1)+q by omega,Vx,hper,eq]
  rw[<- this];exact VO m _ _ _ (by omega)
theorem zhq:JL 7:=Qi (by decide +kernel)
theorem zfE:JL 15:=Qi (by decide +kernel)
theorem zfC:JL 31:=Qi (by decide +kernel)
theorem zf4:JL 63:=Qi (by decide +kernel)
theorem zey:JL 127:=Qi (by decide +kernel)
theorem zaG(m i:Nat):i<=runEnd m i:=by unfold runEnd;split<;>omega
theorem ye{m:Nat}{owner:Array (Option Nat)}(hs:owner.size=m+1){i k:Nat}(h:(List.range (runEnd m i+1-i)).find? (fun k=>(owner.getD (i+k) (some 0)).isNone)=some k):i+k<=m/\owner.getD (i+k) (some 0)=none:=by
 have h1:=uL h
 have h2:owner.getD (i+k) (some 0)=none:=by simpa using h1
 refine⟨?_,h2⟩
 by_cases hb:i+k<owner.size
 ·omega
 ·rw[ua,Array.getElem?_eq_none (by omega)]at h2
  cases h2
theorem K7{m:Nat}{owner:Array (Option Nat)}{i:Nat}(h:(List.range (runEnd m i+1-i)).find? (fun k=>(owner.getD (i+k) (some 0)).isNone)=none):owner.getD i (some 0)≠none:=by
 have:=List.find?_eq_none.mp h 0 (xE.mpr (by have:=zaG m i;omega))
 intro e
 rw[Nat.add_zero,e]at this
 exact this rfl
theorem WV{m:Nat}{owner:Array (Option Nat)}(hs:owner.size=m+1):∀ (n fuel i j:Nat),j∈orb m n i->owner.getD j (some 0)=none->n<=fuel->∃ r,layClean.free m owner fuel i 0=some r/\r<=m/\owner.getD r (some 0)=none
 |0,_,_,_,h,_,_=>by cases h
 |n+1,0,_,_,_,_,h=>by omega
 |n+1,fuel+1,i,j,h,hj,hf=>by
  rw[layClean.free]
  split
  ·rename_i k hk
   obtain⟨h1,h2⟩:=ye hs hk
   exact⟨_,rfl,h1,h2⟩
  ·rename_i hk
   have hne:=K7 hk
   rcases xo.mp h with rfl | h
   ·exact absurd hj hne
   ·have e:leap m i 0=(stp m i,0):=by unfold leap stp;simp
    rw[e]
    exact WV hs n fuel (stp m i) j h hj (by omega)
theorem va{m:Nat}(hfull:JL m){owner:Array (Option Nat)}(hs:owner.size=m+1){j:Nat}(hj:j<=m)(ho:owner.getD j (some 0)=none):∀ (k fuel i p:Nat),p<32 ^ k->i<=m->k+(m+1)<=fuel->∃ r,layClean.free m owner fuel i p=some r/\r<=m/\owner.getD r (some 0)=none
 |0,fuel,i,p,hp,hi,hf=>by
  have:p=0:=by simpa using hp
  subst this
  exact WV hs (m+1) fuel i j (hfull i hi j hj) ho (by omega)
 |k+1,0,i,p,hp,hi,hf=>by omega
 |k+1,fuel+1,i,p,hp,hi,hf=>by
  rw[layClean.free]
  split
  ·rename_i q hk
   obtain⟨h1,h2⟩:=ye hs hk
   exact⟨_,rfl,h1,h2⟩
  ·have e:leap m i p=((i*5+1+p / 32) % (m+1),p / 32):=rfl
   rw[e]
   refine va hfull hs hj ho k fuel _ _ ?_ ?_ (by omega)
   ·rw[Nat.pow_succ]at hp
    exact Nat.div_lt_of_lt_mul (by rw[Nat.mul_comm];exact hp)
   ·have:=Nat.mod_lt (i*5+1+p / 32) (Nat.succ_pos m)
    exact Nat.le_of_lt_succ this
theorem zec(h:Int):bits h<32 ^ 13:=by
 unfold bits
 have h1:=uB h (by decide:(0:Int)<2 ^ 64)
 have h2:=uM h (by decide:(2 ^ 64:Int)≠0)
 have:((h % 2 ^ 64).toNat:Int)<2 ^ 64:=by omega
 have h3:(h % 2 ^ 64).toNat<2 ^ 64:=by exact_mod_cast this
 exact xy h3 (by decide)
noncomputable def Jc(m:Nat)(owner:Array (Option Nat)):List Nat:=(List.range (m+1)).filterMap fun j=>owner.getD j none
theorem jC{f g:Nat->Option Nat}:∀ {l:List Nat},(∀ x∈l,f x=g x)->l.filterMap f=l.filterMap g
 |[],_=>rfl
 |x::l,h=>by
  rw[xF,xF,h x (by simp),jC fun y hy=>h y (by simp[hy])]
theorem yE{f g:Nat->Option Nat}{j k:Nat}(hj:f j=none)(hg:g j=some k)(he:∀ x,x≠j->g x=f x):∀ {l:List Nat},l.Nodup->j∈l->(l.filterMap g).Perm (k::l.filterMap f)
 |[],_,h=>by cases h
 |x::l,nd,h=>by
  obtain⟨hx,nd⟩:=xC.mp nd
  rcases xo.mp h with rfl | h
  ·rw[xF,xF,hg,hj]
   dsimp only
   rw[jC fun y hy=>he y fun e=>hx (e ▸ hy)]
  ·have hne:x≠j:=fun e=>hx (e ▸ h)
   have ih:=yE hj hg he nd h
   rw[xF,xF,he x hne]
   cases f x with
   |none=>exact ih
   |some y=>exact (ih.cons y).trans (.swap k y _)
theorem zaj{m n:Nat}{owner:Array (Option Nat)}(hl:(Jc m owner).length=n)(hn:n<=m):∃ j,j<=m/\owner.getD j none=none:=by
 refine Classical.byContradiction fun hno=>?_
 have hall:∀ j∈List.range (m+1),(owner.getD j none).isSome=true:=fun j hj=>by
  have hj':j<=m:=by have:=xE.mp hj;omega
  cases e:owner.getD j none with
  |none=>exact absurd ⟨j,hj',e⟩ hno
  |some _=>rfl
 have:(Jc m owner).length=m+1:=by
  have h1:∀ {l:List Nat},(∀ j∈l,(owner.getD j none).isSome=true)->(l.filterMap fun j=>owner.getD j none).length=l.length:=by
   intro l
   induction l with
   |nil=>intro _;rfl
   |cons x l ih=>
    intro h
    obtain⟨y,ey⟩:=uI.mp (h x (by simp))
    rw[xF,ey]
    dsimp only
    rw[xk,xk,ih fun j hj=>h j (xl _ hj)]
  unfold Jc
  rw[h1 hall,xK]
 omega
theorem kx{m j:Nat}{owner:Array (Option Nat)}(hs:owner.size=m+1)(hj:j<=m)(d:Option Nat):owner.getD j d=owner.getD j none:=by
 rw[ua,ua,Array.getElem?_eq_getElem (by omega)];rfl
theorem zaY{m:Nat}(hfull:JL m):∀ (hs:List Int) (owner:Array (Option Nat)) (k:Nat),owner.size=m+1->(Jc m owner).Perm (List.range k)->k+hs.length<=m+1 ->
  ∃ owner',(hs.foldl (init:=some (owner,k)) fun acc h=>do
   let (owner,k)<-acc
   let j<-layClean.free m owner (turns m) (bits h % (m+1)) (bits h)
   pure (owner.setIfInBounds j (some k),k+1))=some (owner',k+hs.length)/\owner'.size=m+1/\(Jc m owner').Perm (List.range (k+hs.length))
 |[],owner,k,h1,h2,_=>⟨owner,rfl,h1,h2⟩
 |h::hs,owner,k,h1,h2,h3=>by
  rw[xk]at h3
  obtain⟨j0,hj0,ej0⟩:=zaj (n:=k) (by rw[h2.length_eq,xK]) (by omega)
  obtain⟨j,ej,hj,oj⟩:=va hfull h1 hj0 (by rw[kx h1 hj0];exact ej0) 13 (turns m) (bits h % (m+1)) (bits h) (zec h) (Nat.le_of_lt_succ (Nat.mod_lt _ (Nat.succ_pos m))) (by unfold turns;omega)
  have hjs:j<owner.size:=by omega
  have oj':owner.getD j none=none:=by rw[<- kx h1 hj (some 0)];exact oj
  have hp:(Jc m (owner.setIfInBounds j (some k))).Perm (k::Jc m owner):=by
   refine yE (f:=fun x=>owner.getD x none) (g:=fun x=>(owner.setIfInBounds j (some k)).getD x none) oj' ?_ (fun x hx=>?_) uV (xE.mpr (by omega))
   ·simp[ua,Array.getElem?_setIfInBounds,hjs]
   ·simp[ua,Array.getElem?_setIfInBounds,Ne.symm hx]
  have hp2:(Jc m (owner.setIfInBounds j (some k))).Perm (List.range (k+1)):=by
   rw[xR]
   exact hp.trans ((h2.cons k).trans (List.perm_append_singleton k _).symm)
  obtain⟨owner',e1,e2,e3⟩:=zaY hfull hs (owner.setIfInBounds j (some k)) (k+1) (by rw[Array.size_setIfInBounds];exact h1) hp2 (by omega)
  refine⟨owner',?_,e2,?_⟩
  ·rw[uC]
   rw[xk,show k+(hs.length+1)=k+1+hs.length by omega,<- e1]
   congr 1
   show (do let j<-layClean.free m owner (turns m) (bits h % (m+1)) (bits h);pure (owner.setIfInBounds j (some k),k+1):Option _)=_
   rw[ej];rfl
  ·rw[xk,show k+(hs.length+1)=k+1+hs.length by omega];exact e3
theorem zcm(m:Nat):Jc m (Array.replicate (m+1) none)= []:=by
 unfold Jc
 rw[List.filterMap_eq_nil_iff]
 intro x _
 rw[ua,Array.getElem?_replicate]
 split<;>rfl
theorem yR{m:Nat}(hfull:JL m)(hashes:Array Int)(hn:hashes.size<=m+1):∃ owner,layClean m hashes=some owner/\owner.size=m+1/\(Jc m owner).Perm (List.range hashes.size):=by
 obtain⟨owner,e1,e2,e3⟩:=zaY hfull hashes.toList (Array.replicate (m+1) none) 0 (by simp) (by rw[zcm];exact .refl _) (by simpa using hn)
 refine⟨owner,?_,e2,by simpa using e3⟩
 unfold layClean
 rw[<- Array.foldl_toList,e1];rfl
theorem kA{m finger moves:Nat}{led plain:Bool}(hfull:JL m)(hashes:Array Int)(hn:hashes.size<=m) :
  ∃ t order,laid m finger moves led plain hashes=some (t,order)/\order.toList.Perm (List.range hashes.size)/\t.place.size=hashes.size/\t.dummies=#[]/\t.mask=m/\t.led=led/\t.plain=plain:=by
 obtain⟨owner,e1,e2,e3⟩:=yR hfull hashes (by omega)
 have hl:(((List.range (m+1)).filterMap fun j=>(owner.getD j none).map (j,·)).map (·.2))=Jc m owner:=by
  unfold Jc
  rw[List.map_filterMap]
  congr 1
  funext j
  cases owner.getD j none<;>rfl
 unfold laid
 rw[e1]
 refine⟨_,_,rfl,?_,?_,rfl,rfl,rfl,rfl⟩
 ·simp only[List.toList_toArray]
  rw[hl];exact e3
 ·have:=e3.length_eq
  rw[<- hl,xi,xK]at this
  show (List.map _ _).toArray.size=_
  rw[xp,xi];exact this
end Tab
set_option maxHeartbeats 4000000
namespace Tab
open PySem PySem.SetTable
theorem ZL{α:Type}:∀ {l:List α}{n:Nat}(h:n<l.length),(l[n]::l.eraseIdx n).Perm l
 |x::l,0,_=>.refl _
 |x::l,n+1,h=>((List.Perm.swap x (l[n]'(by simpa using h)) _)).trans ((ZL (l:=l) (n:=n) (by simpa using h)).cons x)
theorem kO{α:Type}(next:Nat->Nat):∀ (fuel k:Nat) (left:List α) (out:Array α),left.length<=fuel->(pickOrder.go next fuel k left out).toList.Perm (out.toList++left)
 |0,k,left,out,h=>by
  have:left= []:=uP.mp (by omega)
  subst this
  rw[pickOrder.go,ud]
 |fuel+1,k,left,out,h=>by
  rw[pickOrder.go]
  cases left with
  |nil=>simp
  |cons x l=>
   have hlt:next k % (x::l).length<(x::l).length:=Nat.mod_lt _ (by simp)
   rw[xb hlt]
   dsimp only
   refine (kO next fuel (k+1) _ _ ?_).trans ?_
   ·rw[List.length_eraseIdx_of_lt hlt];omega
   ·rw[Array.toList_push,List.append_assoc]
    exact List.Perm.append_left _ (ZL hlt)
theorem KL{α:Type}(next:Nat->Nat)(xs:Array α):(pickOrder next xs).toList.Perm xs.toList:=by
 have:=kO next xs.size 0 xs.toList #[] (by simp)
 simpa [pickOrder] using this
section
variable {prog:Program} {w:World} {A:Around} {E:Value->Shared->Prop} {s:Shared}
theorem zhE{es:Array (Int×Value)}(h:ElemsOf (intKind prog w) es.toList):∀ e∈es.toList,∃ n t,e.2=.int n t:=fun e he=>by
 obtain⟨⟨k,hk,_⟩,_⟩:=h e he
 obtain⟨t,ht⟩:=Value.isInt_shape hk
 exact⟨k,t,ht⟩
theorem yf{l:List Addr}{Q:Bool->Shared->Prop}(h:∀ b∈l,∃ S n,s.heap.SetOf (intKind prog w) b S n)(hQ:Q true s):wpAny (model prog w) A (setsQuiet l) Q E s:=by
 unfold setsQuiet
 refine wpAny_bind ?_
 refine wpAny_forIn_list _ (fun rest b s'=>b=(none,())/\s'=s/\∀ x∈rest,∃ S n,s.heap.SetOf (intKind prog w) x S n) _ ?_ ?_ l _ ⟨rfl,rfl,h⟩
 ·rintro a rest b s' ⟨rfl,rfl,hh⟩
  obtain⟨S,n,o,es,ep,t,ho,hex,hd,hel,hmem,hb,hf,hn⟩:=hh a xz
  refine wpAny_bind (wpAny_setEntries_of ho hd hf ?_)
  refine wpAny_bind (wpAny_forIn_array' _ (fun (rest:List (Int×Value)) b s''=>b=(none,())/\s''=s'/\∀ e∈rest,∃ n t,e.2=.int n t) _ ?_ ?_ es _ ⟨rfl,rfl,zhE hel⟩)
  ·rintro⟨hh2,x⟩ rest b s'' ⟨rfl,rfl,hi⟩
   obtain⟨n,t,e⟩:=hi _ xz
   dsimp only at e
   subst e
   exact wpAny_pure ⟨rfl,rfl,fun e he=>hi e (xl _ he)⟩
  ·rintro b s'' ⟨rfl,rfl,_⟩
   exact wpAny_pure ⟨rfl,rfl,fun x hx=>hh x (xl _ hx)⟩
 ·rintro b s' ⟨rfl,rfl,_⟩
  exact wpAny_pure hQ
theorem wq{a:Addr}{o:Obj}{es:Array (Int×Value)}{ep:Nat}{t:SetTable}{Q':Array (Int×Value)->Shared->Prop}(ho:s.heap.get? a=some o)(hd:o.data=.set es ep t)(hf:t.fits es.size=true)
  (hc:(w.params.followText "set-order" ||(t.led&&t.plain)||decide (es.size<=1))=true) (hq:∀ es',es'.toList.Perm es.toList->Q' es' s):wpAny (model prog w) A (setWalk a) Q' E s:=by
 unfold setWalk setsByText
 refine wpAny_bind (wpAny_setState_of ho hd hf ?_)
 refine wpAny_bind (wpAny_bind (wpAny_askSetting (wpAny_pure ?_)))
 show wpAny _ _ (if w.params.followText "set-order" =true then _ else _) _ _ _
 by_cases hT:w.params.followText "set-order" =true
 ·rw[if_pos hT]
  exact wpAny_bind (wpAny_askSetting (wpAny_pure (hq _ (KL _ _))))
 ·rw[if_neg hT]
  have hT':w.params.followText "set-order" =false:=by simpa using hT
  rw[hT',Bool.false_or,xL,xa,decide_eq_true_eq]at hc
  split
  ·rename_i hdr
   exfalso
   change (!t.plain&&decide (es.size>1))=true at hdr
   rw[xa,decide_eq_true_eq]at hdr
   rcases hc with ⟨_,hp⟩ | hz
   ·rw[hp]at hdr;exact absurd hdr.1 (by decide)
   ·omega
  ·show wpAny _ _ ((if (!t.led&&decide (es.size>1))=true then unsupported "set:maker-not-led" else pure PUnit.unit) >>= fun _=>pure es) _ _ _
   rw[if_neg]
   ·exact wpAny_bind (wpAny_pure (wpAny_pure (hq es (.refl _))))
   ·intro z
    rw[xa,decide_eq_true_eq]at z
    rcases hc with ⟨hl,_⟩ | hz
    ·rw[hl]at z;exact absurd z.1 (by decide)
    ·omega
theorem walk_of{a:Addr}{o:Obj}{es:Array (Int×Value)}{ep:Nat}{t:SetTable}{others:List Addr}{Q:Array (Int×Value)->Shared->Prop}(ho:s.heap.get? a=some o)(hd:o.data=.set es ep t)(hf:t.fits es.size=true)
  (hl:∀ b∈a::others,∃ S n,s.heap.SetOf (intKind prog w) b S n) (h:∀ es',es'.toList.Perm es.toList->Q es' s):wpAny (model prog w) A (setWalkUnseen a others none) Q E s:=by
 unfold setWalkUnseen setsByText
 refine wpAny_bind (wpAny_setState_of ho hd hf ?_)
 dsimp only
 refine wpAny_bind (wpAny_bind (wpAny_askSetting (wpAny_pure ?_)))
 show wpAny _ _ (if (w.params.followText "set-order" ||t.led&&t.plain||decide (es.size<=1))=true then _ else _) _ _ _
 split
 ·rename_i hc
  exact wq ho hd hf hc h
 ·refine wpAny_bind (yf hl ?_)
  simp only[uJ,xG,if_false]
  exact wpAny_bind (wpAny_rule (wpAny_pure (h es (.refl _))))
theorem za1{a r:Addr}{o:Obj}{es:Array (Int×Value)}{ep:Nat}{t:SetTable}{others:List Addr}{S:Int->Bool}{n:Nat}{Q:Array (Int×Value)->Shared->Prop}(ho:s.heap.get? a=some o)(hd:o.data=.set es ep t)(hf:t.fits es.size=true)
  (hl:∀ b∈a::others,∃ S n,s.heap.SetOf (intKind prog w) b S n) (hr:s.heap.SetOf (intKind prog w) r S n) (h:∀ es' h',es'.toList.Perm es.toList->Heap.SameBut r s.heap h'->h'.SetOf (intKind prog w) r S n->Q es' { s with heap:=h' }):wpAny (model prog w) A (setWalkUnseen a others (some r)) Q E s:=by
 have hsame:s={ s with heap:=s.heap }:=by cases s;rfl
 have h0:∀ es',es'.toList.Perm es.toList->Q es' s:=fun es' hp=>by
  rw[hsame];exact h es' s.heap hp (Heap.SameBut.refl r s.heap) hr
 unfold setWalkUnseen setsByText
 refine wpAny_bind (wpAny_setState_of ho hd hf ?_)
 dsimp only
 refine wpAny_bind (wpAny_bind (wpAny_askSetting (wpAny_pure ?_)))
 show wpAny _ _ (if (w.params.followText "set-order" ||t.led&&t.plain||decide (es.size<=1))=true then _ else _) _ _ _
 split
 ·rename_i hc
  exact wq ho hd hf hc h0
 ·refine wpAny_bind (yf hl ?_)
  simp only[uJ,xG,if_false]
  refine wpAny_bind (wpAny_rule ?_)
  obtain⟨o',es',ep',t',ho',hex',hd',hel',hmem',hb',hf',hn'⟩:=hr
  refine wpAny_bind (wpAny_setState_of ho' hd' hf' ?_)
  dsimp only
  split
  ·have hf2:({ t' with led:=t'.led&&t.led,plain:=t'.plain&&t.plain }:SetTable).fits es'.size=true:=by
    unfold SetTable.fits SetTable.fill at hf' |-;exact hf'
   obtain⟨hg,hS⟩:=SetOf_store (knd:=intKind prog w) ho' hex' hd' hel' hmem' hb' hf2
   refine wpAny_bind (wpAny_storeSet_of ho' hd' ?_ ?_)
   ·exact wpAny_pure (h es _ (.refl _) (Heap.SameBut.update _ r _) (by rw[<- hn'];exact hS))
   ·exact fits_of_scanBound hb'
  ·exact wpAny_pure (h0 es (.refl _))
inductive Keys(prog:Program)(w:World):List (Int×Value)->List Int->Prop
 |nil:Keys prog w [] []
 |cons {k:Int} {t:Tok} {es ks}:Keys prog w es ks->Keys prog w (((intKind prog w).hash k,.int k t)::es) (k::ks)
theorem wa:∀ {es:List (Int×Value)},ElemsOf (intKind prog w) es->∃ ks,Keys prog w es ks
 |[],_=>⟨[],.nil⟩
 | (hh,x)::es,h=>by
  obtain⟨⟨k,hk,e1⟩,_⟩:=h.head
  obtain⟨t,e2⟩:=Value.isInt_shape hk
  obtain⟨ks,hks⟩:=wa h.tail
  dsimp only at e1 e2
  subst e1 e2
  exact⟨k::ks,.cons hks⟩
theorem Keys.mem{es:List (Int×Value)}{ks:List Int}(h:Keys prog w es ks)(k:Int):(∃ e∈es,(intKind prog w).is k e.2=true)↔k∈ks:=by
 induction h with
 |nil=>simp
 | @cons k' t es ks _ ih=>
  constructor
  ·rintro⟨e,he,hk⟩
   rcases xo.mp he with rfl | he
   ·have hk2:Value.isInt k (.int k' t)=true:=hk
    obtain⟨t2,e2⟩:=Value.isInt_shape hk2
    injection e2 with e3
    rw[<- e3];exact xz
   ·exact xl _ (ih.mp ⟨e,he,hk⟩)
  ·intro hk
   rcases xo.mp hk with rfl | hk
   ·exact⟨_,xz,intKind_is _ _ _ _⟩
   ·obtain⟨e,he,h2⟩:=ih.mpr hk
    exact⟨e,xl _ he,h2⟩
theorem Keys.length{es:List (Int×Value)}{ks:List Int}(h:Keys prog w es ks):es.length=ks.length:=by
 induction h with
 |nil=>rfl
 |cons _ ih=>simp[ih]
theorem Keys.perm{es es':List (Int×Value)}(p:es'.Perm es):∀ {ks},Keys prog w es ks->∃ ks',Keys prog w es' ks'/\ks'.Perm ks:=by
 induction p with
 |nil=>intro ks h;exact⟨ks,h,.refl _⟩
 | @cons x l1 l2 _ ih=>
  intro ks h
  cases h with
  |cons h=>
   obtain⟨ks',h1,h2⟩:=ih h
   exact⟨_,.cons h1,h2.cons _⟩
 |swap x y l=>
  intro ks h
  cases h with
  |cons h=>
   cases h with
   |cons h=>exact⟨_,.cons (.cons h),.swap _ _ _⟩
 |trans _ _ ih1 ih2=>
  intro ks h
  obtain⟨k2,h2,p2⟩:=ih2 h
  obtain⟨k1,h1,p1⟩:=ih1 h2
  exact⟨k1,h1,p1.trans p2⟩
theorem perm_of_sub:∀ {fm ks:List Int},fm.Nodup->(∀ x∈fm,x∈ks)->ks.length<=fm.length->ks.Perm fm
 |[],ks,_,_,h=>by
  have:ks= []:=uP.mp (by simpa using h)
  subst this;exact .refl _
 |x::fm,ks,nd,hs,hl=>by
  obtain⟨hx,nd⟩:=xC.mp nd
  have hm:=hs x (by simp)
  have p:=List.perm_cons_erase hm
  refine p.trans (List.Perm.cons x (perm_of_sub nd (fun y hy=>?_) ?_))
  ·exact (List.mem_erase_of_ne (fun e:y=x=>hx (e ▸ hy))).mpr (hs y (by simp[hy]))
  ·have:=p.length_eq
   simp at this hl
   omega
noncomputable def dedup(ks:List Int):List Int:=ks.foldl PyProof.Rows.step_dedup []
theorem Yg(ks:List Int)(k:Int):dedup (ks++ [k])=PyProof.Rows.step_dedup (dedup ks) k:=by
 unfold dedup;rw[List.foldl_append];rfl
theorem any_dedup(ks:List Int):∀ k,(dedup ks).any (·==k)=true↔k∈ks:=by
 suffices H:∀ (l acc:List Int) k,(l.foldl PyProof.Rows.step_dedup acc).any (·==k)=true↔(acc.any (·==k)=true∨k∈l) by
  intro k
  have:=H ks [] k
  simpa [dedup] using this
 intro l
 induction l with
 |nil=>intro acc k;simp
 |cons x l ih=>
  intro acc k
  rw[uC,ih,PyProof.Rows.step_any,xL,decide_eq_true_eq,xo,or_assoc]
theorem nodup_dedup(ks:List Int):(dedup ks).Nodup:=by
 suffices H:∀ (l acc:List Int),acc.Nodup->(l.foldl PyProof.Rows.step_dedup acc).Nodup from H ks [] .nil
 intro l
 induction l with
 |nil=>intro acc h;exact h
 |cons x l ih=>
  intro acc h
  rw[uC]
  refine ih _ ?_
  unfold PyProof.Rows.step_dedup
  split
  ·exact h
  ·rename_i hx
   rw[uk]
   refine⟨h,by simp,fun a ha b hb=>?_⟩
   have:b=x:=by simpa using hb
   subst this
   intro e
   subst e
   exact hx (by simp;exact ha)
theorem qX {h:Heap}{a:Addr}{S:Int->Bool}{n:Nat}(hS:s.heap.SetOf (intKind prog w) a S n):s.TypeIs (.ref a) "set" :=by
 obtain⟨o,es,ep,t,ho,hex,_⟩:=hS
 exact⟨o,ho,hex.1⟩
theorem jr{a:Addr}{S:Int->Bool}{n:Nat}{Q:Bool->Shared->Prop}(hS:s.heap.SetOf (intKind prog w) a S n)(h:Q true s):wpAny (model prog w) A (Builtin.Frozenset.isAnySet (.ref a)) Q E s:=by
 unfold Builtin.Frozenset.isAnySet
 simp only[orM]
 refine wpAny_bind (wpAny_isInstance (qX (h:=s.heap) hS) sub_set_self ?_)
 exact wpAny_pure h
theorem vt {a:Addr}{S:Int->Bool}{n:Nat}{Q:Value->Shared->Prop}(hS:s.heap.SetOf (intKind prog w) a S n) (h:Q (.type "set") s):wpAny (model prog w) A (Builtin.Frozenset.baseOf a) Q E s:=by
 unfold Builtin.Frozenset.baseOf
 exact wpAny_bind (wpAny_isInstance (qX (h:=s.heap) hS) sub_set_self (wpAny_pure h))
theorem Zt{a:Addr}{S:Int->Bool}{n:Nat}{Q:Nat->Shared->Prop}(hS:s.heap.SetOf (intKind prog w) a S n)(h:Q n s):wpAny (model prog w) A (Builtin.Frozenset.sizeOf a) Q E s:=by
 obtain⟨o,es,ep,t,ho,hex,hd,hel,hmem,hb,hf,hn⟩:=hS
 unfold Builtin.Frozenset.sizeOf
 exact wpAny_bind (wpAny_setEntries_of ho hd hf (wpAny_pure (by rw[hn];exact h)))
theorem YZ{h h':Heap}{a r:Addr}{S:Int->Bool}{n:Nat}(hS:h.SetOf (intKind prog w) a S n)(e:Heap.SameBut r h h')(hne:a≠r):h'.SetOf (intKind prog w) a S n:=by
 obtain⟨o,es,ep,t,ho,rest⟩:=hS
 exact⟨o,es,ep,t,by rw[e.2 a hne];exact ho,rest⟩
theorem zhC{a o:Addr}{Sa So:Int->Bool}{na no:Nat}{nm:String}{Q:Value->Shared->Prop}(ha:s.heap.SetOf (intKind prog w) a Sa na)(ho:s.heap.SetOf (intKind prog w) o So no)(hna:na+1<scanBound){r:Addr}
  (hr:s.heap.SetOf (intKind prog w) r (fun _=>false) 0) (har:a≠r) (hor:o≠r)
  (h:∀ s' T n,Heap.SameBut r s.heap s'.heap->s'.heap.SetOf (intKind prog w) r T n->(∀ k,T k=(Sa k&& !So k))->(∃ L:List Int,L.Nodup/\L.length=n/\∀ k,T k=true↔k∈L)->s'.gens=s.gens/\s'.os=s.os/\s'.drawn=s.drawn->Q (.ref r) s') :
  wpAny (model prog w) A (do
     let was<-setEpoch a
     holding [.ref r] do
       let __do_lift<-setWalkUnseen a [o,r] (some r)
       forIn __do_lift PUnit.unit fun x __s=>do
         holding [x.snd] do
           let __do_lift<-setFind o x.snd x.fst
           let there<-pure __do_lift.isSome
           if (!there)=true then do
             let _<-setAddHashed r x.snd x.fst
             pure ()
            else pure ()
         Builtin.Frozenset.unchanged nm a was
         pure (ForInStep.yield PUnit.unit)
       pure ()
     pure (.ref r)) Q E s:=by
 have ha0:=ha
 obtain⟨oa,ea,epa,ta,hoa,hexa,hda,hela,hmema,hba,hfa,hna'⟩:=ha
 refine wpAny_bind (wpAny_setEpoch_of hoa hda hfa ?_)
 refine wpAny_bind (wpAny_holding ?_)
 refine wpAny_bind (za1 hoa hda hfa (fun b hb=>?_) hr fun es' h' hp hsb hr'=>?_)
 ·have:b=a∨b=o∨b=r:=by simpa using hb
  rcases this with rfl | rfl | rfl
  ·exact⟨_,_,ha0⟩
  ·exact⟨_,_,ho⟩
  ·exact⟨_,_,hr⟩
 ·obtain⟨ks0,hk0⟩:=wa hela
  obtain⟨ks,hks,hpk⟩:=hk0.perm hp
  have hlen:ks.length=na:=by rw[hpk.length_eq,<- hk0.length,<- hna'];simp
  refine wpAny_bind (wpAny_forIn_array' _ (fun (rest:List (Int×Value)) _ s'=>∃ done left,ks=done++left/\Keys prog w rest left/\Heap.SameBut r s.heap s'.heap /\
   s'.heap.SetOf (intKind prog w) r (fun k=>(dedup (done.filter fun k=> !So k)).any (·==k)) (dedup (done.filter fun k=> !So k)).length/\s'.gens=s.gens/\s'.os=s.os/\s'.drawn=s.drawn) _ ?_ ?_ es' _ ⟨[],ks,rfl,hks,hsb,hr',rfl,rfl,rfl⟩)
  ·rintro⟨hh,x⟩ rest u s' ⟨done,left,e1,hk,hs1,hS,g1,g2,g3⟩
   cases hk with
   | @cons k t _ left hk=>
    have hoo:=YZ ho hs1 hor
    refine wpAny_bind (wpAny_holding ?_)
    refine wpAny_bind (wpAny_setFind_of (knd:=intKind prog w) (intKind_is _ _ _ _) rfl hoo fun rr hrr=>?_)
    have e2:ks=(done++ [k])++left:=by rw[e1];simp
    have still:∀ (s'':Shared) {Q':PUnit->Shared->Prop},Heap.SameBut r s.heap s''.heap->Q' ⟨⟩ s''->wpAny (model prog w) A (Builtin.Frozenset.unchanged nm a epa) Q' E s'':=fun s'' Q' q1 q2=>by
     unfold Builtin.Frozenset.unchanged
     refine wpAny_bind (wpAny_setEpoch_of (by rw[q1.2 a har];exact hoa) hda hfa ?_)
     simp only[bne_self_eq_false,xG,if_false]
     exact wpAny_pure q2
    refine wpAny_bind (wpAny_pure ?_)
    rw[hrr]
    cases hSo:So k with
    |true=>
     simp only[uJ,xG,if_false]
     refine wpAny_pure (wpAny_bind (still s' hs1 (wpAny_pure ⟨done++ [k],left,e2,hk,hs1,?_,g1,g2,g3⟩)))
     have ef:(done++ [k]).filter (fun k=> !So k)=done.filter fun k=> !So k:=by rw[xO];simp[hSo]
     rw[ef];exact hS
    |false=>
     simp only[Bool.not_false,if_true]
     have hdl:(dedup (done.filter fun k=> !So k)).length<=done.length:=by
      have h1:∀ (l acc:List Int),(l.foldl PyProof.Rows.step_dedup acc).length<=acc.length+l.length:=by
       intro l
       induction l with
       |nil=>intro acc;simp
       |cons x l ih=>
        intro acc
        rw[uC]
        refine xM (ih _) ?_
        rw[PyProof.Rows.step_length,xk]
        split<;>omega
      have h2:=h1 (done.filter fun k=> !So k) []
      have h3:=xS (fun k=> !So k) done
      simp only[uf,ue]at h2
      exact xM h2 h3
     have hks3:done.length+1<=na:=by rw[<- hlen,e2];simp
     refine wpAny_bind (wpAny_setAddHashed_of (knd:=intKind prog w) (intKind_is _ _ _ _) rfl hS (by omega) fun h2 hsb2 hS2=>?_)
     have q1:Heap.SameBut r s.heap h2:=hs1.trans hsb2
     refine wpAny_pure (wpAny_bind (still _ q1 (wpAny_pure ⟨done++ [k],left,e2,hk,q1,?_,g1,g2,g3⟩)))
     have ef:(done++ [k]).filter (fun k=> !So k)=(done.filter fun k=> !So k)++ [k]:=by rw[xO];simp[hSo]
     rw[ef,Yg]
     exact PyProof.Rows.SetOf_congr hS2 (fun k'=>by rw[PyProof.Rows.step_any]) (by rw[PyProof.Rows.step_length])
  ·rintro u s' ⟨done,left,e1,hk,hs1,hS,g1,g2,g3⟩
   cases hk
   rw[ud]at e1
   subst e1
   refine wpAny_pure (wpAny_pure (h s' _ _ hs1 hS (fun k=>?_) ?_ ⟨g1,g2,g3⟩))
   ·have h1:=any_dedup (ks.filter fun k=> !So k) k
    have h2:k∈ks↔Sa k=true:=by
     rw[hpk.mem_iff,<- hk0.mem k]
     exact (hmema k).symm
    rw[xr,h2]at h1
    exact xP.mpr (h1.trans (by rw[xa]))
   ·refine⟨dedup (ks.filter fun k=> !So k),nodup_dedup _,rfl,fun k=>?_⟩
    rw[any_dedup,<- any_dedup]
    simp
end
end Tab
set_option maxHeartbeats 4000000
namespace Tab
open PySem PySem.SetTable
section
variable {prog:Program} {w:World} {A:Around} {E:Value->Shared->Prop} {s:Shared}
theorem WJ{α:Type}:∀ (l:List α),(List.range l.length).filterMap (fun i=>l[i]?)=l
 |[]=>rfl
 |x::l=>by
  rw[xk,List.range_succ_eq_map,xF,List.filterMap_map]
  show x::_=_
  congr 1
  exact WJ l
theorem Y8{α:Type}{es:Array α}{order:Array Nat}(h:order.toList.Perm (List.range es.size)):(order.filterMap (es[·]?)).toList.Perm es.toList:=by
 rw[Array.toList_filterMap]
 refine (h.filterMap _).trans ?_
 have:=WJ es.toList
 simp only[Array.length_toList,Array.getElem?_toList]at this
 rw[this]
noncomputable def zbK(n:Nat):Bool:=decide (n<5)||((sizeAbove (n*2)==16||sizeAbove (n*2)==32||sizeAbove (n*2)==64||sizeAbove (n*2)==128)&&decide (n<sizeAbove (n*2)))
theorem zci:(List.range 61).all zbK=true:=by decide +kernel
theorem zdI{n:Nat}(h5:5<=n)(hn:n<=60):JL (sizeAbove (n*2)-1)/\n<=sizeAbove (n*2)-1/\sizeAbove (n*2)<=128:=by
 have h:=xA.mp zci n (xE.mpr (by omega))
 unfold zbK at h
 simp only[xL,xa,decide_eq_true_eq,beq_iff_eq]at h
 rcases h with h | ⟨h,h2⟩
 ·omega
 ·rcases h with ((h | h) | h) | h
  ·rw[h]at h2 |-;exact⟨zfE,by omega,by omega⟩
  ·rw[h]at h2 |-;exact⟨zfC,by omega,by omega⟩
  ·rw[h]at h2 |-;exact⟨zf4,by omega,by omega⟩
  ·rw[h]at h2 |-;exact⟨zey,by omega,by omega⟩
structure kD(h:Heap)(r:Addr)(o:Obj)(ep:Nat)(t:SetTable):Prop where
 get:h.get? r=some o
 ex:o.ExactSet
 dt:o.data=.set #[] ep t
 pl:t.place=#[]
 dm:t.dummies=#[]
theorem Yv{r:Addr}{o:Obj}{ep:Nat}{t:SetTable}{n:Nat}{Q:Unit->Shared->Prop}(e:kD s.heap r o ep t)(hm:t.mask=7)(h4:4<=n)(hn:n<=60)
  (h:∀ h' o' ep' t',Heap.SameBut r s.heap h'->kD h' r o' ep' t'->JL t'.mask->n<=t'.mask->Q () { s with heap:=h' }):wpAny (model prog w) A (setRoomFor r n) Q E s:=by
 have hf:t.fits 0=true:=by unfold SetTable.fits SetTable.fill;rw[e.pl,e.dm];simp
 have hsame:s={ s with heap:=s.heap }:=by cases s;rfl
 unfold setRoomFor
 refine wpAny_bind (wpAny_setState_of e.get e.dt hf ?_)
 dsimp only
 have hfill:t.fill=0:=by unfold SetTable.fill;rw[e.pl,e.dm];rfl
 unfold SetTable.roomFor
 rw[hfill,hm,e.pl]
 by_cases h5:5<=n
 ·rw[if_pos (by omega)]
  obtain⟨r1,r2,r3⟩:=zdI h5 hn
  dsimp only
  unfold setRelay
  refine wpAny_bind (wpAny_setState_of e.get e.dt hf ?_)
  dsimp only
  have hz0:(#[]:Array Nat).size+n=n:=by simp
  rw[hz0,if_neg (by have:sizeLine=16777216:=rfl;omega)]
  obtain⟨t',order,el,hp,hps,hdm,hmk,_,_⟩:=kA (finger:=t.finger) (moves:=t.movedTo (sizeAbove (n*2)-1)) (led:=t.led) (plain:=t.plain) r1 (Array.map (fun x:Int×Value=>x.fst) #[]) (by simp)
  have el':t.relaid (Array.map (fun x:Int×Value=>x.fst) #[]) (n*2)=some (t',order):=el
  rw[el']
  have ho:order=#[]:=by
   have:=hp.length_eq
   simp at this
   exact this
  subst ho
  have hpl:t'.place=#[]:=by simpa using hps
  refine wpAny_bind (m:=_) ?_
  show wpAny _ _ (pure ((#[]:Array (Int×Value)),t')) _ _ _
  refine wpAny_pure ?_
  have hf':t'.fits 0=true:=by unfold SetTable.fits SetTable.fill;rw[hpl,hdm];simp
  have hg:(s.heap.update r (Obj.putSet #[] t')).get? r=some { o with data:=.set #[] (ep+1) t' }:=by
   have:=Heap.get?_update_self (Obj.putSet #[] t') e.get (by rw[putSet_of #[] t' e.dt];rfl)
   rw[putSet_of #[] t' e.dt]at this;exact this
  refine wpAny_storeSet_of e.get e.dt (h _ _ (ep+1) t' (Heap.SameBut.update _ r _) ⟨hg,e.ex,rfl,hpl,hdm⟩ (by rw[hmk];exact r1) (by rw[hmk];exact r2)) (by simp)
 ·rw[if_neg (by omega)]
  refine wpAny_pure ?_
  rw[hsame]
  exact h s.heap o ep t (Heap.SameBut.refl _ _) e (by rw[hm];exact zhq) (by omega)
theorem zcu{a r:Addr}{o:Obj}{ep:Nat}{t:SetTable}{oa:Obj}{ea:Array (Int×Value)}{epa:Nat}{ta:SetTable}{Q:Unit->Shared->Prop}(har:a≠r)(e:kD s.heap r o ep t)(hm:t.mask=7)
    (hoa:s.heap.get? a=some oa) (hda:oa.data=.set ea epa ta) (hfa:ta.fits ea.size=true) (h4:4<=ea.size) (hn:ea.size<=60)
    (h:∀ h' o' es' ep' t',Heap.SameBut r s.heap h'->h'.get? r=some o'->o'.ExactSet->o'.data=.set es' ep' t'->es'.toList.Perm ea.toList->t'.fits es'.size=true->t'.dummies=#[]->ea.size<=t'.mask->Q () { s with heap:=h' }):wpAny (model prog w) A (setMerge r a) Q E s:=by
  unfold setMerge
  rw[if_neg (by simpa using Ne.symm har)]
  refine wpAny_bind (wpAny_setState_of hoa hda hfa ?_)
  dsimp only
  rw [if_neg (fun z => by have h0 : ea.size = 0 := (by simpa using z : ea = #[]) ▸ rfl
                          omega)]
  refine wpAny_bind (Yv e hm h4 hn fun h' o' ep' t' hsb e' hfull hle=>?_)
  have hf':t'.fits 0=true:=by unfold SetTable.fits SetTable.fill;rw[e'.pl,e'.dm];simp
  refine wpAny_bind (wpAny_setState_of e'.get e'.dt hf' ?_)
  dsimp only
  have hfill:t'.fill=0:=by unfold SetTable.fill;rw[e'.pl,e'.dm];rfl
  have hsz:ea.size<=sizeLine:=by have:sizeLine=16777216:=rfl;omega
  have fin:∀ (es2:Array (Int×Value)) (t2:SetTable),es2.toList.Perm ea.toList->t2.fits es2.size=true->t2.dummies=#[]->ea.size<=t2.mask->wpAny (model prog w) A (storeSet r es2 t2) Q E { s with heap:=h' }:=fun es2 t2 hp hf2 hd2 hm2=>by
    have hs2:es2.size=ea.size:=by have:=hp.length_eq;simpa using this
    have hg:(h'.update r (Obj.putSet es2 t2)).get? r=some { o' with data:=.set es2 (ep'+1) t2 }:=by
      have:=Heap.get?_update_self (Obj.putSet es2 t2) e'.get (by rw[putSet_of es2 t2 e'.dt];rfl)
      rw[putSet_of es2 t2 e'.dt]at this;exact this
    exact wpAny_storeSet_of (s:={ s with heap:=h' }) e'.get e'.dt (h _ _ es2 (ep'+1) t2 (hsb.trans (Heap.SameBut.update _ r _)) hg e'.ex rfl hp hf2 hd2 hm2) (by omega)
  unfold SetTable.road
  rw[hfill]
  simp only[bne_self_eq_false,xG,if_false]
  have hfa':=hfa
  unfold SetTable.fits SetTable.fill at hfa'
  rw[xa,beq_iff_eq,decide_eq_true_eq]at hfa'
  by_cases hc:(t'.mask==ta.mask&&ta.dummies.isEmpty)=true
  · rw [if_pos hc]
    rw[xa,beq_iff_eq]at hc
    have hdm:ta.dummies=#[]:=by simpa using hc.2
    refine fin ea _ (.refl _) ?_ hdm ?_
    · unfold SetTable.fits SetTable.fill at hfa |-;exact hfa
    · show ea.size ≤ ta.mask
      omega
  · rw [if_neg hc]
    dsimp only
    obtain⟨t2,order,el,hp,hps,hdm,hmk,_,_⟩:=kA (finger:=t'.finger) (moves:=t'.moves) (led:=t'.led&&ta.led) (plain:=t'.plain&&ta.plain) hfull (ea.map (·.1)) (by rw[Array.size_map];exact hle)
    rw[Array.size_map]at hp hps
    rw[el]
    have hop:=Y8 (es:=ea) hp
    have hos:(order.filterMap (ea[·]?)).size=ea.size:=by rw[<- Array.length_toList,hop.length_eq,Array.length_toList]
    refine wpAny_bind (m:=_) ?_
    show wpAny _ _ (if ((order.filterMap (ea[·]?)).size !=ea.size)=true then _ else pure (order.filterMap (ea[·]?),t2)) _ _ _
    rw[if_neg (by rw[hos];simp)]
    refine wpAny_pure (fin _ t2 hop ?_ hdm (by rw[hmk];exact hle))
    unfold SetTable.fits SetTable.fill
    rw[hdm,hps,hos,hmk]
    simp
    exact hle
theorem ZN{α:Type}(es:Array α)(i:Nat):(eraseAt es i).toList=es.toList.eraseIdx i:=by
 unfold eraseAt
 rw[List.eraseIdx_eq_take_drop_succ]
 simp[Array.toList_extract]
 exact List.take_of_length_le (by simp)
theorem wo{α:Type}{es:Array α}{i:Nat}(h:i<es.size):(eraseAt es i).size+1=es.size:=by
 rw[<- Array.length_toList,ZN,List.length_eraseIdx_of_lt (by simpa using h)]
 simp;omega
theorem yp{α:Type}(xs:Array α)(p:Nat)(x:α)(h:p<=xs.size):(insertAt xs p x).size=xs.size+1:=by
 unfold insertAt
 simp
 omega
structure Has(prog:Program)(w:World)(h:Heap)(r:Addr)(ks:List Int)(d m:Nat)(o:Obj)(es:Array (Int×Value))(ep:Nat)(t:SetTable):Prop where
 get:h.get? r=some o
 ex:o.ExactSet
 dt:o.data=.set es ep t
 el:ElemsOf (intKind prog w) es.toList
 key:Keys prog w es.toList ks
 nd:ks.Nodup
 fits:t.fits es.size=true
 dm:t.dummies.size<=d
 mke:m<=t.mask
 sm:es.size<scanBound
theorem Has.setOf{h:Heap}{r:Addr}{ks:List Int}{d m:Nat}{o:Obj}{es:Array (Int×Value)}{ep:Nat}{t:SetTable}(x:Has prog w h r ks d m o es ep t):h.SetOf (intKind prog w) r (fun k=>decide (k∈ks)) ks.length :=
 ⟨o,es,ep,t,x.get,x.ex,x.dt,x.el,fun k=>by rw[decide_eq_true_eq];exact (x.key.mem k).symm,x.sm,x.fits,by rw[<- x.key.length];simp⟩
theorem zc7(xs:Array Nat)(j:Nat):below xs j<=xs.size:=by
 unfold below
 have H:∀ fuel lo hi,lo<=hi->hi<=xs.size->below.go xs j fuel lo hi<=xs.size:=by
  intro fuel
  induction fuel with
  |zero=>intro lo hi h1 h2;rw[below.go];omega
  |succ fuel ih=>
   intro lo hi h1 h2
   rw[below.go]
   split
   ·dsimp only
    split
    ·exact ih _ _ (by omega) h2
    ·exact ih _ _ (by omega) (by omega)
   ·omega
 exact H _ _ _ (ui _) (xm _)
theorem Keys.eraseIdx:∀ {es:List (Int×Value)}{ks:List Int}(i:Nat),Keys prog w es ks->Keys prog w (es.eraseIdx i) (ks.eraseIdx i)
 |_,_,i,.nil=>by simp;exact .nil
 |_,_,0,.cons h=>h
 |_,_,i+1,.cons h=>.cons (h.eraseIdx i)
theorem Keys.find:∀ {es:List (Int×Value)}{ks:List Int}{i:Nat}{k:Int},Keys prog w es ks->es.findIdx? (fun e=>(intKind prog w).is k e.2)=some i->ks[i]?=some k:=by
 intro es ks i k h e
 obtain⟨hi,hp,_⟩:=List.findIdx?_eq_some_iff_getElem.mp e
 have H:∀ {es:List (Int×Value)} {ks:List Int} (i:Nat) (hi:i<es.length),Keys prog w es ks->(intKind prog w).is k es[i].2=true->ks[i]?=some k:=by
  intro es ks i hi h
  induction h generalizing i with
  |nil=>simp at hi
  | @cons k' t es ks h ih=>
   intro hk
   cases i with
   |zero=>
    have hk2:Value.isInt k (.int k' t)=true:=hk
    obtain⟨t2,e2⟩:=Value.isInt_shape hk2
    injection e2 with e3
    rw[e3];rfl
   |succ i=>exact ih i (by simpa using hi) hk
 exact H i hi h hp
theorem Y6{r:Addr}{ks:List Int}{d m:Nat}{o:Obj}{es:Array (Int×Value)}{ep:Nat}{t:SetTable}{k:Int}{tok:Tok}{Q:Bool->Shared->Prop}(x:Has prog w s.heap r ks d m o es ep t)
  (h:∀ h' o' es' ep' t' ks' b,Heap.SameBut r s.heap h'->Has prog w h' r ks' (d+1) m o' es' ep' t'->(∀ k',k'∈ks'↔(k'∈ks/\k'≠k))->Q b { s with heap:=h' }):wpAny (model prog w) A (setDiscardHashed r (.int k tok) ((intKind prog w).hash k)) Q E s:=by
 have hsame:s={ s with heap:=s.heap }:=by cases s;rfl
 unfold setDiscardHashed setFind setFindIn
 refine wpAny_bind (wpAny_bind (wpAny_setState_of x.get x.dt x.fits ?_))
 dsimp only
 rw[byScan_of (knd:=intKind prog w) rfl x.sm x.el]
 simp only[↓reduceIte]
 refine wpAny_bind (wpAny_rule ?_)
 refine wpAny_bind (wpAny_setScan_of (knd:=intKind prog w) (intKind_is _ _ _ _) x.get x.dt x.fits x.el ?_)
 cases hr:List.findIdx? (fun e=>(intKind prog w).is k e.2) es.toList with
 |none=>
  dsimp only
  refine wpAny_pure (wpAny_pure ?_)
  rw[hsame]
  refine h s.heap o es ep t ks false (Heap.SameBut.refl _ _) ⟨x.get,x.ex,x.dt,x.el,x.key,x.nd,x.fits,Nat.le_succ_of_le x.dm,x.mke,x.sm⟩ fun k'=>⟨fun hk=>⟨hk,fun e=>?_⟩,fun hk=>hk.1⟩
  subst e
  obtain⟨e1,he,hp⟩:=(x.key.mem k').mpr hk
  have:=List.findIdx?_eq_none_iff.mp hr e1 he
  rw[hp]at this;cases this
 |some i=>
  dsimp only
  rw[ue]
  refine wpAny_pure ?_
  dsimp only
  have hki:=x.key.find hr
  have hi:i<es.size:=by
   obtain⟨hi,_⟩:=List.findIdx?_eq_some_iff_getElem.mp hr
   simpa using hi
  refine wpAny_bind (wpAny_setState_of x.get x.dt x.fits ?_)
  dsimp only
  have hfit:=x.fits
  unfold SetTable.fits SetTable.fill at hfit
  rw[xa,beq_iff_eq,decide_eq_true_eq]at hfit
  have hpi:t.place[i]?=some t.place[i]:=Array.getElem?_eq_getElem (by omega)
  have hdrop:t.drop i={ t with place:=eraseAt t.place i,dummies:=insertAt t.dummies (below t.dummies t.place[i]) t.place[i] }:=by
   unfold SetTable.drop;rw[hpi]
  have hes:=wo hi
  have hpl:=wo (es:=t.place) (i:=i) (by omega)
  have hdm:=yp t.dummies (below t.dummies t.place[i]) t.place[i] (zc7 _ _)
  have hfit2:(t.drop i).fits (eraseAt es i).size=true:=by
   rw[hdrop]
   unfold SetTable.fits SetTable.fill
   rw[xa,beq_iff_eq,decide_eq_true_eq]
   dsimp only
   constructor<;>omega
  have hg:(s.heap.update r (Obj.putSet (eraseAt es i) (t.drop i))).get? r=some { o with data:=.set (eraseAt es i) (ep+1) (t.drop i) }:=by
   have:=Heap.get?_update_self (Obj.putSet (eraseAt es i) (t.drop i)) x.get (by rw[putSet_of (eraseAt es i) (t.drop i) x.dt];rfl)
   rw[putSet_of (eraseAt es i) (t.drop i) x.dt]at this;exact this
  have hkl:i<ks.length:=by rw[<- x.key.length];simpa using hi
  have hkk:ks[i]=k:=by rw[xb hkl]at hki;exact Option.some.inj hki
  have hpm:=ZL hkl
  have hnd:(k::ks.eraseIdx i).Nodup:=by rw[<- hkk];exact (hpm.nodup_iff).mpr x.nd
  refine wpAny_bind (wpAny_storeSet_of x.get x.dt ?_ (by have:=fits_of_scanBound x.sm;omega))
  refine wpAny_bind (wpAny_point ?_)
  refine wpAny_pure (h _ _ (eraseAt es i) (ep+1) (t.drop i) (ks.eraseIdx i) true (Heap.SameBut.update _ r _) ⟨hg,x.ex,rfl,?_,?_,(xC.mp hnd).2,hfit2,?_,?_,by have:=x.sm;omega⟩ fun k'=>?_)
  ·rw[ZN];exact fun e he=>x.el e (List.mem_of_mem_eraseIdx he)
  ·rw[ZN];exact x.key.eraseIdx i
  ·rw[hdrop];show (insertAt _ _ _).size<=_;have:=x.dm;omega
  ·rw[hdrop];exact x.mke
  ·have h1:k'∈ks↔k'∈k::ks.eraseIdx i:=by rw[<- hkk];exact (hpm.mem_iff).symm
   rw[h1,xo]
   constructor
   ·intro hk
    exact⟨.inr hk,fun e=>(xC.mp hnd).1 (e ▸ hk)⟩
   ·rintro⟨hk | hk,hne⟩
    ·exact absurd hk hne
    ·exact hk
end
end Tab
set_option maxHeartbeats 4000000
namespace Tab
open PySem PySem.SetTable
section
variable {prog:Program} {w:World} {A:Around} {E:Value->Shared->Prop} {s:Shared}
theorem zeC{r:Addr}{ks:List Int}{d m:Nat}{o:Obj}{es:Array (Int×Value)}{ep:Nat}{t:SetTable}{Q:Unit->Shared->Prop}(x:Has prog w s.heap r ks d m o es ep t)(hd:d<=m / 4)(h:Q () s):wpAny (model prog w) A (setTidy r) Q E s:=by
 unfold setTidy
 refine wpAny_bind (wpAny_setState_of x.get x.dt x.fits ?_)
 dsimp only
 unfold SetTable.tooManyDummies
 have h1:=x.dm
 have h2:m / 4<=t.mask / 4:=Nat.div_le_div_right x.mke
 rw[if_neg (by simp;omega)]
 exact wpAny_pure h
theorem K8{o r:Addr}{So:Int->Bool}{no m:Nat}{ks:List Int}{d:Nat}{ob:Obj}{es:Array (Int×Value)}{ep:Nat}{t:SetTable}{nm:String}{Q:Unit->Shared->Prop}(ho:s.heap.SetOf (intKind prog w) o So no)(x:Has prog w s.heap r ks 0 m ob es ep t)(hor:o≠r)(hlt:no<ks.length / 4)(hm:ks.length<=m)
  (h:∀ s' ob' es' ep' t' ks',Heap.SameBut r s.heap s'.heap->Has prog w s'.heap r ks' no m ob' es' ep' t'->(∀ k,k∈ks'↔(k∈ks/\So k=false))->s'.gens=s.gens/\s'.os=s.os/\s'.drawn=s.drawn->Q () s'):wpAny (model prog w) A (Builtin.Frozenset.differenceUpdate nm r (.ref o)) Q E s:=by
 unfold Builtin.Frozenset.differenceUpdate
 rw[if_neg (by simp;exact hor)]
 refine wpAny_bind (jr ho ?_)
 simp only[if_true]
 refine wpAny_bind (wpAny_pure ?_)
 refine wpAny_bind (Zt ho ?_)
 refine wpAny_bind (Zt x.setOf ?_)
 rw[if_neg (by omega)]
 have ho0:=ho
 obtain⟨oo,eo,epo,to,hoo,hexo,hdo,helo,hmemo,hbo,hfo,hno⟩:=ho0
 refine wpAny_bind (wpAny_setEpoch_of hoo hdo hfo ?_)
 refine wpAny_bind (wpAny_holding ?_)
 refine wpAny_bind (walk_of hoo hdo hfo (fun b hb=>?_) fun es' hp=>?_)
 ·have:b=o∨b=r:=by simpa using hb
  rcases this with rfl | rfl
  ·exact⟨_,_,ho⟩
  ·exact⟨_,_,x.setOf⟩
 ·obtain⟨ko0,hk0⟩:=wa helo
  obtain⟨ko,hko,hpk⟩:=hk0.perm hp
  have hlen:ko.length=no:=by rw[hpk.length_eq,<- hk0.length,<- hno];simp
  refine wpAny_bind (wpAny_forIn_array' _ (fun (rest:List (Int×Value)) _ s'=>∃ done left ob' es' ep' t' ks',ko=done++left/\Keys prog w rest left/\Heap.SameBut r s.heap s'.heap /\
   Has prog w s'.heap r ks' done.length m ob' es' ep' t'/\(∀ k,k∈ks'↔(k∈ks/\k∉done))/\s'.gens=s.gens/\s'.os=s.os/\s'.drawn=s.drawn) _ ?_ ?_ es' _ ⟨[],ko,_,_,_,_,ks,rfl,hko,Heap.SameBut.refl _ _,x,fun k=>by simp,rfl,rfl,rfl⟩)
  ·rintro⟨hh,y⟩ rest u s' ⟨done,left,ob',es2,ep',t',ks',e1,hk,hs1,hx,hmem,g1,g2,g3⟩
   cases hk with
   | @cons k tk _ left hk=>
    have e2:ko=(done++ [k])++left:=by rw[e1];simp
    refine wpAny_bind (wpAny_holding (Y6 hx fun h2 o2 es3 ep3 t3 ks3 b hsb hx3 hm3=>?_))
    have q1:Heap.SameBut r s.heap h2:=hs1.trans hsb
    have still:∀ {Q':PUnit->Shared->Prop},Q' ⟨⟩ { s' with heap:=h2 }->wpAny (model prog w) A (Builtin.Frozenset.unchanged nm o epo) Q' E { s' with heap:=h2 }:=fun {Q'} q2=>by
     unfold Builtin.Frozenset.unchanged
     refine wpAny_bind (wpAny_setEpoch_of (s:={ s' with heap:=h2 }) (by show h2.get? o=_;rw[q1.2 o hor];exact hoo) hdo hfo ?_)
     simp only[bne_self_eq_false,xG,if_false]
     exact wpAny_pure q2
    refine wpAny_bind (still (wpAny_pure ⟨done++ [k],left,_,_,_,_,ks3,e2,hk,q1,by rw[xw];exact hx3,fun k'=>?_,g1,g2,g3⟩))
    rw[hm3,hmem,xJ,uO]
    constructor
    ·rintro⟨⟨h1,h2⟩,h3⟩
     exact⟨h1,fun z=>z.elim h2 h3⟩
    ·rintro⟨h1,h2⟩
     exact⟨⟨h1,fun z=>h2 (.inl z)⟩,fun z=>h2 (.inr z)⟩
  ·rintro u s' ⟨done,left,ob',es2,ep',t',ks',e1,hk,hs1,hx,hmem,g1,g2,g3⟩
   cases hk
   rw[ud]at e1
   subst e1
   refine wpAny_pure ?_
   rw[hlen]at hx
   refine zeC hx ?_ (h s' ob' es2 ep' t' ks' hs1 hx (fun k=>?_) ⟨g1,g2,g3⟩)
   ·have:ks.length / 4<=m / 4:=Nat.div_le_div_right hm
    omega
   ·rw[hmem]
    have h2:k∈ko↔So k=true:=by
     rw[hpk.mem_iff,<- hk0.mem k]
     exact (hmemo k).symm
    rw[h2]
    simp
theorem zeZ{a o:Addr}{Sa So:Int->Bool}{na no:Nat}{ka:List Int}{nm:String}{Q:Value->Shared->Prop}(ha:s.heap.SetOf (intKind prog w) a Sa na)(ho:s.heap.SetOf (intKind prog w) o So no)(hka:ka.Nodup)(hkm:∀ k,Sa k=true↔k∈ka)(hkl:ka.length=na)(hna:na<=60)
  (h:∀ s' T n,(∀ b ob,s.heap.get? b=some ob->s'.heap.get? b=some ob)->s.heap.objs.size<s'.heap.objs.size->s'.heap.SetOf (intKind prog w) s.heap.objs.size T n->(∀ k,T k=(Sa k&& !So k))->(∃ L:List Int,L.Nodup/\L.length=n/\∀ k,T k=true↔k∈L)->s'.gens=s.gens/\s'.os=s.os/\s'.drawn=s.drawn->Q (.ref s.heap.objs.size) s') :
  wpAny (model prog w) A (Builtin.Frozenset.difference nm a (.ref o)) Q E s:=by
 have hlt:∀ {b:Addr} {S:Int->Bool} {n:Nat},s.heap.SetOf (intKind prog w) b S n->b<s.heap.objs.size:=fun {b S n} hS=>by
  obtain⟨ob,_,_,_,hg,_⟩:=hS
  exact Heap.lt_size hg
 have har:a≠s.heap.objs.size:=xu (hlt ha)
 have hor:o≠s.heap.objs.size:=xu (hlt ho)
 unfold Builtin.Frozenset.difference
 dsimp only
 refine wpAny_bind (jr ho ?_)
 simp only[uJ,xG,if_false,if_true,Bool.false_and]
 refine wpAny_bind (wpAny_pure ?_)
 refine wpAny_bind (Zt ho ?_)
 refine wpAny_bind (Zt ha ?_)
 by_cases hbig:na / 4>no
 ·rw[if_pos hbig]
  refine wpAny_bind (wpAny_rule ?_)
  unfold Builtin.Frozenset.copyOf
  refine wpAny_bind (wpAny_bind (vt ha ?_))
  refine wpAny_bind (wpAny_newSet_of (knd:=intKind prog w) fun led hr=>?_)
  refine wpAny_bind (wpAny_pure ?_)
  obtain⟨oa,ea,epa,ta,hoa,hexa,hda,hela,hmema,hba,hfa,hna'⟩:=ha
  have hgr:(s.heap.push { cls:=.type "set",dict:=none,data:=.set #[] 0 (.fresh 0 0 led) }).get? s.heap.objs.size=some { cls:=.type "set",dict:=none,data:=.set #[] 0 (.fresh 0 0 led) }:=Heap.get?_push_size _ rfl
  have hem:kD (s.heap.push { cls:=.type "set",dict:=none,data:=.set #[] 0 (.fresh 0 0 led) }) s.heap.objs.size { cls:=.type "set",dict:=none,data:=.set #[] 0 (.fresh 0 0 led) } 0 (.fresh 0 0 led):=⟨hgr,⟨rfl,rfl,rfl⟩,rfl,rfl,rfl⟩
  refine wpAny_bind (zcu (s:={ s with heap:=s.heap.push { cls:=.type "set",dict:=none,data:=.set #[] 0 (.fresh 0 0 led) } }) har hem rfl (Heap.get?_push_of_some _ hoa) hda hfa (by omega) (by omega) fun h' o' es' ep' t' hsb hg' hex' hd' hp' hf' hdm' hmk'=>?_)
  refine wpAny_pure ?_
  obtain⟨k0,hk0⟩:=wa hela
  obtain⟨kk,hkk,hpk⟩:=hk0.perm hp'
  have hkkl:kk.length=na:=by rw[hpk.length_eq,<- hk0.length,<- hna'];simp
  have hkmem:∀ k,k∈kk↔Sa k=true:=fun k=>by rw[hpk.mem_iff,<- hk0.mem k];exact (hmema k).symm
  have hnd:kk.Nodup:=(perm_of_sub hka (fun y hy=>(hkmem y).mpr ((hkm y).mpr hy)) (by omega)).nodup_iff.mpr hka
  have hes':es'.size=ea.size:=by rw[<- Array.length_toList,hp'.length_eq,Array.length_toList]
  have hHas:Has prog w h' s.heap.objs.size kk 0 na o' es' ep' t':=⟨hg',hex',hd',hela.perm hp',hkk,hnd,hf',by rw[hdm'];simp,by omega,by omega⟩
  have hoo:h'.SetOf (intKind prog w) o So no:=by
   obtain⟨ob,e1,e2,e3,hg,rest⟩:=ho
   exact⟨ob,e1,e2,e3,by rw[hsb.2 o hor];exact Heap.get?_push_of_some _ hg,rest⟩
  refine wpAny_bind (wpAny_pure ?_)
  refine wpAny_bind (wpAny_holding (K8 (s:={ s with heap:=h' }) (d:=0) hoo hHas hor (by omega) (by omega) fun s' ob2 es2 ep2 t2 ks2 hsb2 hx2 hm2 hg2=>?_))
  refine wpAny_pure (h s' (fun k=>decide (k∈ks2)) ks2.length (fun b ob hb=>?_) ?_ hx2.setOf (fun k=>?_) ?_ hg2)
  ·have hne:b≠s.heap.objs.size:=xu (Heap.lt_size hb)
   rw[hsb2.2 b hne]
   show h'.get? b=some ob
   rw[hsb.2 b hne]
   exact Heap.get?_push_of_some _ hb
  ·have:=Heap.lt_size hx2.get
   exact this
  ·have h1:=hm2 k
   rw[hkmem]at h1
   apply xP.mpr
   rw[decide_eq_true_eq,h1]
   simp
  ·exact⟨ks2,hx2.nd,rfl,fun k=>by rw[decide_eq_true_eq]⟩
 ·rw[if_neg hbig]
  refine wpAny_bind (vt ha ?_)
  refine wpAny_bind (wpAny_newSet_of (knd:=intKind prog w) fun led hr=>?_)
  refine wpAny_bind (wpAny_pure ?_)
  have up:∀ {b:Addr} {S:Int->Bool} {n:Nat},s.heap.SetOf (intKind prog w) b S n->(s.heap.push { cls:=.type "set",dict:=none,data:=.set #[] 0 (.fresh 0 0 led) }).SetOf (intKind prog w) b S n:=fun {b S n} hS=>by
   obtain⟨ob,e1,e2,e3,hg,rest⟩:=hS
   exact⟨ob,e1,e2,e3,Heap.get?_push_of_some _ hg,rest⟩
  refine zhC (s:={ s with heap:=s.heap.push { cls:=.type "set",dict:=none,data:=.set #[] 0 (.fresh 0 0 led) } }) (up ha) (up ho) (by have:scanBound=4096:=rfl;omega) hr har hor fun s' T n hsb hS hT hz hg=>?_
  refine h s' T n (fun b ob hb=>?_) ?_ hS hT hz hg
  ·have hne:b≠s.heap.objs.size:=xu (Heap.lt_size hb)
   rw[hsb.2 b hne]
   exact Heap.get?_push_of_some _ hb
  ·obtain⟨_,_,_,_,hg,_⟩:=hS
   exact Heap.lt_size hg
end
end Tab
set_option maxHeartbeats 4000000
namespace Tab
open PySem PySem.SetTable
section
variable {prog:Program} {w:World} {A:Around} {E:Value->Shared->Prop} {s:Shared}
theorem zdi{a o:Addr}{Sa So:Int->Bool}{na no:Nat}{ka:List Int}{Q:PySem.Fin->Shared->Prop}(ha:s.heap.SetOf (intKind prog w) a Sa na)(ho:s.heap.SetOf (intKind prog w) o So no)(hka:ka.Nodup)(hkm:∀ k,Sa k=true↔k∈ka)(hkl:ka.length=na)(hna:na<=60)
  (h:∀ s' T n,(∀ b ob,s.heap.get? b=some ob->s'.heap.get? b=some ob)->s.heap.objs.size<s'.heap.objs.size->s'.heap.SetOf (intKind prog w) s.heap.objs.size T n->(∀ k,T k=(Sa k&& !So k))->(∃ L:List Int,L.Nodup/\L.length=n/\∀ k,T k=true↔k∈L)->s'.gens=s.gens/\s'.os=s.os/\s'.drawn=s.drawn->Q (.done (.ret (.ref s.heap.objs.size))) s') :
  wpAny (model prog w) A (Builtin.«frozenset.__sub__» ⟨[.ref a,.ref o],[]⟩) Q E s:=by
 unfold Builtin.«frozenset.__sub__»
 refine wpAny_bind (m:=Builtin.Frozenset.slot1 "__sub__" ⟨[.ref a,.ref o],[]⟩) ?_
 unfold Builtin.Frozenset.slot1
 refine wpAny_bind (m:=slotArgs "__sub__" 1 ⟨[.ref a,.ref o],[]⟩) (wpAny_pure ?_)
 refine wpAny_pure ?_
 dsimp only
 simp only[xG,if_false,andM]
 refine wpAny_bind (wpAny_bind (jr ha ?_))
 refine jr ho ?_
 simp only[uJ,xG,if_false]
 refine wpAny_bind (wpAny_pure ?_)
 refine wpAny_bind (zeZ ha ho hka hkm hkl hna fun s' T n h1 h2 h3 h4 h5 h6=>?_)
 exact wpAny_pure (h s' T n h1 h2 h3 h4 h5 h6)
theorem Wp:entryFor table "set.__sub__" =some Builtin.«frozenset.__sub__» :=
 entryFor_alias (id':= "frozenset.__sub__") (by kernel_rfl) rfl (by decide +kernel) (by kernel_rfl)
theorem sub_sets{a o:Addr}{Sa So:Int->Bool}{na no:Nat}{ka:List Int}{Q:Value->Shared->Prop}(ha:s.heap.SetOf (intKind prog w) a Sa na)(ho:s.heap.SetOf (intKind prog w) o So no)(hka:ka.Nodup)(hkm:∀ k,Sa k=true↔k∈ka)(hkl:ka.length=na)(hna:na<=60)
  (h:∀ s' T n,(∀ b ob,s.heap.get? b=some ob->s'.heap.get? b=some ob)->s.heap.objs.size<s'.heap.objs.size->s'.heap.SetOf (intKind prog w) s.heap.objs.size T n->(∀ k,T k=(Sa k&& !So k))->(∃ L:List Int,L.Nodup/\L.length=n/\∀ k,T k=true↔k∈L)->s'.gens=s.gens/\s'.os=s.os/\s'.drawn=s.drawn->Q (.ref s.heap.objs.size) s') :
  wpAny (model prog w) A (binaryOp .Sub (.ref a) (.ref o)) Q E s :=
 wpAny_binaryOp_same (qX (h:=s.heap) ha) (qX (h:=s.heap) ho) PySem.F.fills_set_sub PySem.F.slot_set_sub
  (wpAny_call_entry PySem.F.slot_set_sub (qX (h:=s.heap) ha) Wp (zdi ha ho hka hkm hkl hna fun s' T n h1 h2 h3 h4 h5 h6=>⟨_,rfl,(fun z=>nomatch z),h s' T n h1 h2 h3 h4 h5 h6⟩) (PySem.F.args_set_sub_2 _ _))
end
end Tab
set_option maxHeartbeats 4000000
namespace L2
open PySem PySem.Spec PyProof.Rows
theorem Yh(ns:List Int):(List.range ns.length).map (fun i=>ns.getD i 0)=ns:=by
 apply List.ext_getElem
 ·simp
 ·intro i h1 h2
  simp at h1
  simp[h1]
theorem Zl(ns:List Int):firstMet (fun i=>ns.getD i 0) ns.length=Tab.dedup ns:=by
 unfold firstMet Tab.dedup
 rw[Yh]
noncomputable def Za(ns ms:List Int):Nat:=(Tab.dedup (ns.filter fun k=> !ms.contains k)).length
section
variable {X:Cx}
theorem Yq {l:Expr}{p pos:Pos}(hc:X.calm=true) (hg:Gl X "set") (hm:X.mg "set" =none) (hst:starEach [l] X.env= [(false,eval l X.env)]){pins:List (Addr×Obj)}{s:Shared}{σ:St}{H:Hp}{R:List Int->Hp->Prop}(I:Inv X pins σ H s)
  (h:wpE X l σ H (fun v H1=>∃ a ns,v=.ref a/\SqL X.K H1 a (List.map V.int ns)/\ns.length<=60/\R ns H1)) :
  wpAny (model X.prog X.w) X.A (eval (.Call (.Name "set" p) [l] [] pos) X.env) (fun u s'=>∃ (r:Addr) (ns:List Int) (H1:Hp),u=.ref r/\Inv X pins σ H1 s'/\Jn X pins H1 r/\ns.length<=60/\s'.heap.SetOf (intKind X.prog X.w) r (fun k=>(Tab.dedup ns).any (·==k)) (Tab.dedup ns).length/\R ns H1) X.xe s:=by
 have h':Ko (wpE X l) zct σ H (fun vs H1=>∃ v,vs= [v]/\∃ a ns,v=.ref a/\SqL X.K H1 a (List.map V.int ns)/\ns.length<=60/\R ns H1):=wpE.mono h fun v H1 q=>⟨v,rfl,q⟩
 refine Call_ (jt I hg hm boot_setW (PyProof.Rows.callWith_type1 (thn ((zy zf pa_nil hst) pos pins s σ H _ I h') fun us s1 ⟨vs,H1,I1,r1,q1⟩=>?_) hst rfl))
 obtain⟨v,rfl,a,ns,rfl,hq,hn,q⟩:=q1
 obtain⟨u,rfl,ru⟩:=Zg r1
 cases ru
 obtain⟨its,rv,pl,hz⟩:=I1.list hq
 have hlen:=rv.length
 rw[xi]at hlen
 have hsz:its.toArray.size=ns.length:=by rw[xp];exact hlen.symm
 refine call_set_list (I1.ok.hd hc) pl.isList (IntsAre.of rv) (by rw[hsz];have:scanBound=4096:=rfl;omega) fun h2 tk hS hk=>?_
 rw[hsz,Zl]at hS
 exact⟨s1.heap.objs.size,ns,H1,rfl,I1.kept (t':=tk) fun b o e=>hk b o (Heap.lt_size e) e,I1.fpOk (xm _) (I1.hok.fresh (xm _)),hn,hS,q⟩
theorem Qz(ns:List Int)(k:Int):(Tab.dedup ns).any (·==k)=true↔k∈Tab.dedup ns:=by simp
theorem zbX{ns ms L:List Int}{n:Nat}(hL:L.Nodup)(hl:L.length=n)(hm:∀ k,k∈L↔(k∈ns/\k∉ms)):n=Za ns ms:=by
 unfold Za
 rw[<- hl]
 have hd:∀ k,k∈Tab.dedup (ns.filter fun k=> !ms.contains k)↔(k∈ns/\k∉ms):=fun k=>by
  rw[<- Qz,Tab.any_dedup,xr];simp
 have p1:=Tab.perm_of_sub (fm:=L) (ks:=Tab.dedup (ns.filter fun k=> !ms.contains k)) hL (fun x hx=>(hd x).mpr ((hm x).mp hx))
 have p2:=Tab.perm_of_sub (fm:=Tab.dedup (ns.filter fun k=> !ms.contains k)) (ks:=L) (Tab.nodup_dedup _) (fun x hx=>(hm x).mpr ((hd x).mp hx))
 rcases Nat.le_total L.length (Tab.dedup (ns.filter fun k=> !ms.contains k)).length with h | h
 ·exact (p2 h).length_eq
 ·exact (p1 h).length_eq.symm
theorem jB(ns:List Int):(Tab.dedup ns).length<=ns.length:=by
 have h1:∀ (l acc:List Int),(l.foldl PyProof.Rows.step_dedup acc).length<=acc.length+l.length:=by
  intro l
  induction l with
  |nil=>intro acc;simp
  |cons x l ih=>
   intro acc
   rw[uC]
   refine xM (ih _) ?_
   rw[PyProof.Rows.step_length,xk]
   split<;>omega
 have:=h1 ns []
 simpa [Tab.dedup] using this
theorem Yp {a b:Expr}{p1 p2 p3 q1 q2 q3 pb:Pos}(hc:X.calm=true) (hgl:Gl X "len") (hml:X.mg "len" =none) (hgs:Gl X "set") (hms:X.mg "set" =none) (hsa:starEach [a] X.env= [(false,eval a X.env)]) (hsb:starEach [b] X.env= [(false,eval b X.env)]) :
  PE X (.Call (.Name "len" p1) [.BinOp (.Call (.Name "set" p2) [a] [] q2) .Sub (.Call (.Name "set" p3) [b] [] q3) pb] [] q1) (fun σ H Q=>wpE X a σ H fun v H1=>∃ l ns,v=.ref l/\SqL X.K H1 l (List.map V.int ns)/\ns.length<=60 /\
   wpE X b σ H1 fun u H2=>∃ l2 ms,u=.ref l2/\SqL X.K H2 l2 (List.map V.int ms)/\ms.length<=60/\Q (.int (Za ns ms)) H2):=by
 intro pins s σ H Q I h
 refine wpAny_Call_Name_kw (jt I hgl hml PySem.boot_len ?_)
 refine PyProof.Rows.callWith_builtin1 (E:=X.xe) ?_ rfl rfl
 show wpAny _ _ (spliced ((false,eval (.BinOp (.Call (.Name "set" p2) [a] [] q2) .Sub (.Call (.Name "set" p3) [b] [] q3) pb) X.env)::backTo q1 (starEach [] X.env))) _ _ s
 refine Calls.spliced_cons (wpAny_BinOp ?_)
 refine thn (Yq hc hgs hms hsa (R:=fun ns H1=>wpE X b σ H1 fun u H2=>∃ l2 ms,u=.ref l2/\SqL X.K H2 l2 (List.map V.int ms)/\ms.length<=60/\Q (.int (Za ns ms)) H2) I h) fun v s1 ⟨r1,ns,H1,e1,I1,f1,hn,hS1,q⟩=>?_
 subst e1
 have hS1':=hS1
 obtain⟨o1,es1,ep1,t1,hg1,hx1,hd1,rest1⟩:=hS1'
 have hncell:∀ v,o1.data≠ .cell v:=fun v z=>by rw[hd1]at z;cases z
 have hfp:∀ b∈ [r1],Jn X pins H1 b:=fun b hb=>by
  have:b=r1:=by simpa using hb
  subst this;exact f1
 have Ip:=I1.pinned (fp:= [r1]) hfp fun b hb=>by
  have:b=r1:=by simpa using hb
  subst this;exact⟨o1,hg1,hncell⟩
 refine thn (Yq hc hgs hms hsb (R:=fun ms H2=>Q (.int (Za ns ms)) H2) Ip q) fun u s2 ⟨r2,ms,H2,e2,I2,f2,hn2,hS2,q2⟩=>?_
 subst e2
 have hpin:=I2.pin (r1,o1) (xB _ (xB _ (by
  unfold Js
  simp[hg1])))
 have hS1b:s2.heap.SetOf (intKind X.prog X.w) r1 (fun k=>(Tab.dedup ns).any (·==k)) (Tab.dedup ns).length:=⟨o1,es1,ep1,t1,hpin.1,hx1,hd1,rest1⟩
 refine Tab.sub_sets hS1b hS2 (Tab.nodup_dedup ns) (Qz ns) rfl (xM (jB ns) hn) fun s3 T n k1 k2 hS3 hT hL hg=>?_
 obtain⟨L,hL1,hL2,hL3⟩:=hL
 have hnn:n=Za ns ms:=zbX hL1 hL2 fun k=>by
  rw[<- hL3,hT,xa,Bool.not_eq_true',<- Bool.not_eq_true,Tab.any_dedup,Tab.any_dedup]
 refine Calls.spliced_nil ?_
 obtain⟨o3,es3,ep3,t3,hg3,hx3,hd3,_,_,hb3,hf3,hn3⟩:=hS3
 have hsb:scanBound=4096:=rfl
 refine call_len_set hg3 hx3 hd3 hf3 (by omega) ?_
 have I3:Inv X pins σ H2 { s2 with heap:=s3.heap,toks:=s3.toks+1+1 }:=I2.unpinned.kept k1
 have es:({ heap:=s3.heap,gens:=s3.gens,drawn:=s3.drawn,toks:=s3.toks+1+1,os:=s3.os }:Shared)={ s2 with heap:=s3.heap,toks:=s3.toks+1+1 }:=by
  rw[hg.1,hg.2.1,hg.2.2]
 refine⟨.int (Za ns ms),H2,?_,⟨s3.toks+1,?_⟩,q2⟩
 ·rw[es];exact I3
 ·rw[hn3,hnn]
end
end L2
namespace L3
open PySem PySem.Spec PyProof.Rows L2
noncomputable def kN(fa fb:EM FV):EM FV:=fun Γ=>(fa Γ).bind fun (u,Γ1)=>match (derL Γ1 u).bind qk with
 |some ns=>if ns.length<=60 then (fb Γ1).bind fun (w,Γ2)=>match (derL Γ2 w).bind qk with
  |some ms=>if ms.length<=60 then .ok (.dat (.int (Za ns ms)),Γ2) else .bad
  |none=>.bad
  else .bad
 |none=>.bad
section
variable {X:Cx} {XP:XPT} {mp:List Nat} {a b:Expr} {fa fb:EM FV}
theorem VE{M0:Addr->Prop}{F:Fp}{Γ:Gv}{ν:Nu}{H:Hp}{v:V}{u:FV}{ns:List Int}(o:FOk M0 F ν H v u)(rs:RS M0 F Γ ν H)(e:(derL Γ u).bind qk=some ns):∃ l,v=.ref l/\H l=some (.lst (List.map V.int ns)):=by
 cases ed:derL Γ u with
 |none=>rw[ed]at e;cases e
 |some ds=>
  rw[ed]at e
  have eds:=QZ (by simpa using e:qk ds=some ns)
  subst eds
  obtain⟨l,vs,rfl,el,r⟩:=o.list rs ed
  have ev:=RepL.intsInv r
  subst ev
  exact⟨l,rfl,el⟩
theorem zdT {p1 p2 p3 q1 q2 q3 pb:Pos}(hc:X.calm=true) (hgl:Gl X "len") (hml:X.mg "len" =none) (hgs:Gl X "set") (hms:X.mg "set" =none) (ha:SE X XP mp a fa) (hb:SE X XP mp b fb) (hsa:starEach [a] X.env= [(false,eval a X.env)]) (hsb:starEach [b] X.env= [(false,eval b X.env)]) :
  SE X XP mp (.Call (.Name "len" p1) [.BinOp (.Call (.Name "set" p2) [a] [] q2) .Sub (.Call (.Name "set" p3) [b] [] q3) pb] [] q1) (kN fa fb):=fun M0 F Γ ν σ H Q rs hs hp=>by
 refine (Yp hc hgl hml hgs hms hsa hsb).wp (ha.run rs hs hp fun F1 Γ1 H1 u v rs1 s1 o1 h1=>?_)
 dsimp only at h1
 split at h1
 ·rename_i ns en
  split at h1
  ·rename_i hn
   obtain⟨l,rfl,el⟩:=VE o1 rs1 en
   refine⟨l,ns,rfl,SqL.of el,hn,hb.run rs1 hs h1 fun F2 Γ2 H2 w v2 rs2 s2 o2 h2=>?_⟩
   dsimp only at h2
   split at h2
   ·rename_i ms em
    split at h2
    ·rename_i hm
     obtain⟨l2,rfl,el2⟩:=VE o2 rs2 em
     exact⟨l2,ms,rfl,SqL.of el2,hm,h2 F2 H2 rs2 (.refl _ _) _ (Rep.int _)⟩
    ·exact h2.elim
   ·exact h2.elim
  ·exact h1.elim
 ·exact h1.elim
end
end L3
namespace Tab
open PySem PySem.Spec PyProof.Rows
noncomputable abbrev qY (led:Bool):Obj:={ cls:=.type "set",dict:=none,data:=.set #[] 0 (.fresh 0 0 led) }
section
variable {prog:Program} {w:World} {A:Around} {E:Value->Shared->Prop} {s:Shared}
set_option maxHeartbeats 3200000 in
theorem set_tuple{a:Addr}{vs:Array Value}{ns:List Int}{Q:Value->Shared->Prop}(hd:A.handled=none)(ht:s.heap.IsTuple a vs)(hv:IntsAre vs.toList ns)(hsz:vs.size+1<scanBound)
  (k:∀ (h2:Heap) (tk:Nat),h2.SetOf (intKind prog w) s.heap.objs.size (fun z=>(firstMet (fun i=>ns.getD i 0) vs.size).any (·==z)) (firstMet (fun i=>ns.getD i 0) vs.size).length ->
   (∀ b o,b<s.heap.objs.size->s.heap.get? b=some o->h2.get? b=some o)->Q (.ref s.heap.objs.size) { s with heap:=h2,toks:=tk }) :
  wpAny (model prog w) A (call (.type "set") [.ref a]) Q E s:=by
 obtain⟨c0,t0,m0⟩:=F.called_set.mro
 have m1:=F.called_set.made
 have m2:=F.called_set.sub
 have m3:=F.called_set.notType
 have m4:=F.called_set.canCreate
 have m5:=F.typeCall_set_1 (.ref a)
 refine wpAny_call (codeAny_of_tree ?_)
 show wpAny _ _ (callAny (.type "set") ⟨[.ref a],[]⟩) _ _ s
 refine wpAny_pure ⟨Code.quiet_builtin _ (by decide +kernel),codeAny_builtin F.entry_type_call ?_⟩
 rw[Around.under_plain (weight_type_call_type "set" [.ref a] []) rfl]
 repeat (any_goals (first | assumption | wp_step))
 refine codeAny_mono (code_set_new_1 (.ref a) (E:=E) (Q₁:=fun z z1=>∃ led:Bool,z=.ref s.heap.objs.size/\z1={ s with heap:=s.heap.push (qY led) }) fun led=>⟨led,rfl,rfl⟩) fun r z1 hr=>?_
 cases r with
 |error e=>exact hr
 |ok fl=>
  cases fl with
  |next=>exact hr.elim
  |brk=>exact hr.elim
  |cont=>exact hr.elim
  |ret z=>
   obtain⟨led,rfl,rfl⟩:=hr
   have g0:(s.heap.push (qY led)).get? s.heap.objs.size=some (qY led):=Heap.get?_push_size _ rfl
   have g1:Shared.TypeIs { s with heap:=s.heap.push (qY led) } (.ref s.heap.objs.size) "set" :=⟨_,g0,rfl⟩
   have g2:=F.called_set.init.lookup
   have g3:=F.called_set.init.bind (.ref s.heap.objs.size)
   repeat (any_goals (first | assumption | wp_step))
   refine codeAny_mono (codeAny_call_builtin (R:=wants (fun r z2=>r=.none/\∃ h2 tk,z2={ s with heap:=h2,toks:=tk } /\
     h2.SetOf (intKind prog w) s.heap.objs.size (fun z=>(firstMet (fun i=>ns.getD i 0) vs.size).any (·==z)) (firstMet (fun i=>ns.getD i 0) vs.size).length /\
     ∀ b o,b<s.heap.objs.size->s.heap.get? b=some o->h2.get? b=some o) E) F.called_set.init.plain F.entry_set_init (check_set_init_1 g1 ?_)) fun r2 z2 hr2=>?_
   ·have ht1:=ht.push (qY led)
    obtain⟨ot,e1,e2,nt,e3⟩:=ht
    have hlt:=Heap.lt_size e1
    cases ot with
    |mk oc od odt osl=>
     dsimp only at e2 e3
     subst e2 e3
     have e1':(s.heap.push (qY led)).get? a=some { cls:=.type "tuple",dict:=od,data:=.seq vs nt,slots:=osl }:=Heap.get?_push_of_some _ e1
     have f1:=F.sub_tuple_set
     have f2:=F.sub_tuple_frozenset
     have f3:(Value.type "tuple" ==Value.type "dict")=false:=by decide
     unfold Builtin.«set.__init__» noKeywords Builtin.Frozenset.updateFrom
     generalize hpi:pyIter=pI
     wp_walk
     subst hpi
     refine wpAny_pyIter_tuple ht1 (wpAny_bind (wpAny_runValue ?_))
     have sz1:(s.heap.push (qY led)).objs.size=s.heap.objs.size+1:=Heap.size_push ..
     have n1:a≠(s.heap.push (qY led)).objs.size:=by rw[sz1];exact xu (uR hlt)
     have n2:s.heap.objs.size∉ [(s.heap.push (qY led)).objs.size,a]:=fun z=>by
      rcases xo.mp z with z | z
      ·rw[sz1]at z;exact absurd z (xu (uU _))
      ·have:s.heap.objs.size=a:=by simpa using z
       exact absurd this.symm (xu hlt)
     have n3:A.in1.in1.in1.handled=none:=by simp[hd]
     refine codeAny_set_update_loopS ((Walks.tuple n3 _ a n1 vs).toS) s.heap.objs.size n2 (fun i=>ns.getD i 0) (fun i v q=>IntsAre.int_at hv i v (by rw[Array.getElem?_toList];exact q)) hsz (vs.size-0) 0 _ rfl (ui _)
      ⟨⟨_,Heap.get?_push_size _ rfl,rfl,rfl⟩,ht1.push _⟩ ?u ?v
     case u=>
      have g4:=Heap.get?_push_of_some (h:=s.heap.push (qY led)) { cls:=.type "tuple_iterator",data:=.fields #[.ref a,.int 0 0] } g0
      exact SetOf_congr ((setObjOf_fresh (knd:=intKind prog w) led).setOf g4 (by unfold scanBound;omega)) (fun _=>rfl) rfl
     case v=>
      intro z2 hm hS
      have q1:=hm.gens
      have q2:=hm.drawn
      have q3:=hm.os
      have q4:=hm.heap
      cases z2 with
      |mk h2 gg gd gt go=>
       dsimp only at q1 q2 q3 q4 hS
       subst q1 q2 q3
       show wpAny _ _ _ _ _ _
       refine wpAny_pure ?_
       show wpAny _ _ (ret Value.none) _ _ _
       refine wpAny_pure ⟨rfl,h2,gt,rfl,hS,fun b o hb e=>q4 b o (fun z=>?_) (Heap.get?_push_of_some _ (Heap.get?_push_of_some _ e))⟩
       rcases xo.mp z with z | z
       ·exact absurd z (xu hb)
       ·have:b=(s.heap.push (qY led)).objs.size:=by simpa using z
        rw[sz1]at this;omega
   ·cases r2 with
    |error e=>exact hr2
    |ok fl2=>
     cases fl2 with
     |next=>exact hr2.elim
     |brk=>exact hr2.elim
     |cont=>exact hr2.elim
     |ret r=>
      obtain⟨rfl,h2,tk,rfl,hS,hk⟩:=hr2
      repeat (any_goals (first | assumption | wp_step))
      exact k h2 tk hS hk
end
end Tab
namespace L2
open PySem PySem.Spec PyProof.Rows
section
variable {X:Cx}
theorem zeq {l:Expr}{p pos:Pos}(hc:X.calm=true) (hg:Gl X "set") (hm:X.mg "set" =none) (hst:starEach [l] X.env= [(false,eval l X.env)]){pins:List (Addr×Obj)}{s:Shared}{σ:St}{H:Hp}{R:List Int->Hp->Prop}(I:Inv X pins σ H s)
  (h:wpE X l σ H (fun v H1=>∃ a ns,v=.ref a/\SqT X.K H1 a (List.map V.int ns)/\ns.length<=60/\R ns H1)) :
  wpAny (model X.prog X.w) X.A (eval (.Call (.Name "set" p) [l] [] pos) X.env) (fun u s'=>∃ (r:Addr) (ns:List Int) (H1:Hp),u=.ref r/\Inv X pins σ H1 s'/\ns.length<=60/\s'.heap.SetOf (intKind X.prog X.w) r (fun k=>(Tab.dedup ns).any (·==k)) (Tab.dedup ns).length/\R ns H1) X.xe s:=by
 have h':Ko (wpE X l) zct σ H (fun vs H1=>∃ v,vs= [v]/\∃ a ns,v=.ref a/\SqT X.K H1 a (List.map V.int ns)/\ns.length<=60/\R ns H1):=wpE.mono h fun v H1 q=>⟨v,rfl,q⟩
 refine Call_ (jt I hg hm boot_setW (PyProof.Rows.callWith_type1 (thn ((zy zf pa_nil hst) pos pins s σ H _ I h') fun us s1 ⟨vs,H1,I1,r1,q1⟩=>?_) hst rfl))
 obtain⟨v,rfl,a,ns,rfl,hq,hn,q⟩:=q1
 obtain⟨u,rfl,ru⟩:=Zg r1
 cases ru
 obtain⟨its,rv,pl,hz⟩:=I1.tuple hq
 have hlen:=rv.length
 rw[xi]at hlen
 have hsz:its.toArray.size=ns.length:=by rw[xp];exact hlen.symm
 refine Tab.set_tuple (I1.ok.hd hc) (show s1.heap.IsTuple a its.toArray from pl) (IntsAre.of rv) (by rw[hsz];have:scanBound=4096:=rfl;omega) fun h2 tk hS hk=>?_
 rw[hsz,Zl]at hS
 exact⟨s1.heap.objs.size,ns,H1,rfl,I1.kept (t':=tk) fun b o e=>hk b o (Heap.lt_size e) e,hn,hS,q⟩
theorem YY {a:Expr}{p1 p2 q1 q2:Pos}(hc:X.calm=true) (hgl:Gl X "len") (hml:X.mg "len" =none) (hgs:Gl X "set") (hms:X.mg "set" =none) (hsa:starEach [a] X.env= [(false,eval a X.env)]) :
  PE X (.Call (.Name "len" p1) [.Call (.Name "set" p2) [a] [] q2] [] q1) (fun σ H Q=>wpE X a σ H fun v H1=>∃ l ns,v=.ref l/\SqT X.K H1 l (List.map V.int ns)/\ns.length<=60/\Q (.int (Tab.dedup ns).length) H1):=by
 intro pins s σ H Q I h
 refine wpAny_Call_Name_kw (jt I hgl hml PySem.boot_len ?_)
 refine PyProof.Rows.callWith_builtin1 (E:=X.xe) ?_ rfl rfl
 show wpAny _ _ (spliced ((false,eval (.Call (.Name "set" p2) [a] [] q2) X.env)::backTo q1 (starEach [] X.env))) _ _ s
 refine Calls.spliced_cons ?_
 refine thn (zeq hc hgs hms hsa (R:=fun ns H1=>Q (.int (Tab.dedup ns).length) H1) I h) fun v s1 ⟨r1,ns,H1,e1,I1,hn,hS1,q⟩=>?_
 subst e1
 refine Calls.spliced_nil ?_
 obtain⟨o3,es3,ep3,t3,hg3,hx3,hd3,_,_,hb3,hf3,hn3⟩:=hS1
 have hsb:scanBound=4096:=rfl
 have hdl:=jB ns
 obtain⟨hh,gg,gd,gt,go⟩:=s1
 refine call_len_set hg3 hx3 hd3 hf3 (by omega) ?_
 refine⟨.int (Tab.dedup ns).length,H1,I1.kept (t':=gt+1+1) fun b o e=>e,⟨gt+1,?_⟩,q⟩
 rw[hn3]
end
end L2
namespace L3
open PySem PySem.Spec PyProof.Rows L2
section
variable {X:Cx} {XP:XPT} {mp:List Nat} {a b:Expr} {p1 p2 q1 q2:Pos} {fa fb:EM FV}
noncomputable def yd(fa:EM FV):EM FV:=fun Γ=>(fa Γ).bind fun (u,Γ1)=>match derS Γ1 u with
 |some (.tuple ds)=>match qk ds with
  |some ns=>if ns.length<=60 then .ok (.dat (.int (Tab.dedup ns).length),Γ1) else .bad
  |none=>.bad
 |_=>.bad
theorem jE{M:Addr->Prop}{H:Hp}:∀ {vs:List V}{ds:List PyData}{ns:List Int},RepL M H vs ds->qk ds=some ns->vs=ns.map V.int
 |_,_,_,.nil,e=>by cases e;rfl
 |_,_,_,.cons (ds:=ds) (d:=d) r t,e=>by
  cases d with
  |int i=>
   unfold qk at e
   cases q:qk ds with
   |none=>rw[q]at e;cases e
   |some ms=>
    rw[q]at e
    cases e
    cases r
    rw[xI,jE t q]
  |_=>cases e
theorem zdy (hc:X.calm=true) (hgl:Gl X "len") (hml:X.mg "len" =none) (hgs:Gl X "set") (hms:X.mg "set" =none) (ha:SE X XP mp a fa) (hsa:starEach [a] X.env= [(false,eval a X.env)]) :
  SE X XP mp (.Call (.Name "len" p1) [.Call (.Name "set" p2) [a] [] q2] [] q1) (yd fa):=fun M0 F Γ ν σ H Q rs hs hp=>by
 refine (YY hc hgl hml hgs hms hsa).wp (ha.run rs hs hp fun F1 Γ1 H1 u v rs1 s1 o1 h1=>?_)
 dsimp only at h1
 split at h1
 ·rename_i ds ed
  split at h1
  ·rename_i ns en
   split at h1
   ·rename_i hn
    obtain⟨l,vs,rfl,el,r⟩:=(o1.strong rs1 ed).tup_inv
    have hv:=jE r en
    subst hv
    exact⟨l,ns,rfl,SqT.of el,hn,h1 F1 H1 rs1 (.refl _ _) _ (Rep.int _)⟩
   ·exact h1.elim
  ·exact h1.elim
 ·exact h1.elim
end
end L3
namespace L2
open PySem PySem.Spec PyProof.Rows
section
variable {X:Cx} {e:Expr} {te:TE} {st:Expr} {ts:TO} {pos p2:Pos}
end
end L2
namespace L2
open PySem PySem.Spec PyProof.Rows
section
variable {X:Cx}
end
end L2
namespace L3
open PySem PySem.Spec PyProof.Rows L2
section
variable {X:Cx} {XP:XPT} {mp:List Nat} {a st:Expr} {p p2 pos:Pos} {fa fs:EM FV}
end
end L3
namespace L3
open PySem PySem.Spec PyProof.Rows L2
inductive AV where
 |v (u:FV)
 |io (i:Nat)
inductive AOks(M0:Addr->Prop)(F:Fp)(ν:Nu)(H:Hp):List V->List AV->Prop
 |nil:AOks M0 F ν H [] []
 |v {v:V} {vs:List V} {u:FV} {as:List AV}:FOk M0 F ν H v u->AOks M0 F ν H vs as->AOks M0 F ν H (v::vs) (.v u::as)
 |io {v:V} {vs:List V} {i:Nat} {as:List AV}:ν[i]?=some (some v)->AOks M0 F ν H vs as->AOks M0 F ν H (v::vs) (.io i::as)
noncomputable def APost(M0:Addr->Prop)(F:Fp)(ν:Nu)(σ:St)(H:Hp)(XP:XPT)(P:Fp->Gv->Nu->Hp->List AV->Prop)(r:R (List AV×Gv)):Prop:=match r with
 |.ok (as,Γ')=>∀ F' ν' H',RS M0 F' Γ' ν' H'->ν <+: ν'->Stp F H F' H'->P F' Γ' ν' H' as
 |.exc x Γ'=>∀ F' H',RS M0 F' Γ' ν H'->Stp F H F' H'->XP x Γ' F' ν σ H'
 |.bad=>False
noncomputable def OPost(M0:Addr->Prop)(F:Fp)(ν:Nu)(σ:St)(H:Hp)(XP:XPT)(P:Fp->Gv->Hp->OV->V->Prop)(r:R (OV×Gv)):Prop:=match r with
 |.ok (o,Γ')=>∀ F' H' v,RS M0 F' (Γ'++ [some o]) (ν++ [some v]) H'->Stp F H F' H'->P F' Γ' H' o v
 |.exc x Γ'=>∀ F' H',RS M0 F' Γ' ν H'->Stp F H F' H'->XP x Γ' F' ν σ H'
 |.bad=>False
noncomputable def SA(X:Cx)(XP:XPT)(mp:List Nat)(es:List Expr)(f:EM (List AV)):Prop:=∀ (M0:Addr->Prop) (F:Fp) (Γ:Gv) (ν:Nu) (σ:St) (H:Hp) (Q:List V->Hp->Prop),RS M0 F Γ ν H->Sees mp ν σ ->
 APost M0 F ν σ H XP (fun F' Γ' ν' H' as=>∀ vs,AOks M0 F' ν' H' vs as->Q vs H') (f Γ)->wpA X es σ H Q
noncomputable def SO(X:Cx)(XP:XPT)(mp:List Nat)(e:Expr)(f:EM OV):Prop:=∀ (M0:Addr->Prop) (F:Fp) (Γ:Gv) (ν:Nu) (σ:St) (H:Hp) (Q:VK),RS M0 F Γ ν H->Sees mp ν σ ->
 OPost M0 F ν σ H XP (fun F' Γ' H' o v=>Q v H') (f Γ)->wpE X e σ H Q
section
variable {M0:Addr->Prop} {F:Fp} {Γ:Gv} {ν:Nu} {σ:St} {H:Hp} {XP:XPT} {α:Type}
theorem APost.seq{P:Fp->Gv->Nu->Hp->List AV->Prop}{r:R (α×Gv)}{k:α×Gv->R (List AV×Gv)}(h:APost M0 F ν σ H XP P (r.bind k)):EPost M0 F ν σ H XP (fun F1 Γ1 H1 a=>APost M0 F1 ν σ H1 XP P (k (a,Γ1))) r:=by
 cases r with
 |ok a=>
  obtain⟨a,Γ1⟩:=a
  intro F1 H1 rs1 s1
  have h':APost M0 F ν σ H XP P (k (a,Γ1)):=h
  revert h'
  generalize k (a,Γ1)=r2
  intro h'
  cases r2 with
  |ok b=>exact fun F' ν' H' rs hn s=>h' F' ν' H' rs hn (s1.trans s)
  |exc x Γ'=>exact fun F' H' rs s=>h' F' H' rs (s1.trans s)
  |bad=>exact h'
 |exc x Γ'=>exact h
 |bad=>exact h
theorem APost.mono{P P':Fp->Gv->Nu->Hp->List AV->Prop}{r:R (List AV×Gv)}(h:APost M0 F ν σ H XP P r)(k:∀ F' Γ' ν' H' as,RS M0 F' Γ' ν' H'->ν <+: ν'->Stp F H F' H'->P F' Γ' ν' H' as->P' F' Γ' ν' H' as):APost M0 F ν σ H XP P' r:=by
 cases r with
 |ok a=>exact fun F' ν' H' rs hn s=>k F' _ ν' H' _ rs hn s (h F' ν' H' rs hn s)
 |exc x Γ'=>exact h
 |bad=>exact h
theorem OPost.seq{P:Fp->Gv->Hp->OV->V->Prop}{r:R (α×Gv)}{k:α×Gv->R (OV×Gv)}(h:OPost M0 F ν σ H XP P (r.bind k)):EPost M0 F ν σ H XP (fun F1 Γ1 H1 a=>OPost M0 F1 ν σ H1 XP P (k (a,Γ1))) r:=by
 cases r with
 |ok a=>
  obtain⟨a,Γ1⟩:=a
  intro F1 H1 rs1 s1
  have h':OPost M0 F ν σ H XP P (k (a,Γ1)):=h
  revert h'
  generalize k (a,Γ1)=r2
  intro h'
  cases r2 with
  |ok b=>exact fun F' H' v rs s=>h' F' H' v rs (s1.trans s)
  |exc x Γ'=>exact fun F' H' rs s=>h' F' H' rs (s1.trans s)
  |bad=>exact h'
 |exc x Γ'=>exact h
 |bad=>exact h
theorem OPost.mono{P P':Fp->Gv->Hp->OV->V->Prop}{r:R (OV×Gv)}(h:OPost M0 F ν σ H XP P r)(k:∀ F' Γ' H' o v,RS M0 F' (Γ'++ [some o]) (ν++ [some v]) H'->Stp F H F' H'->P F' Γ' H' o v->P' F' Γ' H' o v):OPost M0 F ν σ H XP P' r:=by
 cases r with
 |ok a=>exact fun F' H' v rs s=>k F' _ H' _ v rs s (h F' H' v rs s)
 |exc x Γ'=>exact h
 |bad=>exact h
end
section
variable {X:Cx} {XP:XPT} {mp:List Nat} {a b c e:Expr} {es:List Expr} {pos p p2:Pos} {fa fb fc:EM FV} {ta tb:EM Bool} {na nb:EM (List PyData)} {fl:EM (List AV)} {fo:EM OV}
noncomputable def fOwn(n:EM (List PyData)):EM OV:=fun Γ=>(n Γ).bind fun (ds,Γ1)=>.ok (.l (ds.map .d),Γ1)
theorem SN.so(h:SN X XP mp a na):SO X XP mp a (fOwn na):=fun M0 F Γ ν σ H Q rs hs hp=>
 h M0 F Γ ν σ H Q rs hs (hp.seq.mono fun F1 Γ1 H1 ds rs1 s1 h1 vs p r n=>by
  obtain⟨r2,s2⟩:=rs1.newO n r
  exact h1 _ _ _ r2 s2)
noncomputable def fOD(f:EM OV):EM FV:=fun Γ=>(f Γ).bind fun (o,Γ1)=>.ok (.dat o.view,Γ1)
theorem SO.se(h:SO X XP mp a fo):SE X XP mp a (fOD fo):=fun M0 F Γ ν σ H Q rs hs hp=>
 h M0 F Γ ν σ H Q rs hs (by
  have hp':EPost M0 F ν σ H XP (fun F' Γ' H' u=>∀ v,FOk M0 F' ν H' v u->Q v H') ((fo Γ).bind fun (o,Γ1)=>.ok (.dat o.view,Γ1)):=hp
  revert hp'
  generalize fo Γ=r
  intro hp'
  cases r with
  |ok z=>
   obtain⟨o,Γ1⟩:=z
   intro F' H' v rs' s'
   obtain⟨F2,rs2,s2,r2⟩:=rs'.dropD
   exact hp' F2 H' rs2 (s'.trans s2) v r2
  |exc x y=>exact hp'
  |bad=>exact hp')
theorem FOk.ext{M0:Addr->Prop}{F:Fp}{ν ν':Nu}{H:Hp}{v:V}{u:FV}(h:FOk M0 F ν H v u)(hn:ν <+: ν'):FOk M0 F ν' H v u:=by
 cases u with
 |dat x=>exact h
 |own i=>
  have h':ν[i]?=some (some v):=h
  obtain⟨t,rfl⟩:=hn
  show (ν++t)[i]?=_
  rw[xf (xc.mp h').1];exact h'
noncomputable def aNil:EM (List AV):=fun Γ=>.ok ([],Γ)
noncomputable def aCons(fa:EM FV)(fl:EM (List AV)):EM (List AV):=fun Γ=>(fa Γ).bind fun (u,Γ1)=>(fl Γ1).bind fun (as,Γ2)=>.ok (.v u::as,Γ2)
noncomputable def aIo(i:Nat)(fl:EM (List AV)):EM (List AV):=fun Γ=>match Γ[i]? with
 |some (some _)=>(fl Γ).bind fun (as,Γ2)=>.ok (.io i::as,Γ2)
 |_=>.bad
noncomputable def zfS(n:EM (List PyData)):EM (List AV):=fun Γ=>(n Γ).bind fun (ds,Γ1)=>.ok ([.io Γ1.length],Γ1++ [some (.l (ds.map .d))])
theorem zfZ:SA X XP mp [] aNil:=fun M0 F Γ ν σ H Q rs hs hp=>pa_nil.wp (hp F ν H rs (List.prefix_refl _) (.refl _ _) [] .nil)
theorem APost.tail{M0:Addr->Prop}{F:Fp}{ν:Nu}{σ:St}{H:Hp}{P:Fp->Gv->Nu->Hp->List AV->Prop}{r:R (List AV×Gv)}{f:List AV->List AV}(h:APost M0 F ν σ H XP P (r.bind fun (as,Γ2)=>.ok (f as,Γ2))) :
  APost M0 F ν σ H XP (fun F' Γ' ν' H' as=>P F' Γ' ν' H' (f as)) r:=by
 cases r with
 |ok a=>exact h
 |exc x Γ'=>exact h
 |bad=>exact h
theorem zdZ(ha:SE X XP mp a fa)(hl:SA X XP mp es fl)(hst:starEach (a::es) X.env=(false,eval a X.env)::starEach es X.env):SA X XP mp (a::es) (aCons fa fl):=fun M0 F Γ ν σ H Q rs hs hp=>
 (zy zf jl hst).wp (ha M0 F Γ ν σ H _ rs hs (hp.seq.mono fun F1 Γ1 H1 u rs1 s1 h1 v o1=>
  hl M0 F1 Γ1 ν σ H1 _ rs1 hs (h1.tail.mono fun F2 Γ2 ν2 H2 as rs2 hn s2 h2 vs oks=>h2 (v::vs) (.v ((o1.stp s2 rs1.al0).ext hn) oks))))
theorem zid {s i:Nat}{x:Str}(hN:X.N[s]?=some x) (hv:Vis X.env.scope x) (hm:mp[s]?=some i) (hd:(x==("__debug__" :Str))=false) (hcd:(x==("__classdict__" :Str))=false) (hl:SA X XP mp es fl) (hst:starEach (.Name x pos::es) X.env=(false,eval (.Name x pos) X.env)::starEach es X.env) :
  SA X XP mp (.Name x pos::es) (aIo i fl):=fun M0 F Γ ν σ H Q rs hs hp=>by
 unfold aIo at hp
 split at hp
 ·rename_i o q
  obtain⟨v,e1,r⟩:=rs.at' i _ q
  exact (zy (jT hN hv hd hcd) jl hst).wp ⟨v,hs s i v hm e1,hl M0 F Γ ν σ H _ rs hs (hp.tail.mono fun F2 Γ2 ν2 H2 as rs2 hn s2 h2 vs oks=>h2 (v::vs) (.io (by
   obtain⟨t,rfl⟩:=hn
   rw[xf (xc.mp e1).1];exact e1) oks))⟩
 ·exact hp.elim
theorem zfA(h:SN X XP mp a na)(hst:starEach [a] X.env= [(false,eval a X.env)]):SA X XP mp [a] (zfS na):=fun M0 F Γ ν σ H Q rs hs hp=>
 (zy zf pa_nil hst).wp (h M0 F Γ ν σ H _ rs hs (hp.seq.mono fun F1 Γ1 H1 ds rs1 s1 h1 vs p r n=>by
  obtain⟨r2,s2⟩:=rs1.newO n r
  exact h1 _ _ _ r2 (List.prefix_append _ _) s2 _ (.io (by rw[<- rs1.len];simp) .nil)))
inductive RF where
 |ok (r:OV) (outs:List (Option OV))
 |exc (x:Exc) (outs:List (Option OV))
 |bad
noncomputable def spI(n:Nat)(run:List OV->RF):Sp:=fun vs H Q _=>vs.length=n/\∃ (M0:Addr->Prop) (F:Fp) (args:List OV),RS M0 F (args.map some) (vs.map some) H/\match run args with
 |.ok r outs=>∀ F' v H',RS M0 F' (outs++ [some r]) (vs.map some++ [some v]) H'->Stp F H F' H'->Q v H'
 |_=>False
noncomputable def toArg(Γ:Gv):AV->Option OV
 |.v u=>(derS Γ u).map .d
 |.io i=>match Γ[i]? with
  |some (some o)=>some o
  |_=>none
noncomputable def toArgs(Γ:Gv):List AV->Option (List OV)
 |[]=>some []
 |a::as=>match toArg Γ a,toArgs Γ as with
  |some o,some os=>some (o::os)
  |_,_=>none
noncomputable def ios:List AV->List Nat
 |[]=> []
 |.v _::as=>ios as
 |.io i::as=>i::ios as
noncomputable def putBack:List AV->List (Option OV)->Gv->Option Gv
 |[],_,Γ=>some Γ
 |.v _::as,_::os,Γ=>putBack as os Γ
 |.io i::as,some o::os,Γ=>if i<Γ.length then putBack as os (Γ.set i (some o)) else none
 |_,_,_=>none
theorem mem_ios{as:List AV}{i:Nat}:i∈ios as↔∃ j:Nat,as[j]?=some (.io i):=by
 induction as with
 |nil=>simp[ios]
 |cons a as ih=>
  cases a with
  |v u=>
   rw[ios,ih]
   constructor
   ·rintro⟨j,h⟩;exact⟨j+1,by simpa using h⟩
   ·rintro⟨j,h⟩
    cases j with
    |zero=>simp at h
    |succ j=>exact⟨j,by simpa using h⟩
  |io k=>
   rw[ios,xo,ih]
   constructor
   ·rintro (rfl | ⟨j,h⟩)
    ·exact⟨0,rfl⟩
    ·exact⟨j+1,by simpa using h⟩
   ·rintro⟨j,h⟩
    cases j with
    |zero=>simp at h;exact .inl h.symm
    |succ j=>exact .inr ⟨j,by simpa using h⟩
theorem J8:∀ {as:List AV}{i j k:Nat},(ios as).Nodup->as[j]?=some (.io i)->as[k]?=some (.io i)->j=k
 |[],_,_,_,_,h,_=>by simp at h
 |.v u::as,i,j,k,nd,h1,h2=>by
  cases j with
  |zero=>simp at h1
  |succ j=>
   cases k with
   |zero=>simp at h2
   |succ k=>exact congrArg (·+1) (J8 (as:=as) (i:=i) (by rw[ios]at nd;exact nd) (by simpa using h1) (by simpa using h2))
 |.io m::as,i,j,k,nd,h1,h2=>by
  rw[ios,xC]at nd
  cases j with
  |zero=>
   cases k with
   |zero=>rfl
   |succ k=>
    simp at h1;subst h1
    exact absurd (mem_ios.mpr ⟨k,by simpa using h2⟩) nd.1
  |succ j=>
   cases k with
   |zero=>
    simp at h2;subst h2
    exact absurd (mem_ios.mpr ⟨j,by simpa using h1⟩) nd.1
   |succ k=>exact congrArg (·+1) (J8 (as:=as) (i:=i) nd.2 (by simpa using h1) (by simpa using h2))
section
variable {M0:Addr->Prop} {F:Fp} {Γ:Gv} {ν:Nu} {H:Hp}
theorem AOks.get:∀ {vs:List V}{as:List AV}{args:List OV}{j:Nat}{o:OV},AOks M0 F ν H vs as->toArgs Γ as=some args->args[j]?=some o ->
  ∃ v,vs[j]?=some v/\((∃ u x,as[j]?=some (.v u)/\derS Γ u=some x/\o=.d x/\FOk M0 F ν H v u)∨∃ i,as[j]?=some (.io i)/\ν[i]?=some (some v)/\Γ[i]?=some (some o))
 |_,_,_,j,o,.nil,e,h=>by cases e;simp at h
 |_,_,_,j,o,.v (u:=u) (as:=as) h1 t,e,h=>by
  unfold toArgs at e
  split at e
  ·rename_i o' os e1 e2
   cases e
   cases j with
   |zero=>
    simp at h;subst h
    simp only[toArg,Option.map_eq_some_iff]at e1
    obtain⟨x,ex,rfl⟩:=e1
    exact⟨_,rfl,.inl ⟨u,x,rfl,ex,rfl,h1⟩⟩
   |succ j=>
    obtain⟨v,ev,q⟩:=AOks.get (j:=j) t e2 (by simpa using h)
    exact⟨v,by simpa using ev,by simpa using q⟩
  ·cases e
 |_,_,_,j,o,.io (i:=i) (as:=as) h1 t,e,h=>by
  unfold toArgs at e
  split at e
  ·rename_i o' os e1 e2
   cases e
   cases j with
   |zero=>
    simp at h;subst h
    simp only[toArg]at e1
    split at e1
    ·rename_i q
     cases e1
     exact⟨_,rfl,.inr ⟨i,rfl,h1,q⟩⟩
    ·cases e1
   |succ j=>
    obtain⟨v,ev,q⟩:=AOks.get (j:=j) t e2 (by simpa using h)
    exact⟨v,by simpa using ev,by simpa using q⟩
  ·cases e
theorem AOks.len:∀ {vs:List V}{as:List AV},AOks M0 F ν H vs as->vs.length=as.length
 |_,_,.nil=>rfl
 |_,_,.v _ t=>by rw[xk,xk,AOks.len t]
 |_,_,.io _ t=>by rw[xk,xk,AOks.len t]
theorem jg:∀ {as:List AV}{args:List OV},toArgs Γ as=some args->args.length=as.length
 |[],_,e=>by cases e;rfl
 |a::as,_,e=>by
  unfold toArgs at e
  split at e
  ·rename_i e1 e2
   cases e
   rw[xk,xk,jg e2]
  ·cases e
noncomputable def cM(M0:Addr->Prop)(F:Fp)(as:List AV):Addr->Prop:=fun a=>M0 a∨∃ i,i∉ios as/\a∈F i
noncomputable def cF(F:Fp)(as:List AV):Fp:=fun j=>match as[j]? with
 |some (.io i)=>F i
 |_=> []
theorem zfb{as:List AV}{j i:Nat}(h:as[j]?=some (.io i)):cF F as j=F i:=by unfold cF;rw[h]
theorem Q0{as:List AV}{j:Nat}{a:Addr}(h:a∈cF F as j):∃ i,as[j]?=some (.io i)/\a∈F i:=by
 unfold cF at h
 split at h
 ·rename_i i e;exact⟨i,e,h⟩
 ·cases h
theorem cMM{as:List AV}:MM (cM M0 F as) (cF F as)=MM M0 F:=by
 funext a
 apply propext
 constructor
 ·rintro ((h | ⟨i,_,h⟩) | ⟨j,h⟩)
  ·exact .inl h
  ·exact .inr ⟨i,h⟩
  ·obtain⟨i,_,h⟩:=Q0 h;exact .inr ⟨i,h⟩
 ·rintro (h | ⟨i,h⟩)
  ·exact .inl (.inl h)
  ·by_cases hi:i∈ios as
   ·obtain⟨j,hj⟩:=mem_ios.mp hi
    exact .inr ⟨j,by rw[zfb hj];exact h⟩
   ·exact .inl (.inr ⟨i,hi,h⟩)
theorem Yf{vs:List V}{as:List AV}{args:List OV}(rs:RS M0 F Γ ν H)(oks:AOks M0 F ν H vs as)(e:toArgs Γ as=some args)(nd:(ios as).Nodup):RS (cM M0 F as) (cF F as) (args.map some) (vs.map some) H where
 al0 a h:=by
  rcases h with h | ⟨i,_,h⟩
  ·exact rs.al0 a h
  ·exact rs.al a (.inr ⟨i,h⟩)
 dis0 j a h:=by
  obtain⟨i,hi,ha⟩:=Q0 h
  rintro (h0 | ⟨i',hi',ha'⟩)
  ·exact rs.dis0 i a ha h0
  ·have:=rs.dis _ _ a ha ha'
   subst this
   exact hi' (mem_ios.mpr ⟨j,hi⟩)
 nd j:=by
  unfold cF
  split
  ·exact rs.nd _
  ·exact .nil
 dis j k a h1 h2:=by
  obtain⟨i,hi,ha⟩:=Q0 h1
  obtain⟨i',hi',ha'⟩:=Q0 h2
  have:=rs.dis _ _ a ha ha'
  subst this
  exact J8 nd hi hi'
 at' j o ej:=by
  rw[xh]at ej
  cases q:args[j]? with
  |none=>rw[q]at ej;cases ej
  |some o'=>
   rw[q]at ej
   have eo:o'=o:=by simpa using ej
   subst eo
   obtain⟨v,ev,h⟩:=oks.get e q
   refine⟨v,by rw[xh,ev];rfl,?_⟩
   rw[cMM]
   rcases h with ⟨u,x,ea,ex,rfl,ok⟩ | ⟨i,ea,en,eg⟩
   ·have:cF F as j= []:=by unfold cF;rw[ea]
    rw[this]
    exact .d (ok.strong rs ex)
   ·rw[zfb ea]
    obtain⟨v',ev',r⟩:=rs.at' i o' eg
    rw[en]at ev';cases ev'
    exact r
 emp j h:=by
  unfold cF
  split
  ·rename_i i ea
   exfalso
   have hj:j<args.length:=by rw[jg e];exact (xc.mp ea).1
   exact h args[j] (by rw[xh,xb hj];rfl)
  ·rfl
 len:=by rw[xi,xi,oks.len,jg e]
theorem Zk:∀ {as:List AV}{outs:List (Option OV)}{Γ Γ2:Gv},putBack as outs Γ=some Γ2->(ios as).Nodup->Γ2.length=Γ.length/\(∀ i:Nat,i∉ios as->Γ2[i]?=Γ[i]?)/\∀ j i:Nat,as[j]?=some (.io i)->∃ o,outs[j]?=some (some o)/\Γ2[i]?=some (some o)/\i<Γ.length
 |[],_,Γ,_,e,_=>by
  have:some Γ=some _:=e
  cases this
  exact⟨rfl,fun _ _=>rfl,fun j i h=>by simp at h⟩
 |.v u::as,[],Γ,_,e,_=>by cases e
 |.v u::as,x::os,Γ,Γ2,e,nd=>by
  obtain⟨h0,h1,h2⟩:=Zk (as:=as) (outs:=os) (Γ:=Γ) (Γ2:=Γ2) e (by rw[ios]at nd;exact nd)
  refine⟨h0,fun i hi=>h1 i (by rw[ios]at hi;exact hi),fun j i hj=>?_⟩
  cases j with
  |zero=>simp at hj
  |succ j=>
   obtain⟨o,a,b⟩:=h2 j i (by simpa using hj)
   exact⟨o,by simpa using a,b⟩
 |.io k::as,[],Γ,_,e,_=>by cases e
 |.io k::as,none::os,Γ,_,e,_=>by cases e
 |.io k::as,some o::os,Γ,Γ2,e,nd=>by
  rw[putBack]at e
  split at e
  ·rename_i hk
   rw[ios,xC]at nd
   obtain⟨h0,h1,h2⟩:=Zk (as:=as) (outs:=os) e nd.2
   rw[ul]at h0
   refine⟨h0,fun i hi=>?_,fun j i hj=>?_⟩
   ·rw[ios,xo]at hi
    rw[h1 i (fun z=>hi (.inr z)),xv (fun z=>hi (.inl z.symm))]
   ·cases j with
    |zero=>
     have:k=i:=by simpa using hj
     subst this
     refine⟨o,rfl,?_,hk⟩
     rw[h1 k nd.1,xt hk]
    |succ j=>
     obtain⟨o',a,b,c⟩:=h2 j i (by simpa using hj)
     exact⟨o',by simpa using a,b,by simpa using c⟩
  ·cases e
open Classical in
theorem zaQ{vs:List V}{as:List AV}{args:List OV}{outs:List (Option OV)}{r:OV}{v:V}{Γ2:Gv}{ν0:Nu}{Fc':Fp}{H':Hp}{n:Nat}(rs:RS M0 F Γ ν H)(oks:AOks M0 F ν H vs as)(e:toArgs Γ as=some args)(nd:(ios as).Nodup)
  (rc:RS (cM M0 F as) Fc' (outs++ [some r]) (vs.map some++ [some v]) H') (sc:Stp (cF F as) H Fc' H') (pb:putBack as outs Γ=some Γ2) (hν:ν0 <+: ν) (hn:ν0.length=n) :
  ∃ F',RS M0 F' (Γ2.take n++ [some r]) (ν0++ [some v]) H'/\Stp F H F' H':=by
 obtain⟨p0,p1,p2⟩:=Zk pb nd
 have hol:outs.length=as.length:=by have:=rc.len;simp[oks.len]at this;omega
 obtain⟨tl,rfl⟩:=hν
 have hnl:n<=Γ.length:=by have:=rs.len;simp at this;omega
 have htl:(Γ2.take n).length=n:=by rw[xW];omega
 let F':Fp:=fun i=>if i<n then (if h:∃ j:Nat,as[j]?=some (.io i) then Fc' (Classical.choose h) else F i) else if i=n then Fc' as.length else []
 have f1:∀ (i j:Nat),i<n->as[j]?=some (.io i)->F' i=Fc' j:=fun i j hi hj=>by
  show (if i<n then _ else _)=_
  rw[if_pos hi]
  have hex:∃ j:Nat,as[j]?=some (.io i):=⟨j,hj⟩
  rw[dif_pos hex,J8 nd (Classical.choose_spec hex) hj]
 have f2:∀ (i:Nat),i<n->i∉ios as->F' i=F i:=fun i hi hj=>by
  show (if i<n then _ else _)=_
  rw[if_pos hi,dif_neg]
  rintro hex
  exact hj (mem_ios.mpr hex)
 have f3:F' n=Fc' as.length:=by show (if n<n then _ else _)=_;rw[if_neg (uc _),if_pos rfl]
 have f4:∀ i,n<i->F' i= []:=fun i hi=>by show (if i<n then _ else _)=_;rw[if_neg (by omega),if_neg (by omega)]
 have cls:∀ i a,a∈F' i->(∃ j,i<n/\as[j]?=some (.io i)/\a∈Fc' j)∨(i<n/\i∉ios as/\a∈F i)∨(i=n/\a∈Fc' as.length):=fun i a h=>by
  by_cases hi:i<n
  ·by_cases hj:i∈ios as
   ·obtain⟨j,hj⟩:=mem_ios.mp hj
    rw[f1 i j hi hj]at h
    exact .inl ⟨j,hi,hj,h⟩
   ·rw[f2 i hi hj]at h;exact .inr (.inl ⟨hi,hj,h⟩)
  ·by_cases hj:i=n
   ·subst hj;rw[f3]at h;exact .inr (.inr ⟨rfl,h⟩)
   ·rw[f4 i (by omega)]at h;cases h
 have keepF:∀ i,i∉ios as->∀ a∈F i,H' a=H a:=fun i hi a ha=>by
  obtain⟨us,ea⟩:=rs.laidF ha
  rw[ea]
  refine (sc.keep a _ ea fun j hj=>?_).1
  obtain⟨i',hi',ha'⟩:=Q0 hj
  have:=rs.dis _ _ a ha ha'
  subst this
  exact hi (mem_ios.mpr ⟨j,hi'⟩)
 have st:Stp F H F' H':=⟨fun b o eb nb=>by
  obtain⟨e1,n1⟩:=sc.keep b o eb fun j hj=>let ⟨i,_,ha⟩:=Q0 hj;nb i ha
  refine⟨e1,fun i hi=>?_⟩
  rcases cls i b hi with ⟨j,_,_,h⟩ | ⟨_,_,h⟩ | ⟨_,h⟩
  ·exact n1 j h
  ·exact nb i h
  ·exact n1 _ h,sc.tups,sc.stay⟩
 have sub:∀ b,MM M0 F' b->MM (cM M0 F as) Fc' b:=fun b hb=>by
  rcases hb with hb | ⟨i,hb⟩
  ·exact .inl (.inl hb)
  ·rcases cls i b hb with ⟨j,_,_,h⟩ | ⟨_,hi,h⟩ | ⟨_,h⟩
   ·exact .inr ⟨j,h⟩
   ·exact .inl (.inr ⟨i,hi,h⟩)
   ·exact .inr ⟨_,h⟩
 have conv:∀ {w:V} {o:OV} {A:List Addr},OR (MM (cM M0 F as) Fc') H' w o A->OR (MM M0 F') H' w o A:=fun {w o A} q=>q.go (fun v d x=>x.less fun b hb _=>sub b hb) fun _ _=>rfl
 have out:∀ (j:Nat) (a:Addr),a∈Fc' j->¬ M0 a/\∀ i,i∉ios as->a∉F i:=fun j a ha=>by
  have h:=rc.dis0 j a ha
  exact⟨fun z=>h (.inl z),fun i hi z=>h (.inr ⟨i,hi,z⟩)⟩
 refine⟨F',⟨fun a ha=>sc.stay a (rs.al0 a ha),fun i a ha=>?_,fun i=>?_,fun i k a h1 h2=>?_,fun i o ei=>?_,fun i hi=>?_,by simp[htl,hn]⟩,st⟩
 ·rcases cls i a ha with ⟨j,_,_,h⟩ | ⟨_,hi,h⟩ | ⟨_,h⟩
  ·exact (out j a h).1
  ·exact rs.dis0 i a h
  ·exact (out _ a h).1
 ·by_cases hi:i<n
  ·by_cases hj:i∈ios as
   ·obtain⟨j,hj⟩:=mem_ios.mp hj
    rw[f1 i j hi hj];exact rc.nd j
   ·rw[f2 i hi hj];exact rs.nd i
  ·by_cases hj:i=n
   ·subst hj;rw[f3];exact rc.nd _
   ·rw[f4 i (by omega)];exact .nil
 ·rcases cls i a h1 with ⟨j,hi,ej,z1⟩ | ⟨hi,ni,z1⟩ | ⟨rfl,z1⟩
  ·rcases cls k a h2 with ⟨j',hk,ej',z2⟩ | ⟨hk,nk,z2⟩ | ⟨rfl,z2⟩
   ·have:=rc.dis _ _ a z1 z2
    subst this
    rw[ej]at ej';cases ej';rfl
   ·exact absurd z2 ((out j a z1).2 k nk)
   ·have:=rc.dis _ _ a z1 z2
    subst this
    rw[xj (xm _)]at ej;cases ej
  ·rcases cls k a h2 with ⟨j',hk,ej',z2⟩ | ⟨hk,nk,z2⟩ | ⟨rfl,z2⟩
   ·exact absurd z1 ((out j' a z2).2 i ni)
   ·exact rs.dis _ _ a z1 z2
   ·exact absurd z1 ((out _ a z2).2 i ni)
  ·rcases cls k a h2 with ⟨j',hk,ej',z2⟩ | ⟨hk,nk,z2⟩ | ⟨rfl,z2⟩
   ·have:=rc.dis _ _ a z1 z2
    subst this
    rw[xj (xm _)]at ej';cases ej'
   ·exact absurd z2 ((out _ a z1).2 k nk)
   ·rfl
 ·by_cases hi:i<n
  ·rw[xf (by omega),xX hi]at ei
   rw[xf (by omega)]
   by_cases hj:i∈ios as
   ·obtain⟨j,hj⟩:=mem_ios.mp hj
    obtain⟨o',eo,eg,_⟩:=p2 j i hj
    rw[eg]at ei
    have eoo:o'=o:=by simpa using ei
    subst eoo
    have hjl:j<as.length:=(xc.mp hj).1
    obtain⟨w,ew,q⟩:=rc.at' j o' (by rw[xf (by omega)];exact eo)
    rw[xf (by rw[xi,oks.len];exact hjl),xh]at ew
    have hal:j<args.length:=by rw[jg e];exact hjl
    obtain⟨v',ev',hh⟩:=oks.get e (xb hal)
    rw[ev']at ew
    have ew':v'=w:=by simpa using ew
    subst ew'
    rcases hh with ⟨u,x,ea,_⟩ | ⟨i',ea,en,_⟩
    ·rw[hj]at ea;cases ea
    ·rw[hj]at ea;cases ea
     rw[xf (by omega)]at en
     exact⟨v',en,by rw[f1 i j hi hj];exact conv q⟩
   ·rw[p1 i hj]at ei
    obtain⟨w,ew,q⟩:=rs.at' i o ei
    rw[xf (by omega)]at ew
    refine⟨w,ew,?_⟩
    rw[f2 i hi hj]
    exact q.go (fun v d x=>zJ st rs.al0 x) (keepF i hj)
  ·have hin:i=n:=by
    have:=(xc.mp ei).1
    simp[htl]at this;omega
   subst hin
   rw[xg (by omega),htl]at ei
   have:r=o:=by simpa using ei
   subst this
   refine⟨v,by rw[xg (by omega),hn];simp,?_⟩
   rw[f3]
   obtain⟨w,ew,q⟩:=rc.at' as.length r (by rw[xg (by omega),hol];simp)
   rw[xg (by rw[xi,oks.len];exact xm _),xi,oks.len]at ew
   have:v=w:=by simpa using ew
   subst this
   exact conv q
 ·by_cases hlt:i<n
  ·have nj:i∉ios as:=fun hj=>by
    obtain⟨j,hj⟩:=mem_ios.mp hj
    obtain⟨o',eo,eg,_⟩:=p2 j i hj
    exact hi o' (by rw[xf (by omega),xX hlt];exact eg)
   rw[f2 i hlt nj]
   refine rs.emp i fun o eo=>hi o ?_
   rw[xf (by omega),xX hlt,p1 i nj];exact eo
  ·by_cases hin:i=n
   ·subst hin
    exact absurd (by rw[xg (by omega),htl];simp) (hi r)
   ·exact f4 i (by omega)
end
noncomputable def fCall(run:List OV->RF)(fl:EM (List AV)):EM OV:=fun Γ=>(fl Γ).bind fun (as,Γ1)=>match toArgs Γ1 as with
 |none=>.bad
 |some args=>if (ios as).Nodup then match run args with
  |.ok r outs=>match putBack as outs Γ1 with
   |some Γ2=>.ok (r,Γ2.take Γ.length)
   |none=>.bad
  |_=>.bad
  else .bad
theorem vn{M0:Addr->Prop}{F:Fp}{Γ:Gv}{ν:Nu}{σ:St}{H:Hp}{run:List OV->RF}{n:Nat}{Q:VK}{E:XK}(rs:RS M0 F Γ ν H)(hrun:∀ args r outs,run args=.ok r outs->args.length=n)
  (hp:OPost M0 F ν σ H XP (fun F' Γ' H' o v=>Q v H') (fCall run fl Γ)):APost M0 F ν σ H XP (fun F1 Γ1 ν1 H1 as=>∀ vs,AOks M0 F1 ν1 H1 vs as->spI n run vs H1 Q E) (fl Γ):=by
 unfold fCall at hp
 generalize fl Γ=ra at hp
 cases ra with
 |bad=>exact hp
 |exc x y=>exact hp
 |ok z=>
  obtain⟨as,Γ1⟩:=z
  intro F1 ν1 H1 rs1 hn s1 vs oks
  simp only[R.bind]at hp
  split at hp
  ·exact hp.elim
  ·rename_i args ea
   split at hp
   ·rename_i nd
    split at hp
    ·rename_i r outs er
     split at hp
     ·rename_i Γ2 eb
      have hl:=hrun args r outs er
      refine⟨by rw[oks.len,<- jg ea,hl],cM M0 F1 as,cF F1 as,args,Yf rs1 oks ea nd,?_⟩
      rw[er]
      intro F' v H' rc sc
      obtain⟨F2,rs2,s2⟩:=zaQ (n:=Γ.length) rs1 oks ea nd rc sc eb hn rs.len
      exact hp F2 H' v rs2 (s1.trans s2)
     ·exact hp.elim
    ·exact hp.elim
   ·exact hp.elim
theorem zeQ{x:Str}{k n:Nat}{run:List OV->RF}(kn:Kn X.prog X.w X.K X.mg X.base CX0 x k (spI n run))(hr:Room k X.A)(hg:Gl X x)(hrun:∀ args r outs,run args=.ok r outs->args.length=n)(hl:SA X XP mp (a::es) fl)
  (hdb:(x==("__debug__" :Str))=false) (he:starEach (a::es) X.env=(false,eval a X.env)::starEach es X.env) (hpl:(backTo pos (starEach es X.env)).any (·.1)=false):SO X XP mp (.Call (.Name x p) (a::es) [] pos) (fCall run fl):=fun M0 F Γ ν σ H Q rs hs hp=>
 Vd (E:=E0) kn hr hg Kb (hl M0 F Γ ν σ H _ rs hs (vn rs hrun hp)) hdb he hpl
theorem zbm{x:Str}{k n:Nat}{run:List OV->RF}(kn:Kn X.prog X.w X.K X.mg X.base CX0 x k (spI n run))(hr:Room k X.A)(hg:Gl X x)(hrun:∀ args r outs,run args=.ok r outs->args.length=n)
  (hdb:(x==("__debug__" :Str))=false):SO X XP mp (.Call (.Name x p) [] [] pos) (fCall run aNil):=fun M0 F Γ ν σ H Q rs hs hp=>by
 obtain⟨f,fd,ps,Fk,hm,hk,hb⟩:=kn.ex
 have h:=vn (E:=E0) (n:=n) rs hrun hp F ν H rs (List.prefix_refl _) (.refl _ _) [] .nil
 exact (zdh Fk hr hg hm hk hb .nil Kb hdb).wp (show spI n run ([]++ []) H Q E0 from h)
end
end L3
namespace L3
open PySem PySem.Spec PyProof.Rows L2
inductive FL where
 |next
 |ret (o:OV)
 |brk
 |cnt
noncomputable abbrev SM:=Gv->R (FL×Gv)
noncomputable def SPost(M0:Addr->Prop)(F:Fp)(ν:Nu)(H:Hp)(XP:XPT)(mp:List Nat)(N:Nat)(io:List Nat)(D:jk)(r:R (FL×Gv)):Prop:=match r with
 |.ok (.next,Γ')=>∀ F' ν' σ' H',RS M0 F' Γ' ν' H'->Stp F H F' H'->Sees mp ν' σ'->σ'.length=N->(∀ i∈io,ν'[i]?=ν[i]?)->D.nx σ' H'
 |.ok (.brk,Γ')=>∀ F' ν' σ' H',RS M0 F' Γ' ν' H'->Stp F H F' H'->Sees mp ν' σ'->σ'.length=N->(∀ i∈io,ν'[i]?=ν[i]?)->D.bk σ' H'
 |.ok (.cnt,Γ')=>∀ F' ν' σ' H',RS M0 F' Γ' ν' H'->Stp F H F' H'->Sees mp ν' σ'->σ'.length=N->(∀ i∈io,ν'[i]?=ν[i]?)->D.ct σ' H'
 |.ok (.ret o,Γ')=>∀ F' ν' v H',RS M0 F' (Γ'++ [some o]) (ν'++ [some v]) H'->Stp F H F' H'->(∀ i∈io,ν'[i]?=ν[i]?)->D.rt v H'
 |.exc x Γ'=>∀ F' ν' σ' H',RS M0 F' Γ' ν' H'->Stp F H F' H'->Sees mp ν' σ'->σ'.length=N->(∀ i∈io,ν'[i]?=ν[i]?)->XP x Γ' F' ν' σ' H'
 |.bad=>False
noncomputable def SS(X:Cx)(XP:XPT)(mp:List Nat)(io:List Nat)(st:Stmt)(f:SM):Prop:=∀ (M0:Addr->Prop) (F:Fp) (Γ:Gv) (ν:Nu) (σ:St) (H:Hp) (D:jk),RS M0 F Γ ν H->Sees mp ν σ->σ.length=X.N.length ->
 SPost M0 F ν H XP mp X.N.length io D (f Γ)->wpS X st D σ H
noncomputable def SB(X:Cx)(XP:XPT)(mp:List Nat)(io:List Nat)(sts:List Stmt)(f:SM):Prop:=∀ (M0:Addr->Prop) (F:Fp) (Γ:Gv) (ν:Nu) (σ:St) (H:Hp) (D:jk),RS M0 F Γ ν H->Sees mp ν σ->σ.length=X.N.length ->
 SPost M0 F ν H XP mp X.N.length io D (f Γ)->wpB X sts D σ H
section
variable {M0:Addr->Prop} {F F1:Fp} {Γ:Gv} {ν ν1:Nu} {σ:St} {H H1:Hp} {XP:XPT} {mp:List Nat} {N:Nat} {io:List Nat} {D D':jk} {r:R (FL×Gv)}
theorem SPost.step(h:SPost M0 F ν H XP mp N io D r)(s1:Stp F H F1 H1)(hn:∀ i∈io,ν1[i]?=ν[i]?):SPost M0 F1 ν1 H1 XP mp N io D r:=by
 cases r with
 |ok z=>
  obtain⟨fl,Γ'⟩:=z
  cases fl with
  |next=>exact fun F' ν' σ' H' a b c d e=>h F' ν' σ' H' a (s1.trans b) c d fun i hi=>(e i hi).trans (hn i hi)
  |brk=>exact fun F' ν' σ' H' a b c d e=>h F' ν' σ' H' a (s1.trans b) c d fun i hi=>(e i hi).trans (hn i hi)
  |cnt=>exact fun F' ν' σ' H' a b c d e=>h F' ν' σ' H' a (s1.trans b) c d fun i hi=>(e i hi).trans (hn i hi)
  |ret o=>exact fun F' ν' v H' a b e=>h F' ν' v H' a (s1.trans b) fun i hi=>(e i hi).trans (hn i hi)
 |exc x Γ'=>exact fun F' ν' σ' H' a b c d e=>h F' ν' σ' H' a (s1.trans b) c d fun i hi=>(e i hi).trans (hn i hi)
 |bad=>exact h
theorem SPost.seq{α:Type}{r:R (α×Gv)}{k:α×Gv->R (FL×Gv)}(hs:Sees mp ν σ)(hl:σ.length=N)(h:SPost M0 F ν H XP mp N io D (r.bind k)):EPost M0 F ν σ H XP (fun F1 Γ1 H1 a=>SPost M0 F1 ν H1 XP mp N io D (k (a,Γ1))) r:=by
 cases r with
 |ok z=>
  obtain⟨a,Γ1⟩:=z
  intro F1 H1 rs1 s1
  have h':SPost M0 F ν H XP mp N io D (k (a,Γ1)):=h
  exact h'.step s1 fun _ _=>rfl
 |exc x Γ'=>exact fun F' H' rs s=>h F' ν σ H' rs s hs hl fun _ _=>rfl
 |bad=>exact h
theorem SPost.seqO{r:R (OV×Gv)}{k:OV×Gv->R (FL×Gv)}(hs:Sees mp ν σ)(hl:σ.length=N)(h:SPost M0 F ν H XP mp N io D (r.bind k)):OPost M0 F ν σ H XP (fun F1 Γ1 H1 o v=>SPost M0 F1 ν H1 XP mp N io D (k (o,Γ1))) r:=by
 cases r with
 |ok z=>
  obtain⟨a,Γ1⟩:=z
  intro F1 H1 v rs1 s1
  have h':SPost M0 F ν H XP mp N io D (k (a,Γ1)):=h
  exact h'.step s1 fun _ _=>rfl
 |exc x Γ'=>exact fun F' H' rs s=>h F' ν σ H' rs s hs hl fun _ _=>rfl
 |bad=>exact h
end
noncomputable def sNext:SM:=fun Γ=>.ok (.next,Γ)
noncomputable def sSeq(f g:SM):SM:=fun Γ=>match f Γ with
 |.ok (.next,Γ1)=>g Γ1
 |r=>r
section
variable {X:Cx} {XP:XPT} {mp io:List Nat} {a b c e tg iter:Expr} {es:List Expr} {pos p p2 pos':Pos} {fa fb fc:EM FV} {ta tb:EM Bool} {na nb:EM (List PyData)} {fo:EM OV} {st:Stmt} {sts body els:List Stmt} {f g:SM}
theorem zft:SB X XP mp io [] sNext:=fun M0 F Γ ν σ H D rs hs hl hp=>pss_nil.wp (hp F ν σ H rs (.refl _ _) hs hl fun _ _=>rfl)
theorem zbU{M0:Addr->Prop}{F:Fp}{Γ:Gv}{ν:Nu}{H:Hp}{N:Nat}{D:jk}{nx:St->Hp->Prop}(hp:SPost M0 F ν H XP mp N io D (sSeq f g Γ))
  (hn:∀ F1 Γ1 ν1 σ1 H1,RS M0 F1 Γ1 ν1 H1->Sees mp ν1 σ1->σ1.length=N->SPost M0 F1 ν1 H1 XP mp N io D (g Γ1)->nx σ1 H1):SPost M0 F ν H XP mp N io { D with nx:=nx } (f Γ):=by
 unfold sSeq at hp
 generalize f Γ=r at hp
 cases r with
 |ok z=>
  obtain⟨fl,Γ'⟩:=z
  cases fl with
  |next=>exact fun F' ν' σ' H' a b c d e=>hn F' Γ' ν' σ' H' a c d (hp.step b e)
  |brk=>exact hp
  |cnt=>exact hp
  |ret o=>exact hp
 |exc x Γ'=>exact hp
 |bad=>exact hp
theorem zez(h1:SS X XP mp io st f)(h2:SB X XP mp io sts g):SB X XP mp io (st::sts) (sSeq f g):=fun M0 F Γ ν σ H D rs hs hl hp=>
 (QR kU qJ).wp (h1 M0 F Γ ν σ H _ rs hs hl (zbU hp fun F1 Γ1 ν1 σ1 H1 rs1 hs1 hl1 h=>h2 M0 F1 Γ1 ν1 σ1 H1 D rs1 hs1 hl1 h))
theorem zdA:SS X XP mp io (.Pass pos) sNext:=fun M0 F Γ ν σ H D rs hs hl hp=>ps_pass.wp (hp F ν σ H rs (.refl _ _) hs hl fun _ _=>rfl)
noncomputable def zhG:SM:=fun _=>.bad
theorem zfz:SS X XP mp io st zhG:=fun M0 F Γ ν σ H D rs hs hl hp=>hp.elim
noncomputable def fD(fa:EM FV):EM OV:=fun Γ=>(fa Γ).bind fun (u,Γ1)=>match derS Γ1 u with
 |some x=>.ok (.d x,Γ1)
 |none=>.bad
theorem RS.newD{M0:Addr->Prop}{F:Fp}{Γ:Gv}{ν:Nu}{H:Hp}{v:V}{x:PyData}(r:RS M0 F Γ ν H)(q:Rep (MM M0 F) H v x):RS M0 F (Γ++ [some (.d x)]) (ν++ [some v]) H:=by
 have he:F Γ.length= []:=r.emp _ fun o e=>by
  rw[xj (xm _)]at e;cases e
 refine⟨r.al0,r.dis0,r.nd,r.dis,fun j o e=>?_,fun j h=>?_,by simp[r.len]⟩
 ·by_cases hj:j<Γ.length
  ·rw[xf hj]at e
   obtain⟨w,e1,z⟩:=r.at' j o e
   exact⟨w,by rw[xf (by rw[r.len];exact hj)];exact e1,z⟩
  ·have hj':j=Γ.length:=by
    have:=(xc.mp e).1
    simp at this;omega
   subst hj'
   rw[xg (xm _)]at e
   have:(OV.d x)=o:=by simpa using e
   subst this
   refine⟨v,by rw[xg (by rw[r.len];exact xm _),r.len];simp,?_⟩
   rw[he];exact .d q
 ·refine r.emp j fun o e=>h o ?_
  rw[xf (xc.mp e).1];exact e
theorem SE.so(h:SE X XP mp a fa):SO X XP mp a (fD fa):=fun M0 F Γ ν σ H Q rs hs hp=>
 h M0 F Γ ν σ H Q rs hs (hp.seq.mono fun F1 Γ1 H1 u rs1 s1 h1 v hv=>by
  dsimp only at h1
  split at h1
  ·rename_i x e
   exact h1 F1 H1 v (rs1.newD (hv.strong rs1 e)) (.refl _ _)
  ·exact h1.elim)
noncomputable def fMove(i:Nat):EM OV:=fun Γ=>match Γ[i]? with
 |some (some o)=>.ok (o,Γ.set i none)
 |_=>.bad
theorem RS.take{M0:Addr->Prop}{F:Fp}{Γ:Gv}{ν:Nu}{H:Hp}{i:Nat}{o:OV}(r:RS M0 F Γ ν H)(e:Γ[i]?=some (some o)):∃ F' v,ν[i]?=some (some v)/\RS M0 F' (Γ.set i none++ [some o]) (ν++ [some v]) H/\Stp F H F' H:=by
 obtain⟨v,ev,q⟩:=r.at' i o e
 have hi:=(xc.mp e).1
 let F':Fp:=fun j=>if j=i then [] else if j=Γ.length then F i else F j
 have g1:F' i= []:=by show (if i=i then _ else _)=_;rw[if_pos rfl]
 have g2:F' Γ.length=F i:=by show (if Γ.length=i then _ else _)=_;rw[if_neg (by omega),if_pos rfl]
 have g3:∀ j,j≠i->j≠Γ.length->F' j=F j:=fun j h1 h2=>by show (if j=i then _ else _)=_;rw[if_neg h1,if_neg h2]
 have cls:∀ j a,a∈F' j->(j=Γ.length/\a∈F i)∨(j≠i/\j≠Γ.length/\a∈F j):=fun j a h=>by
  by_cases h1:j=i
  ·subst h1;rw[g1]at h;cases h
  ·by_cases h2:j=Γ.length
   ·subst h2;rw[g2]at h;exact .inl ⟨rfl,h⟩
   ·rw[g3 j h1 h2]at h;exact .inr ⟨h1,h2,h⟩
 have st:Stp F H F' H:=Zu fun j a h=>by
  rcases cls j a h with ⟨_,h⟩ | ⟨_,_,h⟩
  ·exact⟨_,h⟩
  ·exact⟨_,h⟩
 refine⟨F',v,ev,⟨r.al0,fun j a h=>?_,fun j=>?_,fun j k a h1 h2=>?_,fun j p ej=>?_,fun j h=>?_,by simp[r.len]⟩,st⟩
 ·rcases cls j a h with ⟨_,h⟩ | ⟨_,_,h⟩
  ·exact r.dis0 _ a h
  ·exact r.dis0 _ a h
 ·by_cases h1:j=i
  ·subst h1;rw[g1];exact .nil
  ·by_cases h2:j=Γ.length
   ·subst h2;rw[g2];exact r.nd _
   ·rw[g3 j h1 h2];exact r.nd _
 ·rcases cls j a h1 with ⟨e1,z1⟩ | ⟨n1,m1,z1⟩
  ·rcases cls k a h2 with ⟨e2,z2⟩ | ⟨n2,m2,z2⟩
   ·rw[e1,e2]
   ·exact absurd (r.dis _ _ a z2 z1) n2
  ·rcases cls k a h2 with ⟨e2,z2⟩ | ⟨n2,m2,z2⟩
   ·exact absurd (r.dis _ _ a z1 z2) n1
   ·exact r.dis _ _ a z1 z2
 ·have hsl:(Γ.set i none).length=Γ.length:=by simp
  by_cases hj:j<Γ.length
  ·rw[xf (by omega)]at ej
   by_cases hji:j=i
   ·subst hji;rw[xt hi]at ej;cases ej
   ·rw[xv (Ne.symm hji)]at ej
    obtain⟨w,ew,z⟩:=r.at' j p ej
    refine⟨w,by rw[xf (by rw[r.len];exact hj)];exact ew,?_⟩
    rw[g3 j hji (by omega)]
    exact z.go (fun _ _ x=>zJ st r.al0 x) fun _ _=>rfl
  ·have hj':j=Γ.length:=by
    have:=(xc.mp ej).1
    simp at this;omega
   subst hj'
   rw[xg (by omega),hsl]at ej
   have:o=p:=by simpa using ej
   subst this
   refine⟨v,by rw[xg (by rw[r.len];exact xm _),r.len];simp,?_⟩
   rw[g2]
   exact q.go (fun _ _ x=>zJ st r.al0 x) fun _ _=>rfl
 ·by_cases h1:j=i
  ·subst h1;exact g1
  ·by_cases h2:j=Γ.length
   ·subst h2
    exact absurd (by rw[xg (by simp)];simp) (h o)
   ·rw[g3 j h1 h2]
    refine r.emp j fun p ep=>h p ?_
    rw[xf (by simpa using (xc.mp ep).1),xv (Ne.symm h1)];exact ep
theorem zes {s i:Nat}{x:Str}(hN:X.N[s]?=some x) (hv:Vis X.env.scope x) (hm:mp[s]?=some i) (hd:(x==("__debug__" :Str))=false) (hcd:(x==("__classdict__" :Str))=false) :
  SO X XP mp (.Name x pos) (fMove i):=fun M0 F Γ ν σ H Q rs hs hp=>by
 unfold fMove at hp
 split at hp
 ·rename_i o q
  obtain⟨F',v,e1,rs1,s1⟩:=rs.take q
  exact (jT hN hv hd hcd).wp ⟨v,hs s i v hm e1,hp F' H v rs1 s1⟩
 ·exact hp.elim
noncomputable def sRet(fo:EM OV):SM:=fun Γ=>(fo Γ).bind fun (o,Γ1)=>.ok (.ret o,Γ1)
theorem zf5(h:SO X XP mp e fo):SS X XP mp io (.Return (some e) pos) (sRet fo):=fun M0 F Γ ν σ H D rs hs hl hp=>
 (zbR zf).wp (h M0 F Γ ν σ H _ rs hs ((SPost.seqO hs hl hp).mono fun F1 Γ1 H1 o v rs1 s1 h1=>h1 F1 ν v H1 rs1 (.refl _ _) fun _ _=>rfl))
noncomputable def sRetN:SM:=fun Γ=>.ok (.ret (.d .none),Γ)
noncomputable def SOt(XP:XPT)(mp:List Nat)(t:TE)(f:EM OV):Prop:=∀ (M0:Addr->Prop) (F:Fp) (Γ:Gv) (ν:Nu) (σ:St) (H:Hp) (Q:VK),RS M0 F Γ ν H->Sees mp ν σ ->
 OPost M0 F ν σ H XP (fun F' Γ' H' o v=>Q v H') (f Γ)->t σ H Q
theorem SNt.so{t:TE}(h:SNt XP mp t na):SOt XP mp t (fOwn na):=fun M0 F Γ ν σ H Q rs hs hp=>
 h M0 F Γ ν σ H Q rs hs (hp.seq.mono fun F1 Γ1 H1 ds rs1 s1 h1 vs p r n=>by
  obtain⟨r2,s2⟩:=rs1.newO n r
  exact h1 _ _ _ r2 s2)
theorem SNt.sd{t:TE}(h:SNt XP mp t na):SOt XP mp t (fD (fNew na)):=fun M0 F Γ ν σ H Q rs hs hp=>
 h M0 F Γ ν σ H Q rs hs (by
  have hp':OPost M0 F ν σ H XP (fun F' Γ' H' o v=>Q v H') ((na Γ).bind fun (ds,Γ1)=>.ok (.d (.list ds),Γ1)):=by
   have e:fD (fNew na) Γ=(na Γ).bind fun (ds,Γ1)=>.ok (.d (.list ds),Γ1):=by
    unfold fD fNew
    cases na Γ<;>rfl
   rw[<- e];exact hp
  exact hp'.seq.mono fun F1 Γ1 H1 ds rs1 s1 h1 vs p r n=>by
   have s2:Same H1 (upd H1 p (.lst vs)):=zN n
   exact h1 F1 _ _ ((rs1.same s2).newD (Rep.list zA (fun z=>rs1.al p z n) (r.grow s2.grow))) (.same s2))
noncomputable def sAsg(io:List Nat)(i:Nat)(fo:EM OV):SM:=fun Γ=>(fo Γ).bind fun (o,Γ1)=>if i<Γ1.length/\i∉io then .ok (.next,Γ1.set i (some o)) else .bad
theorem km{s i:Nat}{t:TE}(hps:PS X st (Ye t (V7 s)))(hn:mp.Nodup)(hm:mp[s]?=some i)(hsl:s<X.N.length)(h:SOt XP mp t fo):SS X XP mp io st (sAsg io i fo):=fun M0 F Γ ν σ H D rs hs hl hp=>
 hps.wp (h M0 F Γ ν σ H _ rs hs ((SPost.seqO hs hl hp).mono fun F1 Γ1 H1 o v rs1 s1 h1=>by
  dsimp only at h1
  split at h1
  ·rename_i hh
   obtain⟨F2,rs2,s2⟩:=rs1.move hh.1
   exact h1 F2 _ _ H1 rs2 s2 (hs.set hn hm (by rw[hl];exact hsl)) (by simpa using hl) fun j hj=>by
    rw[xv (fun z=>hh.2 (by rw[z];exact hj))]
  ·exact h1.elim))
theorem zgT{s i:Nat}{x:Str}(hN:X.N.Nodup)(hi:X.N[s]?=some x)(hx:Loc X.env.scope x)(hf:X.fn x=true∨X.env.scope.names.lookup x=some .local)(hn:mp.Nodup)(hm:mp[s]?=some i)(h:SO X XP mp e fo)
  (hsw:swapsWith e (some (.Name x pos')) pos.line X.env=pure false):SS X XP mp io (.Assign [.Name x pos'] e pos) (sAsg io i fo) :=
 km (Vj hN hi hx zf hsw hf) hn hm (xc.mp hi).1 h
noncomputable def sAsgT(t:IT)(fa:EM FV):SM:=fun Γ=>(fa Γ).bind fun (u,Γ1)=>match derS Γ1 u with
 |some x=>match tgF t x Γ1 with
  |some Γ2=>.ok (.next,Γ2)
  |none=>.bad
 |none=>.bad
theorem zc4{t:IT}(ha:SE X XP mp e fa)(hg:SG X mp (·∈io) tg t)(hsw:swapsWithSole [tg] e pos.line X.env=pure false)(hw:swappedStores [tg] e X.env=pure none)
  (hps:PS X (.Assign [tg] e pos) (Ye (wpE X e) (wpG X tg))):SS X XP mp io (.Assign [tg] e pos) (sAsgT t fa):=fun M0 F Γ ν σ H D rs hs hl hp=>
 hps.wp (ha M0 F Γ ν σ H _ rs hs ((SPost.seq hs hl hp).mono fun F1 Γ1 H1 u rs1 s1 h1 v hv=>by
  dsimp only at h1
  split at h1
  ·rename_i x ex
   split at h1
   ·rename_i Γ2 et
    exact hg M0 F1 Γ1 Γ2 ν σ H1 v x _ rs1 hs hl (hv.strong rs1 ex) et fun F2 ν2 σ2 rs2 s2 hs2 hl2 n2 m2=>h1 F2 ν2 σ2 H1 rs2 s2 hs2 hl2 n2
   ·exact h1.elim
  ·exact h1.elim))
noncomputable def sExpr(fa:EM FV):SM:=fun Γ=>(fa Γ).bind fun (_,Γ1)=>.ok (.next,Γ1)
theorem zdH(ha:SE X XP mp e fa)(hsw:swapsWith e none pos.line X.env=pure false):SS X XP mp io (.Expr e pos) (sExpr fa):=fun M0 F Γ ν σ H D rs hs hl hp=>
 (Ke zf hsw).wp (ha M0 F Γ ν σ H _ rs hs ((SPost.seq hs hl hp).mono fun F1 Γ1 H1 u rs1 s1 h1 v hv=>h1 F1 ν σ H1 rs1 (.refl _ _) hs hl fun _ _=>rfl))
noncomputable def sIf(t:EM Bool)(f g:SM):SM:=fun Γ=>(t Γ).bind fun (b,Γ1)=>if b then f Γ1 else g Γ1
theorem zhH(hc:ST X XP mp c ta)(ha:SB X XP mp io body f)(hb:SB X XP mp io els g):SS X XP mp io (.If c body els pos) (sIf ta f g):=fun M0 F Γ ν σ H D rs hs hl hp=>
 (zhM qV qJ qJ).wp (hc M0 F Γ ν σ H _ rs hs ((SPost.seq hs hl hp).mono fun F1 Γ1 H1 b rs1 s1 h1=>by
  cases b with
  |true=>exact Ve (ha M0 F1 Γ1 ν σ H1 D rs1 hs hl h1)
  |false=>exact v9 (hb M0 F1 Γ1 ν σ H1 D rs1 hs hl h1)))
noncomputable def qb(t:IT)(body:SM):List PyData->Gv->R (FL×Gv)
 |[],Γ=>.ok (.next,Γ)
 |d::ds,Γ=>match tgF t d Γ with
  |none=>.bad
  |some Γ1=>match body Γ1 with
   |.ok (.next,Γ2)=>qb t body ds Γ2
   |.ok (.cnt,Γ2)=>qb t body ds Γ2
   |.ok (.brk,Γ2)=>.ok (.next,Γ2)
   |r=>r
noncomputable def sFor(t:IT)(src:EM (List PyData))(body:SM):SM:=fun Γ=>(src Γ).bind fun (ds,Γ1)=>qb t body ds Γ1
theorem zho{t:IT}{src:EM (List PyData)}(hpo:PassesOwn (model X.prog X.w) X.A X.env X.xe)(hc:X.calm=true)(hi:SI X XP mp tg iter src)(hg:SG X mp (·∈io) tg t)(hb:SB X XP mp io body f)
  (hf:∀ x,foldedSetIterable iter X.env x=pure x):SS X XP mp io (.For tg iter body [] pos) (sFor t src f):=fun M0 F Γ ν σ H D rs hs hl hp=>by
 refine (zdf hpo hc Vi VJ qJ hf).wp (hi M0 F Γ ν σ H _ rs hs ((SPost.seq hs hl hp).mono fun F1 Γ1 H1 ds rs1 s1 h1 J hJ=>?_))
 dsimp only at h1
 refine⟨fun i m σ' H'=>m=ds.length-i/\i<=ds.length/\∃ F' Γ' ν',RS M0 F' Γ' ν' H'/\Stp F1 H1 F' H'/\Sees mp ν' σ'/\σ'.length=X.N.length/\SPost M0 F' ν' H' XP mp X.N.length io D (qb t f (ds.drop i) Γ'),⟨ds.length,by simp,ui _,F1,Γ1,ν,rs1,.refl _ _,hs,hl,h1⟩,?_⟩
 rintro i m σ' H' ⟨rfl,hil,F',Γ',ν',rs',st',hs',hl',hp'⟩
 obtain⟨jgo,jst⟩:=hJ i F' H' st' rs1.al0
 by_cases hlt:i<ds.length
 ·obtain⟨go,yl⟩:=jgo ds[i] (by simp[hlt])
  rw[List.drop_eq_getElem_cons hlt,qb]at hp'
  refine .inr ⟨go,fun σ2 H2=>∃ F2 Γ2 ν2,RS M0 F2 Γ2 ν2 H2/\Stp F1 H1 F2 H2/\Sees mp ν2 σ2/\σ2.length=X.N.length/\SPost M0 F2 ν2 H2 XP mp X.N.length io D (qb t f (ds.drop (i+1)) Γ2),fun σ2 H2 h=>⟨ds.length-(i+1),by omega,rfl,hlt,h⟩,fun x H2 hy=>?_⟩
  obtain⟨s2,rx⟩:=yl x H2 hy
  cases et:tgF t ds[i] Γ' with
  |none=>rw[et]at hp';exact hp'.elim
  |some Γ2=>
   rw[et]at hp'
   dsimp only at hp'
   refine hg M0 F' Γ' Γ2 ν' σ' H2 x ds[i] _ (rs'.same s2) hs' hl' rx et fun F3 ν3 σ3 rs3 s3 hs3 hl3 n3 m3=>?_
   have sA:Stp F' H' F3 H2:=(Stp.same s2).trans s3
   refine hb M0 F3 Γ2 ν3 σ3 H2 _ rs3 hs3 hl3 ?_
   cases ef:f Γ2 with
   |bad=>rw[ef]at hp';exact hp'.elim
   |exc xx yy=>
    rw[ef]at hp'
    exact hp'.step sA n3
   |ok z=>
    obtain⟨fl,Γ4⟩:=z
    rw[ef]at hp'
    cases fl with
    |next=>exact fun F4 ν4 σ4 H4 a b c d e=>⟨F4,Γ4,ν4,a,(st'.trans sA).trans b,c,d,hp'.step (sA.trans b) fun i hi=>(e i hi).trans (n3 i hi)⟩
    |cnt=>exact fun F4 ν4 σ4 H4 a b c d e=>⟨F4,Γ4,ν4,a,(st'.trans sA).trans b,c,d,hp'.step (sA.trans b) fun i hi=>(e i hi).trans (n3 i hi)⟩
    |brk=>exact fun F4 ν4 σ4 H4 a b c d e=>hp' F4 ν4 σ4 H4 a (sA.trans b) c d fun i hi=>(e i hi).trans (n3 i hi)
    |ret o=>exact fun F4 ν4 v4 H4 a b e=>hp' F4 ν4 v4 H4 a (sA.trans b) fun i hi=>(e i hi).trans (n3 i hi)
 ·have e:i=ds.length:=by omega
  subst e
  rw[List.drop_length,qb]at hp'
  exact .inl ⟨jst (xm _),hp' F' ν' σ' H' rs' (.refl _ _) hs' hl' fun _ _=>rfl⟩
noncomputable def Qn(t:EM Bool)(body:SM):Nat->Gv->R (FL×Gv)
 |0,_=>.bad
 |n+1,Γ=>(t Γ).bind fun (b,Γ1)=>if b then match body Γ1 with
   |.ok (.next,Γ2)=>Qn t body n Γ2
   |.ok (.cnt,Γ2)=>Qn t body n Γ2
   |.ok (.brk,Γ2)=>.ok (.next,Γ2)
   |r=>r
  else .ok (.next,Γ1)
noncomputable def kg(n:Nat)(t:EM Bool)(body:SM):SM:=Qn t body n
theorem zcQ{n:Nat}(hpo:PassesOwn (model X.prog X.w) X.A X.env X.xe)(hc:ST X XP mp c ta)(hb:SB X XP mp io body f):SS X XP mp io (.While c body [] pos) (kg n ta f):=fun M0 F Γ ν σ H D rs hs hl hp=>by
 refine (zbu hpo qV qJ).wp ⟨fun m σ' H'=>∃ F' Γ' ν',RS M0 F' Γ' ν' H'/\Sees mp ν' σ'/\σ'.length=X.N.length/\SPost M0 F' ν' H' XP mp X.N.length io D (Qn ta f m Γ'),⟨n,F,Γ,ν,rs,hs,hl,hp⟩,?_⟩
 rintro m σ' H' ⟨F',Γ',ν',rs',hs',hl',hp'⟩
 cases m with
 |zero=>exact hp'.elim
 |succ m=>
  rw[Qn]at hp'
  refine hc M0 F' Γ' ν' σ' H' _ rs' hs' ((SPost.seq hs' hl' hp').mono fun F1 Γ1 H1 b rs1 s1 h1=>?_)
  dsimp only at h1
  cases b with
  |false=>exact v9 (h1 F1 ν' σ' H1 rs1 (.refl _ _) hs' hl' fun _ _=>rfl)
  |true=>
   refine Ve ⟨fun σ2 H2=>∃ F2 Γ2 ν2,RS M0 F2 Γ2 ν2 H2/\Sees mp ν2 σ2/\σ2.length=X.N.length/\SPost M0 F2 ν2 H2 XP mp X.N.length io D (Qn ta f m Γ2),fun σ2 H2 h=>⟨m,uU _,h⟩,?_⟩
   rw[if_pos rfl]at h1
   refine hb M0 F1 Γ1 ν' σ' H1 _ rs1 hs' hl' ?_
   cases ef:f Γ1 with
   |bad=>rw[ef]at h1;exact h1.elim
   |exc xx yy=>rw[ef]at h1;exact h1
   |ok z=>
    obtain⟨fl,Γ4⟩:=z
    rw[ef]at h1
    cases fl with
    |next=>exact fun F4 ν4 σ4 H4 a b c d e=>⟨F4,Γ4,ν4,a,c,d,h1.step b e⟩
    |cnt=>exact fun F4 ν4 σ4 H4 a b c d e=>⟨F4,Γ4,ν4,a,c,d,h1.step b e⟩
    |brk=>exact h1
    |ret o=>exact h1
theorem ZQ{M0:Addr->Prop}{F:Fp}{Γ:Gv}{ν:Nu}{H:Hp}{i:Nat}{xs:List OV}(rs:RS M0 F Γ ν H)(e:Γ[i]?=some (some (.l xs))):∃ a vs A,ν[i]?=some (some (.ref a))/\H a=some (.lst vs)/\ORL (MM M0 F) H vs xs A/\F i=a::A/\A.Nodup:=by
 obtain⟨v,ev,q⟩:=rs.at' i _ e
 have nd:=rs.nd i
 generalize hA:F i=A at q
 rw[hA]at nd
 cases q with
 |l ea qa=>exact⟨_,_,_,ev,ea,qa,rfl,(xC.mp nd).2⟩
theorem YC{M0:Addr->Prop}{F:Fp}{Γ:Gv}{ν:Nu}{H:Hp}{i:Nat}{xs xs':List OV}{a:Addr}{vs vs':List V}(rs:RS M0 F Γ ν H)(e:Γ[i]?=some (some (.l xs)))(en:ν[i]?=some (some (.ref a)))(eh:H a=some (.lst vs))
  (h:∀ A,ORL (MM M0 F) H vs xs A->ORL (MM M0 F) H vs' xs' A):∃ F',RS M0 F' (Γ.set i (some (.l xs'))) ν (upd H a (.lst vs'))/\Stp F H F' (upd H a (.lst vs')) :=
 rs.mut (xs':=xs') (vs:=vs') e en fun us A eu qa eF=>by
  rw[eh]at eu;cases eu
  have nd:=rs.nd i
  rw[eF]at nd
  exact⟨A,fun _ h=>h,(xC.mp nd).2,h A qa⟩
noncomputable def isOwn(Γ:Gv)(i:Nat):Bool:=match Γ[i]? with
 |some (some (.l _))=>true
 |_=>false
theorem wX{Γ:Gv}{i:Nat}(h:isOwn Γ i=true):∃ xs,Γ[i]?=some (some (.l xs)):=by
 unfold isOwn at h
 split at h
 ·rename_i xs e;exact⟨xs,e⟩
 ·cases h
structure NmK(X:Cx)(mp:List Nat)(s i:Nat)(x:Str):Prop where
 hN:X.N[s]?=some x
 hv:Vis X.env.scope x
 hm:mp[s]?=some i
 hd:(x==("__debug__" :Str))=false
 hcd:(x==("__classdict__" :Str))=false
noncomputable def sApp(i:Nat)(fa:EM FV):SM:=fun Γ=>if isOwn Γ i then (fa Γ).bind fun (u,Γ1)=>match derS Γ1 u,Γ1[i]? with
 |some x,some (some (.l xs))=>if xs.length<1000000 then .ok (.next,Γ1.set i (some (.l (xs++ [.d x])))) else .bad
 |_,_=>.bad
 else .bad
theorem zfu{s i:Nat}{x:Str}(n:NmK X mp s i x)(ha:SE X XP mp a fa)(hst:starEach [a] X.env= [(false,eval a X.env)])(hline:(p2.endLine==pos.line)=true) :
  SS X XP mp io (.Expr (.Call (.Attribute (.Name x p) "append" p2) [a] [] pos) pos') (sApp i fa):=fun M0 F Γ ν σ H D rs hs hl hp=>by
 unfold sApp at hp
 split at hp
 ·rename_i hw
  obtain⟨xs0,e0⟩:=wX hw
  obtain⟨a0,vs0,A0,en0,eh0,q0,_,_⟩:=ZQ rs e0
  refine (Ke (zfi PySem.F.plainAttrs_list PySem.F.slot_list_append PySem.F.type_list_append zaI (jT n.hN n.hv n.hd n.hcd) (zy zf pa_nil hst) rfl (by rw[hst];rfl) hline hst rfl) rfl).wp ⟨.ref a0,hs s i _ n.hm en0,.inl ⟨rfl,_,SqL.of eh0⟩,?_⟩
  refine ha M0 F Γ ν σ H _ rs hs ((SPost.seq hs hl hp).mono fun F1 Γ1 H1 u rs1 s1 h1 v hv=>?_)
  dsimp only at h1
  split at h1
  ·rename_i y xs ey ex
   split at h1
   ·rename_i hz
    obtain⟨a1,vs1,A1,en1,eh1,q1,_,_⟩:=ZQ rs1 ex
    rw[en0]at en1
    cases en1
    refine⟨a0,vs1,v,rfl,rfl,eh1,by have:=sizeLine_eq;rw[q1.length];omega,?_⟩
    obtain⟨F2,rs2,s2⟩:=YC rs1 ex en0 eh1 fun A qa=>qa.snoc (hv.strong rs1 ey)
    exact h1 F2 ν σ _ rs2 s2 hs hl fun _ _=>rfl
   ·exact h1.elim
  ·exact h1.elim
 ·exact hp.elim
noncomputable def sSet(i:Nat)(fi fv:EM FV):SM:=fun Γ=>(fv Γ).bind fun (u,Γ1)=>if isOwn Γ1 i then (fi Γ1).bind fun (w,Γ2)=>match derS Γ2 u,derf Γ2 w,Γ2[i]? with
 |some x,some (.int k),some (some (.l xs))=>match ixN xs.length k with
  |some j=>match xs[j]? with
   |some (.d _)=>.ok (.next,Γ2.set i (some (.l (xs.set j (.d x)))))
   |_=>.bad
  |none=>.bad
 |_,_,_=>.bad
 else .bad
theorem zf2{s i:Nat}{x:Str}(n:NmK X mp s i x)(hi:SE X XP mp b fb)(hv:SE X XP mp a fa)(hsw:swapsWithSole [.Subscript (.Name x p) b p2] a pos.line X.env=pure false)(hw:swappedStores [.Subscript (.Name x p) b p2] a X.env=pure none)
  (hps:∀ {te:TE} {g:TG},PE X a te->PG X (.Subscript (.Name x p) b p2) g->PS X (.Assign [.Subscript (.Name x p) b p2] a pos) (Ye te g)) (hpg:∀ {to ti:TE} {t:zdx},PE X (.Name x p) to->PE X b ti->zgB X t->PG X (.Subscript (.Name x p) b p2) (zia to ti t)) :
  SS X XP mp io (.Assign [.Subscript (.Name x p) b p2] a pos) (sSet i fb fa):=fun M0 F Γ ν σ H D rs hs hl hp=>by
 refine (hps zf (hpg (jT n.hN n.hv n.hd n.hcd) zf zcw)).wp (hv M0 F Γ ν σ H _ rs hs ((SPost.seq hs hl hp).mono fun F1 Γ1 H1 u rs1 s1 h1 v ov=>?_))
 dsimp only at h1
 split at h1
 ·rename_i hw
  obtain⟨xs0,e0⟩:=wX hw
  obtain⟨a0,vs0,A0,en0,eh0,q0,_,_⟩:=ZQ rs1 e0
  refine⟨.ref a0,hs s i _ n.hm en0,?_⟩
  refine hi M0 F1 Γ1 ν σ H1 _ rs1 hs ((SPost.seq hs hl h1).mono fun F2 Γ2 H2 w rs2 s2 h2 vi oi=>?_)
  dsimp only at h2
  split at h2
  ·rename_i y k xs ey ek ex
   split at h2
   ·rename_i j ej
    split at h2
    ·rename_i z ez
     obtain⟨a1,vs1,A1,en1,eh1,q1,_,_⟩:=ZQ rs2 ex
     rw[en0]at en1
     cases en1
     cases oi.weak rs2 ek
     refine⟨a0,vs1,k,j,rfl,rfl,eh1,by rw[q1.length];exact ej,?_⟩
     obtain⟨F3,rs3,s3⟩:=YC rs2 ex en0 eh1 fun A qa=>qa.setD ((ov.stp s2 rs1.al0).strong rs2 ey) ez
     exact h2 F3 ν σ _ rs3 s3 hs hl fun _ _=>rfl
    ·exact h2.elim
   ·exact h2.elim
  ·exact h2.elim
 ·exact h1.elim
noncomputable def derfs(Γ:Gv):List FV->Option (List PyData)
 |[]=>some []
 |u::us=>match derf Γ u,derfs Γ us with
  |some x,some xs=>some (x::xs)
  |_,_=>none
theorem FOks.weak{M0:Addr->Prop}{F:Fp}{Γ:Gv}{ν:Nu}{H:Hp}(rs:RS M0 F Γ ν H):∀ {vs:List V}{us:List FV}{ds:List PyData},FOks M0 F ν H vs us->derfs Γ us=some ds->RepL zE H vs ds
 |_,_,_,.nil,e=>by cases e;exact .nil
 |_,_,_,.cons h t,e=>by
  unfold derfs at e
  split at e
  ·rename_i e1 e2
   cases e
   exact .cons (h.weak rs e1) (FOks.weak rs t e2)
  ·cases e
noncomputable def fCallW(run:List OV->RF)(fl:EM (List FV)):EM FV:=fun Γ=>(fl Γ).bind fun (us,Γ1)=>match derfs Γ1 us with
 |none=>.bad
 |some ds=>match run (ds.map .d) with
  |.ok (.d x) _=>if noL x then .ok (.dat x,Γ1) else .bad
  |_=>.bad
theorem zgP{H:Hp}{vs:List V}{ds:List PyData}(r:RepL zE H vs ds):RS zE (fun _=> []) ((ds.map OV.d).map some) (vs.map some) H where
 al0 a h:=h.elim
 dis0 i a h:=by cases h
 nd i:=.nil
 dis i j a h:=by cases h
 at' j o e:=by
  rw[xh,xh]at e
  cases q:ds[j]? with
  |none=>rw[q]at e;cases e
  |some x=>
   rw[q]at e
   have eo:OV.d x=o:=by simpa using e
   subst eo
   obtain⟨v,ev,rv⟩:=r.get' q
   refine⟨v,by rw[xh,ev];rfl,.d (rv.less fun b hb _=>?_)⟩
   rcases hb with hb | ⟨i,hb⟩
   ·exact hb
   ·cases hb
 emp i h:=rfl
 len:=by simp[r.length]
theorem zbk{x:Str}{k n:Nat}{run:List OV->RF}{fl:EM (List FV)}(kn:Kn X.prog X.w X.K X.mg X.base CX0 x k (spI n run))(hr:Room k X.A)(hg:Gl X x)(hrun:∀ args r outs,run args=.ok r outs->args.length=n)(hlist:SL X XP mp (a::es) fl)
  (hdb:(x==("__debug__" :Str))=false) (he:starEach (a::es) X.env=(false,eval a X.env)::starEach es X.env) (hpl:(backTo pos (starEach es X.env)).any (·.1)=false):SE X XP mp (.Call (.Name x p) (a::es) [] pos) (fCallW run fl):=fun M0 F Γ ν σ H Q rs hs hp=>
 Vd (E:=E0) kn hr hg Kb (hlist M0 F Γ ν σ H _ rs hs (hp.seq.mono fun F1 Γ1 H1 us rs1 s1 h1 vs oks=>by
  dsimp only at h1
  split at h1
  ·exact h1.elim
  ·rename_i ds ed
   have rw0:=oks.weak rs1 ed
   split at h1
   ·rename_i y outs er
    split at h1
    ·rename_i hz
     have hl:=hrun _ _ _ er
     refine⟨by rw[rw0.length,<- hl];simp,zE,fun _=> [],ds.map .d,zgP rw0,?_⟩
     rw[er]
     intro F' v H' rc sc
     have sm:Same H1 H':=fun b o e=>(sc.keep b o e fun _ h=>nomatch h).1
     refine h1 F1 H' (rs1.same sm) (.same sm) v ?_
     have hlen:=rc.len
     obtain⟨w,ew,q⟩:=rc.at' outs.length (.d y) (by rw[xg (xm _)];simp)
     have hol:outs.length=(vs.map some).length:=by simp at hlen |-;omega
     rw[hol,xg (xm _)]at ew
     have:v=w:=by simpa using ew
     subst this
     generalize F' outs.length=A at q
     cases q with
     |d q=>exact Rep.free hz q
    ·exact h1.elim
   ·exact h1.elim)) hdb he hpl
end
end L3
namespace L3
open PySem PySem.Spec PyProof.Rows L2
section
variable {M0:Addr->Prop} {F F':Fp} {Γ Γ':Gv} {ν ν':Nu} {H H':Hp}
end
section
variable {X:Cx} {XP:XPT} {mp io:List Nat} {a b c e tg iter:Expr} {es:List Expr} {pos p p2 pos':Pos} {fa fb fc:EM FV} {ta tb:EM Bool} {na nb:EM (List PyData)} {fo:EM OV} {st:Stmt} {sts body els:List Stmt} {f g:SM}
end
theorem ORL.snocO{M:Addr->Prop}{H:Hp}{v:V}{o:OV}{B:List Addr}(q:OR M H v o B):∀ {vs:List V}{os:List OV}{A:List Addr},ORL M H vs os A->ORL M H (vs++ [v]) (os++ [o]) (A++B)
 |_,_,_,.nil=>by simpa using ORL.cons q .nil
 |_,_,_,.cons r t=>by rw[List.append_assoc];exact .cons r (ORL.snocO q t)
section
variable {M0:Addr->Prop} {F F':Fp} {Γ Γ':Gv} {ν ν':Nu} {H H':Hp}
theorem RS.join{i:Nat}{xs:List OV}{o:OV}{v:V}{a:Addr}{vs:List V}(r:RS M0 F (Γ++ [some o]) (ν++ [some v]) H)(e:Γ[i]?=some (some (.l xs)))(en:ν[i]?=some (some (.ref a)))(eh:H a=some (.lst vs)) :
  vs.length=xs.length/\∃ F',RS M0 F' (Γ.set i (some (.l (xs++ [o])))) ν (upd H a (.lst (vs++ [v])))/\Stp F H F' (upd H a (.lst (vs++ [v]))):=by
 have hl:ν.length=Γ.length:=by have:=r.len;simp at this;exact this
 have hi:=(xc.mp e).1
 obtain⟨a1,vs1,A,en1,eh1,qa,eF,nd⟩:=ZQ r (by rw[xf hi];exact e)
 rw[xf (by omega),en]at en1
 cases en1
 rw[eh]at eh1
 cases eh1
 refine⟨qa.length,?_⟩
 obtain⟨u,eu,qo⟩:=r.at' Γ.length o (by rw[xg (xm _)];simp)
 have euv:u=v:=by
  rw[xg (by omega),hl]at eu
  simpa using eu.symm
 subst euv
 have ha:a∈F i:=by rw[eF];exact xz
 have hne:∀ j,j≠i->∀ b∈F j,b≠a:=fun j hj b hb z=>by subst z;exact hj (r.dis _ _ _ hb ha)
 have hnA:∀ b∈A,b≠a:=fun b hb z=>by
  subst z
  have:=r.nd i
  rw[eF]at this
  exact (xC.mp this).1 hb
 let F':Fp:=fun j=>if j=i then F i++F Γ.length else if j<Γ.length then F j else []
 have hFi:F' i=F i++F Γ.length:=by show (if i=i then _ else _)=_;rw[if_pos rfl]
 have hFj:∀ j,j≠i->j<Γ.length->F' j=F j:=fun j h1 h2=>by show (if j=i then _ else _)=_;rw[if_neg h1,if_pos h2]
 have hFo:∀ j,j≠i->¬ j<Γ.length->F' j= []:=fun j h1 h2=>by show (if j=i then _ else _)=_;rw[if_neg h1,if_neg h2]
 have sub:∀ j b,b∈F' j->(j=i/\(b∈F i∨b∈F Γ.length))∨(j≠i/\j<Γ.length/\b∈F j):=fun j b h=>by
  by_cases h1:j=i
  ·subst h1;rw[hFi]at h;exact .inl ⟨rfl,xJ.mp h⟩
  ·by_cases h2:j<Γ.length
   ·rw[hFj j h1 h2]at h;exact .inr ⟨h1,h2,h⟩
   ·rw[hFo j h1 h2]at h;cases h
 have s:Stp F H F' (upd H a (.lst (vs++ [u]))):=⟨fun b ob e nb=>⟨by
   rw[zo (fun z=>by subst z;exact nb i ha)];exact e,fun j h=>by
   rcases sub j b h with ⟨_,h | h⟩ | ⟨_,_,h⟩<;>exact nb _ h⟩,fun b xs e=>by
   rw[zo (fun z=>by subst z;rw[eh]at e;cases e)];exact e,fun b h=>by
   by_cases z:b=a
   ·subst z;rw[zA];exact fun z=>nomatch z
   ·rw[zo z];exact h⟩
 have hin:∀ b,b∈F Γ.length->b∉F i:=fun b h1 h2=>by have:=r.dis _ _ b h1 h2;omega
 refine⟨F',⟨fun b h=>s.stay b (r.al0 b h),fun j b h=>?_,fun j=>?_,fun j k b h1 h2=>?_,fun j p ep=>?_,fun j h=>?_,by simp[hl]⟩,s⟩
 ·rcases sub j b h with ⟨_,h | h⟩ | ⟨_,_,h⟩<;>exact r.dis0 _ b h
 ·by_cases h1:j=i
  ·subst h1;rw[hFi]
   exact uk.mpr ⟨r.nd _,r.nd _,fun x hx y hy z=>by subst z;exact hin _ hy hx⟩
  ·by_cases h2:j<Γ.length
   ·rw[hFj j h1 h2];exact r.nd _
   ·rw[hFo j h1 h2];exact .nil
 ·rcases sub j b h1 with ⟨e1,z1⟩ | ⟨n1,l1,z1⟩
  ·rcases sub k b h2 with ⟨e2,z2⟩ | ⟨n2,l2,z2⟩
   ·rw[e1,e2]
   ·rcases z1 with z1 | z1
    ·exact absurd (r.dis _ _ b z2 z1) n2
    ·have:=r.dis _ _ b z2 z1;omega
  ·rcases sub k b h2 with ⟨e2,z2⟩ | ⟨n2,l2,z2⟩
   ·rcases z2 with z2 | z2
    ·exact absurd (r.dis _ _ b z1 z2) n1
    ·have:=r.dis _ _ b z1 z2;omega
   ·exact r.dis _ _ b z1 z2
 ·by_cases hj:j=i
  ·subst hj
   rw[xt hi]at ep
   cases ep
   refine⟨.ref a,en,?_⟩
   rw[hFi,eF,uT]
   exact .l zA (ORL.snocO (qo.go (fun _ _ x=>zJ s r.al0 x) fun b hb=>zo (hne _ (by omega) b hb)) (qa.go (fun _ _ x=>zJ s r.al0 x) fun b hb=>zo (hnA b hb)))
  ·rw[xv (Ne.symm hj)]at ep
   have hjl:j<Γ.length:=(xc.mp ep).1
   obtain⟨w,e1,q⟩:=r.at' j p (by rw[xf hjl];exact ep)
   rw[xf (by omega)]at e1
   exact⟨w,e1,by rw[hFj j hj hjl];exact q.go (fun _ _ x=>zJ s r.al0 x) fun b hb=>zo (hne j hj b hb)⟩
 ·by_cases hj:j=i
  ·subst hj;rw[xt hi]at h;exact absurd rfl (h _)
  ·by_cases h2:j<Γ.length
   ·rw[hFj j hj h2]
    refine r.emp j fun p ep=>h p ?_
    rw[xf h2]at ep
    rw[xv (Ne.symm hj)];exact ep
   ·exact hFo j hj h2
theorem RS.clear(r:RS M0 F Γ ν H)(j:Nat)(w:Option V):∃ F',RS M0 F' (Γ.set j none) (ν.set j w) H/\Stp F H F' H:=by
 have sub:∀ k b,b∈jD F j [] k->k≠j/\b∈F k:=fun k b h=>by
  by_cases hk:k=j
  ·subst hk;rw[zG]at h;cases h
  ·rw[zO hk]at h;exact⟨hk,h⟩
 have s:Stp F H (jD F j []) H:=Zu fun k b h=>⟨k,(sub k b h).2⟩
 refine⟨jD F j [],⟨r.al0,fun k b h=>r.dis0 k b (sub k b h).2,fun k=>?_,fun k l b h1 h2=>r.dis k l b (sub k b h1).2 (sub l b h2).2,fun k o e=>?_,fun k h=>?_,by simp[r.len]⟩,s⟩
 ·by_cases hk:k=j
  ·subst hk;rw[zG];exact .nil
  ·rw[zO hk];exact r.nd k
 ·have hk:k≠j:=fun z=>by
   subst z
   have hl:=(xc.mp e).1
   rw[xt (by simpa using hl)]at e;cases e
  rw[xv (Ne.symm hk)]at e |-
  obtain⟨v,e1,q⟩:=r.at' k o e
  exact⟨v,e1,by rw[zO hk];exact q.go (fun _ _ x=>zJ s r.al0 x) fun _ _=>rfl⟩
 ·by_cases hk:k=j
  ·subst hk;exact zG
  ·rw[zO hk]
   refine r.emp k fun o e=>h o ?_
   rw[xv (Ne.symm hk)];exact e
end
section
variable {M0:Addr->Prop} {F F':Fp} {Γ Γ':Gv} {ν ν':Nu} {H H':Hp}
end
end L3
namespace L3
open PySem PySem.Spec PyProof.Rows L2
section
variable {X:Cx} {XP:XPT} {mp io:List Nat} {a b c e tg iter:Expr} {es:List Expr} {pos p p2 pos' p3:Pos} {fa fb fc:EM FV} {ta tb:EM Bool} {na nb:EM (List PyData)} {fo:EM OV} {st:Stmt} {sts body els:List Stmt} {f g:SM}
end
section
variable {X:Cx} {XP:XPT} {mp io:List Nat} {a b c e tg iter:Expr} {es:List Expr} {pos p p2 pos' p3 py pc pf:Pos} {fa fb fc:EM FV} {ta tb:EM Bool} {na nb:EM (List PyData)} {fo:EM OV} {st:Stmt} {sts body els:List Stmt} {f g:SM}
end
end L3
namespace L3
open PySem PySem.Spec PyProof.Rows L2
noncomputable def spX(mg:Str->Option Value)(n:Nat)(run:List OV->RF):Sp:=fun vs H Q E=>vs.length=n/\∃ (M0:Addr->Prop) (F:Fp) (args:List OV),RS M0 F (args.map some) (vs.map some) H/\match run args with
 |.ok r outs=>∀ F' v H',RS M0 F' (outs++ [some r]) (vs.map some++ [some v]) H'->Stp F H F' H'->Q v H'
 |.exc x _=>∀ C,mg x.cls=some (.ref C)->∀ F' H',Stp F H F' H'->E (.ref C) none H'
 |.bad=>False
noncomputable def vN(x:Str):SM:=fun Γ=>.exc ⟨x,.none⟩ Γ
noncomputable def zhT(X:Cx)(XP:XPT):Prop:=∀ (x:Exc) (Γ:Gv) (F:Fp) (ν:Nu) (σ:St) (H:Hp),XP x Γ F ν σ H->∀ C,X.mg x.cls=some (.ref C)->∀ pins s,Inv X pins σ H s->∀ h' ea args,Heap.MadeExcOf s.heap h' ea (.ref C) args->X.xe (.ref ea) { s with heap:=h' }
section
variable {X:Cx} {XP:XPT} {mp io:List Nat} {x:Str} {C:Addr} {np cpos pos cp:Pos} {z:Str} {cj:Nat}
theorem zaS(k:KC X x C)(hcalm:X.calm=true)(rz:zhT X XP):SS X XP mp io (.Raise (some (.Call (.Name x np) [.Constant (.str z) cj cp] [] cpos)) none pos) (vN x):=fun M0 F Γ ν σ H D rs hs hl hp=>
 zbl k hcalm fun pins s I h' ea args hm=>rz ⟨x,.none⟩ Γ F ν σ H (hp F ν σ H rs (.refl _ _) hs hl fun _ _=>rfl) C k.mg pins s I h' ea args hm
end
noncomputable def za5(c:Str):List (Str×Nat×Nat×Str)->Option (Nat×Nat×Str)
 |[]=>none
 | (x,t,j,v)::r=>if x=c then some (t,j,v) else za5 c r
structure HdN(X:Cx)(L:Str->Addr->Prop)(mp:List Nat)(hd:ExceptHandler)(x:Str)(C:Addr)(t j:Nat)(v:Str):Prop where
 k:HdK X hd C t v
 e:KC X x C
 l:L x C
 m:mp[t]?=some j
inductive HdNs(X:Cx)(L:Str->Addr->Prop)(mp:List Nat):List ExceptHandler->List (Str×Nat×Nat×Str)->List (Addr×Nat×Str)->Prop
 |nil:HdNs X L mp [] [] []
 |cons {hd:ExceptHandler} {hs:List ExceptHandler} {x:Str} {C:Addr} {t j:Nat} {v:Str} {ns:List (Str×Nat×Nat×Str)} {zs:List (Addr×Nat×Str)}:HdN X L mp hd x C t j v->HdNs X L mp hs ns zs->HdNs X L mp (hd::hs) ((x,t,j,v)::ns) ((C,t,v)::zs)
theorem HdNs.ks{X:Cx}{L:Str->Addr->Prop}{mp:List Nat}:∀ {hs:List ExceptHandler}{ns:List (Str×Nat×Nat×Str)}{zs:List (Addr×Nat×Str)},HdNs X L mp hs ns zs->zdW X hs zs
 |_,_,_,.nil=>.nil
 |_,_,_,.cons h t=>.cons h.k t.ks
theorem HdNs.found{X:Cx}{L:Str->Addr->Prop}{mp:List Nat}{c:Str}{t j:Nat}{v:Str}:∀ {hs:List ExceptHandler}{ns:List (Str×Nat×Nat×Str)}{zs:List (Addr×Nat×Str)},HdNs X L mp hs ns zs->za5 c ns=some (t,j,v)->∃ C,KC X c C/\L c C/\mp[t]?=some j
 |_,_,_,.nil,e=>by cases e
 |_,_,_,.cons (x:=x) (C:=C) h r,e=>by
  unfold za5 at e
  split at e
  ·rename_i q
   subst q
   cases e
   exact⟨C,h.e,h.l,h.m⟩
  ·exact r.found e
section
variable {X:Cx} {XP:XPT} {mp io:List Nat} {L:Str->Addr->Prop} {hs:List ExceptHandler} {ns:List (Str×Nat×Nat×Str)} {zs:List (Addr×Nat×Str)} {a:Expr} {es:List Expr} {fl:EM (List AV)}
end
end L3
namespace L2
open PySem PySem.Spec PyProof.Rows
section
variable {X:Cx}
theorem YE {a:Expr}{p1 p2 q1 q2:Pos}(hc:X.calm=true) (hgl:Gl X "len") (hml:X.mg "len" =none) (hgs:Gl X "set") (hms:X.mg "set" =none) (hsa:starEach [a] X.env= [(false,eval a X.env)]) :
  PE X (.Call (.Name "len" p1) [.Call (.Name "set" p2) [a] [] q2] [] q1) (fun σ H Q=>wpE X a σ H fun v H1=>∃ l ns,v=.ref l/\SqL X.K H1 l (List.map V.int ns)/\ns.length<=60/\Q (.int (Tab.dedup ns).length) H1):=by
 intro pins s σ H Q I h
 refine wpAny_Call_Name_kw (jt I hgl hml PySem.boot_len ?_)
 refine PyProof.Rows.callWith_builtin1 (E:=X.xe) ?_ rfl rfl
 show wpAny _ _ (spliced ((false,eval (.Call (.Name "set" p2) [a] [] q2) X.env)::backTo q1 (starEach [] X.env))) _ _ s
 refine Calls.spliced_cons ?_
 refine thn (Yq hc hgs hms hsa (R:=fun ns H1=>Q (.int (Tab.dedup ns).length) H1) I h) fun v s1 ⟨r1,ns,H1,e1,I1,_,hn,hS1,q⟩=>?_
 subst e1
 refine Calls.spliced_nil ?_
 obtain⟨o3,es3,ep3,t3,hg3,hx3,hd3,_,_,hb3,hf3,hn3⟩:=hS1
 have hsb:scanBound=4096:=rfl
 have hdl:=jB ns
 obtain⟨hh,gg,gd,gt,go⟩:=s1
 refine call_len_set hg3 hx3 hd3 hf3 (by omega) ?_
 refine⟨.int (Tab.dedup ns).length,H1,I1.kept (t':=gt+1+1) fun b o e=>e,⟨gt+1,?_⟩,q⟩
 rw[hn3]
end
end L2
namespace L3
open PySem PySem.Spec PyProof.Rows L2
theorem ORL.appD{M:Addr->Prop}{H:Hp}:∀ {zs:List V}{ds:List PyData}{vs:List V}{os:List OV}{A:List Addr},RepL M H zs ds->ORL M H vs os A->ORL M H (vs++zs) (os++ds.map .d) A
 |_,_,_,_,_,.nil,h=>by simpa using h
 |_,_,vs,os,A,.cons (v:=v) (vs:=zs) (d:=d) (ds:=ds) r t,h=>by
  have:=ORL.appD t (ORL.snoc r h)
  simpa using this
section
variable {X:Cx} {XP:XPT} {mp io:List Nat} {a e:Expr} {p p1 p2 q1 q2 pos px py ps:Pos} {fa:EM FV}
noncomputable def VI(fa:EM FV):EM FV:=fun Γ=>(fa Γ).bind fun (u,Γ1)=>match (derL Γ1 u).bind qk with
 |some ns=>if ns.length<=60 then .ok (.dat (.int (Tab.dedup ns).length),Γ1) else .bad
 |none=>.bad
theorem zb9 (hc:X.calm=true) (hgl:Gl X "len") (hml:X.mg "len" =none) (hgs:Gl X "set") (hms:X.mg "set" =none) (ha:SE X XP mp a fa) (hsa:starEach [a] X.env= [(false,eval a X.env)]) :
  SE X XP mp (.Call (.Name "len" p1) [.Call (.Name "set" p2) [a] [] q2] [] q1) (VI fa):=fun M0 F Γ ν σ H Q rs hs hp=>by
 refine (YE hc hgl hml hgs hms hsa).wp (ha.run rs hs hp fun F1 Γ1 H1 u v rs1 s1 o1 h1=>?_)
 dsimp only at h1
 split at h1
 ·rename_i ns en
  split at h1
  ·rename_i hn
   obtain⟨l,rfl,el⟩:=VE o1 rs1 en
   exact⟨l,ns,rfl,SqL.of el,hn,h1 F1 H1 rs1 (.refl _ _) _ (Rep.int _)⟩
  ·exact h1.elim
 ·exact h1.elim
noncomputable def zdG(i:Nat)(fa:EM FV):SM:=fun Γ=>if isOwn Γ i then (fa Γ).bind fun (u,Γ1)=>match derS Γ1 u,Γ1[i]? with
 |some (.list ds),some (some (.l xs))=>if xs.length+ds.length<=1000000 then .ok (.next,Γ1.set i (some (.l (xs++ds.map .d)))) else .bad
 |_,_=>.bad
 else .bad
theorem Sees.again{ν:Nu}{σ:St}{s i:Nat}{v:V}(h:Sees mp ν σ)(hm:mp[s]?=some i)(hv:ν[i]?=some (some v))(hs:s<σ.length):Sees mp ν (σ.set s (some v)):=fun s' j w e1 e2=>by
 by_cases hj:s=s'
 ·subst hj
  rw[hm]at e1
  cases e1
  rw[hv]at e2
  cases e2
  rw[xt hs]
 ·rw[xv hj];exact h s' j w e1 e2
theorem zfY{s i:Nat}{x:Str}(n:NmK X mp s i x)(hN:X.N.Nodup)(hx:Loc X.env.scope x)(hf:X.fn x=true∨X.env.scope.names.lookup x=some .local)(ha:SE X XP mp a fa):SS X XP mp io (.AugAssign (.Name x p) .Add a pos) (zdG i fa):=fun M0 F Γ ν σ H D rs hs hl hp=>by
 unfold zdG at hp
 split at hp
 ·rename_i hw
  obtain⟨xs0,e0⟩:=wX hw
  obtain⟨a0,vs0,A0,en0,eh0,q0,_,_⟩:=ZQ rs e0
  have hsl:s<σ.length:=by rw[hl];exact (xc.mp n.hN).1
  refine (zgx hN n.hN hx zf zek hf).wp ⟨.ref a0,hs s i _ n.hm en0,?_⟩
  refine ha M0 F Γ ν σ H _ rs hs ((SPost.seq hs hl hp).mono fun F1 Γ1 H1 u rs1 s1 h1 v hv=>?_)
  dsimp only at h1
  split at h1
  ·rename_i ds xs ed ex
   split at h1
   ·rename_i hz
    obtain⟨a1,vs1,A1,en1,eh1,q1,_,_⟩:=ZQ rs1 ex
    rw[en0]at en1
    cases en1
    obtain⟨l,zs,rfl,el,_,r⟩:=(hv.strong rs1 ed).lst_inv
    refine⟨a0,l,vs1,zs,rfl,rfl,eh1,el,by have:=sizeLine_eq;rw[q1.length,r.length];omega,?_⟩
    obtain⟨F2,rs2,s2⟩:=YC rs1 ex en0 eh1 fun A qa=>ORL.appD r qa
    exact h1 F2 ν _ _ rs2 s2 (hs.again n.hm en0 hsl) (by simpa using hl) fun _ _=>rfl
   ·exact h1.elim
  ·exact h1.elim
 ·exact hp.elim
noncomputable def k6(io:List Nat)(i j:Nat)(fa:EM FV):SM:=fun Γ=>(fa Γ).bind fun (u,Γ1)=>match derS Γ1 u with
 |some (.list (d::ds))=>if i<Γ1.length/\j<Γ1.length/\i∉io/\j∉io then .ok (.next,(Γ1.set i (some (.d d))).set j (some (.d (.list ds)))) else .bad
 |_=>.bad
theorem zdo{s i t j:Nat}{x y:Str}{k:Nat}(hc:X.calm=true)(hN:X.N.Nodup)(hn:mp.Nodup)(hi:X.N[s]?=some x)(hx:Loc X.env.scope x)(hfx:X.fn x=true∨X.env.scope.names.lookup x=some .local)(hm:mp[s]?=some i)(hj:X.N[t]?=some y)(hy:Loc X.env.scope y)(hfy:X.fn y=true∨X.env.scope.names.lookup y=some .local)(hmt:mp[t]?=some j)
  (ha:SE X XP mp a fa) (hsw:swapsWithSole [.Tuple [.Name x px,.Starred (.Name y py) ps] k p] a pos.line X.env=pure false) (hw:swappedStores [.Tuple [.Name x px,.Starred (.Name y py) ps] k p] a X.env=pure none) :
  SS X XP mp io (.Assign [.Tuple [.Name x px,.Starred (.Name y py) ps] k p] a pos) (k6 io i j fa):=fun M0 F Γ ν σ H D rs hs hl hp=>by
 have hsl:s<X.N.length:=(xc.mp hi).1
 have htl:t<X.N.length:=(xc.mp hj).1
 refine (YR zf (zeO hc hN hi hx hfx hj hy hfy) hsw hw).wp (ha M0 F Γ ν σ H _ rs hs ((SPost.seq hs hl hp).mono fun F1 Γ1 H1 u rs1 s1 h1 v hv=>?_))
 unfold k6 at hp
 dsimp only at h1
 split at h1
 ·rename_i d ds ed
  split at h1
  ·rename_i hh
   obtain⟨k1,k2,k3,k4⟩:=hh
   obtain⟨l,zs,rfl,el,_,r⟩:=(hv.strong rs1 ed).lst_inv
   cases r with
   |cons r1 r2=>
    rename_i w ws
    refine⟨l,w,ws,rfl,SqL.of el,fun q hq=>?_⟩
    have sm:Same H1 (upd H1 q (.lst ws)):=zN hq
    obtain⟨F2,rs2,s2⟩:=(rs1.same sm).setD (i:=i) (r1.grow sm.grow) k1
    have hnm:¬ MM M0 F1 q:=fun z=>rs1.al q z hq
    have rl:Rep (MM M0 F1) (upd H1 q (.lst ws)) (.ref q) (.list ds):=Rep.list zA hnm (r2.grow sm.grow)
    obtain⟨F3,rs3,s3⟩:=rs2.setD (i:=j) (zJ s2 (rs1.same sm).al0 rl) (by simpa using k2)
    refine h1 F3 _ _ _ rs3 (((Stp.same sm).trans s2).trans s3) ((hs.set hn hm (by rw[hl];exact hsl)).set hn hmt (by rw[ul,hl];exact htl)) (by simpa using hl) fun z hz=>?_
    rw[xv (fun e=>k4 (by rw[e];exact hz)),xv (fun e=>k3 (by rw[e];exact hz))]
  ·exact h1.elim
 ·exact h1.elim
end
end L3
namespace L2
open PySem PySem.Spec PyProof.Rows
section
variable {X:Cx}
end
end L2
namespace L3
open PySem PySem.Spec PyProof.Rows L2
section
variable {X:Cx} {XP:XPT} {mp:List Nat} {a b c e:Expr} {es:List Expr} {pos p p2:Pos} {fa fb fc:EM FV}
noncomputable def zf6:List Str->Str
 |[]=>Str.empty
 |x::r=>x++zf6 r
theorem kj(x:Str):x++Str.empty=x:=by
 show Str.append x Str.empty=x
 cases x;simp[Str.append,Str.empty]
noncomputable def zcl:EM (List Str):=fun Γ=>.ok ([],Γ)
noncomputable def SJ(X:Cx)(XP:XPT)(mp:List Nat)(es:List Expr)(f:EM (List Str)):Prop:=∀ (M0:Addr->Prop) (F:Fp) (Γ:Gv) (ν:Nu) (σ:St) (H:Hp) (acc:Str) (Q:Str->Hp->Prop),RS M0 F Γ ν H->Sees mp ν σ->acc.length+10000*es.length<=10000000 ->
 EPost M0 F ν σ H XP (fun F' Γ' H' ys=>Q (acc++zf6 ys) H') (f Γ)->∀ pins s,Inv X pins σ H s->Joins (model X.prog X.w) X.A X.xe (evalEach es X.env) acc (fun out s1=>out.length<=sizeLine/\∃ H',Inv X pins σ H' s1/\Q out H') s
theorem zfM:SJ X XP mp [] zcl:=fun M0 F Γ ν σ H acc Q rs hs hz hp pins s I=>by
 have:=hp F H rs (.refl _ _)
 unfold zf6 at this
 rw[kj]at this
 exact⟨by have:=sizeLine_eq;omega,H,I,this⟩
end
end L3
namespace L3
open PySem PySem.Spec PyProof.Rows L2
mutual
inductive IE where
 |var (s i:Nat)
 |frz (s i:Nat)
 |cint (i:Int)
 |cstr (x:Str)
 |cbool (b:Bool)
 |cnone
 |gint (x:Str) (i:Int)
 |tup (a:IL)
 |new (n:IN)
 |bin (op:Operator) (a b:IE)
 |cmp (op:CmpOp) (a b:IE)
 |chain (op op':CmpOp) (a b c:IE)
 |not (a:IE)
 |neg (a:IE)
 |and (a b:IE)
 |or (a b:IE)
 |ite (c a b:IE)
 |ix (a b:IE)
 |len (a:IE)
 |int (a:IE)
 |all (a:IE)
 |any (a:IE)
 |tuple (a:IE)
 |isi (T:String) (a:IE)
 |min (a b:IE)
 |max (a b:IE)
 |count (a b:IE)
 |less (a b:IE)
 |call (o:IO)
 |callw (f:Str) (n:Nat) (a:IL)
 |lset (a:IE)
 |lsetL (a:IE)
inductive IL where
 |nil
 |cons (e:IE) (a:IL)
inductive IA where
 |nil
 |cons (e:IE) (a:IA)
 |io (s i:Nat) (a:IA)
 |tmp (n:IN)
inductive IN where
 |lst (a:IL)
 |cut (e:IE) (lo hi:IP)
 |cat (a b:IE)
 |list (e:IE)
 |sorted (e:IE)
 |comp (n k:Nat) (ix:List Nat) (N':List Str) (t:IT) (src:II) (c:IC) (el:IE)
inductive IP where
 |non
 |one (e:IE)
inductive II where
 |list (e:IE)
 |tup (e:IE)
 |range (e:IE)
 |enum (e:IE)
inductive IC where
 |yes
 |one (e:IE)
inductive IO where
 |dat (e:IE)
 |own (n:IN)
 |call (f:Str) (n:Nat) (a:IA)
 |move (s i:Nat)
inductive IJ where
 |nil
end
noncomputable abbrev CF:=Str->List OV->RF
noncomputable def fNo:EM Bool:=fun _=>.bad
mutual
noncomputable def IE.ev(cf:CF):IE->EM FV×EM Bool
 |.var _ i=>(fVar i,fTru (fVar i))
 |.frz _ i=>(fFrz i,fTru (fFrz i))
 |.cint i=>(fC (.int i),fTru (fC (.int i)))
 |.cstr x=>(fC (.str x),fTru (fC (.str x)))
 |.cbool b=>(fC (.bool b),fTru (fC (.bool b)))
 |.cnone=>(fC .none,fTru (fC .none))
 |.gint _ i=>(fC (.int i),fTru (fC (.int i)))
 |.tup a=>(fTup (a.ev cf),fTru (fTup (a.ev cf)))
 |.new n=>(fNew (n.ev cf),fTru (fNew (n.ev cf)))
 |.bin op a b=>(fBin (binD op) (a.ev cf).1 (b.ev cf).1,fTru (fBin (binD op) (a.ev cf).1 (b.ev cf).1))
 |.cmp op a b=>(fB (fCmp (cmpD op) (a.ev cf).1 (b.ev cf).1),fCmp (cmpD op) (a.ev cf).1 (b.ev cf).1)
 |.chain op op' a b c=>(fB (fChain (cmpD op) (cmpD op') (a.ev cf).1 (b.ev cf).1 (c.ev cf).1),fChain (cmpD op) (cmpD op') (a.ev cf).1 (b.ev cf).1 (c.ev cf).1)
 |.not a=>(fB (fNotT (fTru (a.ev cf).1)),fNotT (a.ev cf).2)
 |.neg a=>(f1 gNeg (a.ev cf).1,fTru (f1 gNeg (a.ev cf).1))
 |.and a b=>(fAndV (a.ev cf).1 (b.ev cf).1,fAndT (a.ev cf).2 (b.ev cf).2)
 |.or a b=>(fOrV (a.ev cf).1 (b.ev cf).1,fOrT (a.ev cf).2 (b.ev cf).2)
 |.ite c a b=>(fIf (c.ev cf).2 (a.ev cf).1 (b.ev cf).1,fNo)
 |.ix a b=>(fIx (a.ev cf).1 (b.ev cf).1,fTru (fIx (a.ev cf).1 (b.ev cf).1))
 |.len a=>(f1 gLen (a.ev cf).1,fTru (f1 gLen (a.ev cf).1))
 |.int a=>(f1 gInt (a.ev cf).1,fTru (f1 gInt (a.ev cf).1))
 |.all a=>(f1 gAll (a.ev cf).1,fTru (f1 gAll (a.ev cf).1))
 |.any a=>(f1 gAny (a.ev cf).1,fTru (f1 gAny (a.ev cf).1))
 |.tuple a=>(fTupC (a.ev cf).1,fTru (fTupC (a.ev cf).1))
 |.isi T a=>(fIsi T (a.ev cf).1,fTru (fIsi T (a.ev cf).1))
 |.min a b=>(f2 gMin (a.ev cf).1 (b.ev cf).1,fTru (f2 gMin (a.ev cf).1 (b.ev cf).1))
 |.max a b=>(f2 gMax (a.ev cf).1 (b.ev cf).1,fTru (f2 gMax (a.ev cf).1 (b.ev cf).1))
 |.count a b=>(vM (a.ev cf).1 (b.ev cf).1,fTru (vM (a.ev cf).1 (b.ev cf).1))
 |.less a b=>(kN (a.ev cf).1 (b.ev cf).1,fTru (kN (a.ev cf).1 (b.ev cf).1))
 |.call o=>(fOD (o.ev cf),fTru (fOD (o.ev cf)))
 |.callw f n a=>(fCallW (cf f) (a.ev cf),fTru (fCallW (cf f) (a.ev cf)))
 |.lset a=>(yd (a.ev cf).1,fTru (yd (a.ev cf).1))
 |.lsetL a=>(VI (a.ev cf).1,fTru (VI (a.ev cf).1))
noncomputable def IL.ev(cf:CF):IL->EM (List FV)
 |.nil=>fNil
 |.cons e a=>fCons (e.ev cf).1 (a.ev cf)
noncomputable def IA.ev(cf:CF):IA->EM (List AV)
 |.nil=>aNil
 |.cons e a=>aCons (e.ev cf).1 (a.ev cf)
 |.io _ i a=>aIo i (a.ev cf)
 |.tmp n=>zfS (n.ev cf)
noncomputable def IN.ev(cf:CF):IN->EM (List PyData)
 |.lst a=>fLst (a.ev cf)
 |.cut e lo hi=>zgg (e.ev cf).1 (lo.ev cf) (hi.ev cf)
 |.cat a b=>Y2 (a.ev cf).1 (b.ev cf).1
 |.list e=>fListC (e.ev cf).1
 |.sorted e=>wS (e.ev cf).1
 |.comp n k _ _ t src c el=>fComp n k t (src.ev cf) (c.ev cf) (el.ev cf).1
noncomputable def IP.ev(cf:CF):IP->EM (Option Int)
 |.non=>zhe
 |.one e=>zf8 (e.ev cf).1
noncomputable def II.ev(cf:CF):II->EM (List PyData)
 |.list e=>fSeqL (e.ev cf).1
 |.tup e=>fSeqT (e.ev cf).1
 |.range e=>fRange (e.ev cf).1
 |.enum e=>fEnum (e.ev cf).1
noncomputable def IC.ev(cf:CF):IC->EM Bool
 |.yes=>fYes
 |.one e=>(e.ev cf).2
noncomputable def IO.ev(cf:CF):IO->EM OV
 |.dat e=>fD (e.ev cf).1
 |.own n=>fOwn (n.ev cf)
 |.call f _ a=>fCall (cf f) (a.ev cf)
 |.move _ i=>fMove i
noncomputable def IJ.ev(cf:CF):IJ->EM (List Str)
 |.nil=>zcl
end
structure Wd where
 bi:List Str
 gi:List (Str×Int)
 gs:List (Str×Str)
 fl:List (Str×Nat)
 fx:List (Str×Nat)
 ex:List Str
noncomputable def zp:Expr->Bool
 |.Starred .. =>false
 |_=>true
noncomputable def Q2:Expr->Bool
 |.UnaryOp .Not _ _=>false
 |.BoolOp .. =>false
 |.IfExp .. =>false
 |.Compare .. =>false
 |_=>true
noncomputable def jJ:Expr->Bool
 |.Slice .. =>false
 |_=>true
noncomputable def j1:Expr->Bool
 |.Set .. =>false
 |_=>true
noncomputable def zcL:Expr->Bool
 |.Tuple .. =>true
 |_=>false
noncomputable def zcA(sc:Scope)(x:Str):Bool:=decide (sc.names.lookup x=some .local)||decide (sc.names.lookup x=some .cell)||decide (sc.names.lookup x=some .free)
noncomputable def VZ(sc:Scope)(x:Str):Bool:=decide (sc.names.lookup x=some .globalImplicit)
noncomputable def nmB (sc:Scope) (N:List Str) (mp:List Nat) (s i:Nat) (x:Str):Bool:=decide (N[s]?=some x)&&zcA sc x&&decide (mp[s]?=some i)&& !(x==("__debug__" :Str))&& !(x==("__classdict__" :Str))
noncomputable def biB(W:Wd)(sc:Scope)(x y:Str):Bool:=decide (x=y)&&VZ sc x&&W.bi.contains x
noncomputable def okO{α:Type}(o:Option α)(f:α->Bool):Bool:=match o with
 |some a=>f a
 |none=>false
theorem zg{α:Type}{o:Option α}{f:α->Bool}(h:okO o f=true):∃ a,o=some a/\f a=true:=by
 cases o with
 |none=>cases h
 |some a=>exact⟨a,rfl,h⟩
noncomputable def qy:Expr->Option (Str×Pos)
 |.Name x p=>some (x,p)
 |_=>none
noncomputable def vh:Expr->Option (Const×Nat×Pos)
 |.Constant c j p=>some (c,j,p)
 |_=>none
noncomputable def zig:Const->Option Int
 |.int i=>some i
 |_=>none
noncomputable def zgX:Const->Option Str
 |.str i=>some i
 |_=>none
noncomputable def zfk:Const->Option Bool
 |.bool i=>some i
 |_=>none
noncomputable def zfj:Const->Bool
 |.none=>true
 |_=>false
noncomputable def zb0:Expr->Option (List Expr×Nat×Pos)
 |.Tuple es n p=>some (es,n,p)
 |_=>none
noncomputable def zfs:Expr->Option (List Expr×Pos)
 |.List es p=>some (es,p)
 |_=>none
noncomputable def V8:Expr->Option (Expr×Operator×Expr×Pos)
 |.BinOp x op y p=>some (x,op,y,p)
 |_=>none
noncomputable def zc6:Expr->Option (Expr×List CmpOp×List Expr×Pos)
 |.Compare x ops ys p=>some (x,ops,ys,p)
 |_=>none
noncomputable def zhk:Expr->Option (UnaryOp×Expr×Pos)
 |.UnaryOp op x p=>some (op,x,p)
 |_=>none
noncomputable def zf9:Expr->Option (BoolOp×List Expr×Pos)
 |.BoolOp op vs p=>some (op,vs,p)
 |_=>none
noncomputable def ze9:Expr->Option (Expr×Expr×Expr×Pos)
 |.IfExp z x y p=>some (z,x,y,p)
 |_=>none
noncomputable def yb:Expr->Option (Expr×Expr×Pos)
 |.Subscript x y p=>some (x,y,p)
 |_=>none
noncomputable def zbz:Expr->Option (Option Expr×Option Expr×Option Expr×Pos)
 |.Slice l h s p=>some (l,h,s,p)
 |_=>none
noncomputable def y8:Expr->Option (Expr×List Expr×List Keyword×Pos)
 |.Call f xs ks q=>some (f,xs,ks,q)
 |_=>none
noncomputable def zbv:Expr->Option (Expr×Str×Pos)
 |.Attribute x f p=>some (x,f,p)
 |_=>none
noncomputable def zdg:Expr->Option (Expr×List Comprehension×Scope×Pos)
 |.ListComp elt gens scope p=>some (elt,gens,scope,p)
 |_=>none
theorem zM{e:Expr}{x:Str}{p:Pos}(h:qy e=some (x,p)):e=.Name x p:=by cases e<;>cases h<;>rfl
theorem jF{e:Expr}{c:Const}{j:Nat}{p:Pos}(h:vh e=some (c,j,p)):e=.Constant c j p:=by cases e<;>cases h<;>rfl
theorem zc9{c:Const}{i:Int}(h:zig c=some i):c=.int i:=by cases c<;>cases h<;>rfl
theorem V2{c:Const}{i:Str}(h:zgX c=some i):c=.str i:=by cases c<;>cases h<;>rfl
theorem KG{c:Const}{i:Bool}(h:zfk c=some i):c=.bool i:=by cases c<;>cases h<;>rfl
theorem zaf{c:Const}(h:zfj c=true):c=.none:=by cases c<;>first | rfl | cases h
theorem W8{e:Expr}{es:List Expr}{n:Nat}{p:Pos}(h:zb0 e=some (es,n,p)):e=.Tuple es n p:=by cases e<;>cases h<;>rfl
theorem zaH{e:Expr}{es:List Expr}{p:Pos}(h:zfs e=some (es,p)):e=.List es p:=by cases e<;>cases h<;>rfl
theorem Jf{e x y:Expr}{op:Operator}{p:Pos}(h:V8 e=some (x,op,y,p)):e=.BinOp x op y p:=by cases e<;>cases h<;>rfl
theorem WH{e x:Expr}{ops:List CmpOp}{ys:List Expr}{p:Pos}(h:zc6 e=some (x,ops,ys,p)):e=.Compare x ops ys p:=by cases e<;>cases h<;>rfl
theorem yX{e x:Expr}{op:UnaryOp}{p:Pos}(h:zhk e=some (op,x,p)):e=.UnaryOp op x p:=by cases e<;>cases h<;>rfl
theorem zaW{e:Expr}{op:BoolOp}{vs:List Expr}{p:Pos}(h:zf9 e=some (op,vs,p)):e=.BoolOp op vs p:=by cases e<;>cases h<;>rfl
theorem KM{e z x y:Expr}{p:Pos}(h:ze9 e=some (z,x,y,p)):e=.IfExp z x y p:=by cases e<;>cases h<;>rfl
theorem Jk{e x y:Expr}{p:Pos}(h:yb e=some (x,y,p)):e=.Subscript x y p:=by cases e<;>cases h<;>rfl
theorem zaB{e:Expr}{l u s:Option Expr}{p:Pos}(h:zbz e=some (l,u,s,p)):e=.Slice l u s p:=by cases e<;>cases h<;>rfl
theorem WL{e f:Expr}{xs:List Expr}{ks:List Keyword}{p:Pos}(h:y8 e=some (f,xs,ks,p)):e=.Call f xs ks p:=by cases e<;>cases h<;>rfl
theorem zaE{e x:Expr}{f:Str}{p:Pos}(h:zbv e=some (x,f,p)):e=.Attribute x f p:=by cases e<;>cases h<;>rfl
theorem K2{e elt:Expr}{gens:List Comprehension}{scope:Scope}{p:Pos}(h:zdg e=some (elt,gens,scope,p)):e=.ListComp elt gens scope p:=by cases e<;>cases h<;>rfl
noncomputable def unN(e:Expr):Option (Str×Pos×List Expr×Pos):=(y8 e).bind fun (f,xs,ks,q)=>match ks with
 |[]=>(qy f).map fun (x,p)=>(x,p,xs,q)
 |_::_=>none
theorem JY{e:Expr}{f:Str}{p:Pos}{xs:List Expr}{q:Pos}(h:unN e=some (f,p,xs,q)):e=.Call (.Name f p) xs [] q:=by
 unfold unN at h
 cases e1:y8 e with
 |none=>rw[e1]at h;cases h
 |some z=>
  obtain⟨g,ys,ks,q'⟩:=z
  rw[e1]at h
  cases ks with
  |cons _ _=>cases h
  |nil=>
   cases e2:qy g with
   |none=>simp[e2]at h
   |some z=>
    obtain⟨x,p'⟩:=z
    simp[e2]at h
    obtain⟨rfl,rfl,rfl,rfl⟩:=h
    rw[WL e1,zM e2]
noncomputable def JM{α:Type}:List α->Option α
 |[x]=>some x
 |_=>none
theorem q8{α:Type}{l:List α}{x:α}(h:JM l=some x):l= [x]:=by
 match l,h with
 |[_],h=>cases h;rfl
noncomputable def zaq{α:Type}:List α->Option (α×α)
 |[x,y]=>some (x,y)
 |_=>none
theorem Qp{α:Type}{l:List α}{x y:α}(h:zaq l=some (x,y)):l= [x,y]:=by
 match l,h with
 |[_,_],h=>cases h;rfl
noncomputable def un1(e:Expr):Option (Str×Pos×Expr×Pos):=(unN e).bind fun (f,p,xs,q)=>(JM xs).map fun x=>(f,p,x,q)
theorem zZ{e:Expr}{f:Str}{p:Pos}{x:Expr}{q:Pos}(h:un1 e=some (f,p,x,q)):e=.Call (.Name f p) [x] [] q:=by
 unfold un1 at h
 cases e1:unN e with
 |none=>rw[e1]at h;cases h
 |some z=>
  obtain⟨g,p',xs,q'⟩:=z
  cases e2:JM xs with
  |none=>simp[e1,e2]at h
  |some y=>
   simp[e1,e2]at h
   obtain⟨rfl,rfl,rfl,rfl⟩:=h
   rw[JY e1,q8 e2]
noncomputable def un2(e:Expr):Option (Str×Pos×Expr×Expr×Pos):=(unN e).bind fun (f,p,xs,q)=>(zaq xs).map fun (x,y)=>(f,p,x,y,q)
theorem vE{e:Expr}{f:Str}{p:Pos}{x y:Expr}{q:Pos}(h:un2 e=some (f,p,x,y,q)):e=.Call (.Name f p) [x,y] [] q:=by
 unfold un2 at h
 cases e1:unN e with
 |none=>rw[e1]at h;cases h
 |some z=>
  obtain⟨g,p',xs,q'⟩:=z
  cases e2:zaq xs with
  |none=>simp[e1,e2]at h
  |some y=>
   obtain⟨y1,y2⟩:=y
   simp[e1,e2]at h
   obtain⟨rfl,rfl,rfl,rfl,rfl⟩:=h
   rw[JY e1,Qp e2]
noncomputable def zap(e:Expr):Option (Str×Pos×Str×Pos×List Expr×Pos):=(y8 e).bind fun (f,xs,ks,q)=>match ks with
 |[]=>(zbv f).bind fun (x,m,p2)=>(qy x).map fun (y,p)=>(y,p,m,p2,xs,q)
 |_::_=>none
theorem yG{e:Expr}{x f:Str}{p p2:Pos}{xs:List Expr}{q:Pos}(h:zap e=some (x,p,f,p2,xs,q)):e=.Call (.Attribute (.Name x p) f p2) xs [] q:=by
 unfold zap at h
 cases e1:y8 e with
 |none=>rw[e1]at h;cases h
 |some z=>
  obtain⟨g,ys,ks,q'⟩:=z
  rw[e1]at h
  cases ks with
  |cons _ _=>cases h
  |nil=>
   cases e2:zbv g with
   |none=>simp[e2]at h
   |some z=>
    obtain⟨y,m,p3⟩:=z
    cases e3:qy y with
    |none=>simp[e2,e3]at h
    |some z=>
     obtain⟨y',p'⟩:=z
     simp[e2,e3]at h
     obtain⟨rfl,rfl,rfl,rfl,rfl,rfl⟩:=h
     rw[WL e1,zaE e2,zM e3]
noncomputable def zgY(e:Expr):Option (Str×Pos×Str×Pos×Expr×Pos):=(zap e).bind fun (x,p,f,p2,xs,q)=>(JM xs).map fun y=>(x,p,f,p2,y,q)
theorem zbY{e:Expr}{x f:Str}{p p2:Pos}{y:Expr}{q:Pos}(h:zgY e=some (x,p,f,p2,y,q)):e=.Call (.Attribute (.Name x p) f p2) [y] [] q:=by
 unfold zgY at h
 cases e1:zap e with
 |none=>rw[e1]at h;cases h
 |some z=>
  obtain⟨a1,a2,a3,a4,xs,a6⟩:=z
  cases e2:JM xs with
  |none=>simp[e1,e2]at h
  |some y=>
   simp[e1,e2]at h
   obtain⟨rfl,rfl,rfl,rfl,rfl,rfl⟩:=h
   rw[yG e1,q8 e2]
noncomputable def zbH(e:Expr):Option (Expr×Option Expr×Option Expr×Pos×Pos):=(yb e).bind fun (x,y,q)=>(zbz y).bind fun (l,h,s,p)=>match s with
 |none=>some (x,l,h,p,q)
 |some _=>none
theorem KO{e x:Expr}{l h:Option Expr}{p q:Pos}(hh:zbH e=some (x,l,h,p,q)):e=.Subscript x (.Slice l h none p) q:=by
 unfold zbH at hh
 cases e1:yb e with
 |none=>rw[e1]at hh;cases hh
 |some z=>
  obtain⟨x',y,q'⟩:=z
  cases e2:zbz y with
  |none=>simp[e1,e2]at hh
  |some z=>
   obtain⟨l',h',s,p'⟩:=z
   cases s with
   |some _=>simp[e1,e2]at hh
   |none=>
    simp[e1,e2]at hh
    obtain⟨rfl,rfl,rfl,rfl,rfl⟩:=hh
    rw[Jk e1,zaB e2]
noncomputable def kd(e:Expr):Option (Str×Str×Str×Expr×Expr×Pos×Pos×Pos×Pos×Pos×Pos×Pos):=(un1 e).bind fun (f,p1,b,q1)=>(V8 b).bind fun (x,op,y,pb)=>(un1 x).bind fun (g,p2,x',q2)=>(un1 y).bind fun (h,p3,y',q3)=>match op with
 |.Sub=>some (f,g,h,x',y',p1,p2,p3,q1,q2,q3,pb)
 |_=>none
theorem Yr{e:Expr}{f g h:Str}{x y:Expr}{p1 p2 p3 q1 q2 q3 pb:Pos}(hh:kd e=some (f,g,h,x,y,p1,p2,p3,q1,q2,q3,pb)):e=.Call (.Name f p1) [.BinOp (.Call (.Name g p2) [x] [] q2) .Sub (.Call (.Name h p3) [y] [] q3) pb] [] q1:=by
 unfold kd at hh
 cases e1:un1 e with
 |none=>rw[e1]at hh;cases hh
 |some z1=>
  obtain⟨a1,a2,a3,a4⟩:=z1
  cases e2:V8 a3 with
  |none=>simp[e1,e2]at hh
  |some z2=>
   obtain⟨b1,b2,b3,b4⟩:=z2
   cases e3:un1 b1 with
   |none=>simp[e1,e2,e3]at hh
   |some z3=>
    obtain⟨c1,c2,c3,c4⟩:=z3
    cases e4:un1 b3 with
    |none=>simp[e1,e2,e3,e4]at hh
    |some z4=>
     obtain⟨d1,d2,d3,d4⟩:=z4
     cases b2 with
     |Sub=>
      simp[e1,e2,e3,e4]at hh
      obtain⟨rfl,rfl,rfl,rfl,rfl,rfl,rfl,rfl,rfl,rfl,rfl,rfl⟩:=hh
      rw[zZ e1,Jf e2,zZ e3,zZ e4]
     |_=>simp[e1,e2,e3,e4]at hh
noncomputable def zg2(e:Expr):Option (Expr×Expr×Expr×List Expr×Scope×Pos):=(zdg e).bind fun (elt,gens,scope,p)=>(JM gens).bind fun g=>if g.is_async=0 then some (elt,g.target,g.iter,g.ifs,scope,p) else none
theorem zcK{e elt tg iter:Expr}{ifs:List Expr}{scope:Scope}{p:Pos}(h:zg2 e=some (elt,tg,iter,ifs,scope,p)):e=.ListComp elt [⟨tg,iter,ifs,0⟩] scope p:=by
 unfold zg2 at h
 cases e1:zdg e with
 |none=>rw[e1]at h;cases h
 |some z=>
  obtain⟨a1,a2,a3,a4⟩:=z
  cases e2:JM a2 with
  |none=>simp[e1,e2]at h
  |some g=>
   obtain⟨g1,g2,g3,g4⟩:=g
   by_cases hz:g4=0
   ·subst hz
    simp[e1,e2]at h
    obtain⟨rfl,rfl,rfl,rfl,rfl,rfl⟩:=h
    rw[K2 e1,q8 e2]
   ·simp[e1,e2,hz]at h
noncomputable def ku(op:BoolOp)(e:Expr):Option (Expr×Expr):=(zf9 e).bind fun (o,vs,p)=>if o=op then (match vs with
 |x::y:: []=>some (x,y)
 |x::y::z::r=>some (x,.BoolOp op (y::z::r) p)
 |_=>none) else none
theorem W0{op:BoolOp}{e x z:Expr}(h:ku op e=some (x,z)):(∃ p,e=.BoolOp op [x,z] p)∨∃ y w r p,e=.BoolOp op (x::y::w::r) p/\z=.BoolOp op (y::w::r) p:=by
 unfold ku at h
 cases e1:zf9 e with
 |none=>rw[e1]at h;cases h
 |some q=>
  obtain⟨o,vs,p⟩:=q
  rw[zaW e1]
  by_cases ho:o=op
  ·subst ho
   match vs with
   |[]=>simp[e1]at h
   |[_]=>simp[e1]at h
   |[a,b]=>
    simp[e1]at h
    obtain⟨rfl,rfl⟩:=h
    exact .inl ⟨p,rfl⟩
   |a::b::c::r=>
    simp[e1]at h
    obtain⟨rfl,rfl⟩:=h
    exact .inr ⟨b,c,r,p,rfl,rfl⟩
  ·simp[e1,ho]at h
mutual
noncomputable def VS(sc:Scope)(N:List Str)(mp:List Nat)(lo:Nat):IT->Expr->Bool
 |.nm s i,.Name x _=>decide (N[s]?=some x)&&decide (mp[s]?=some i)&&decide (lo<=i)&&(decide (sc.names.lookup x=some .local)||decide (sc.names.lookup x=some .cell))
 |.tp ts,.Tuple es _ _=>vj sc N mp lo ts es
 |_,_=>false
noncomputable def vj(sc:Scope)(N:List Str)(mp:List Nat)(lo:Nat):ITs->List Expr->Bool
 |.nil,[]=>true
 |.cons t ts,e::es=>zp e&&VS sc N mp lo t e&&vj sc N mp lo ts es
 |_,_=>false
end
mutual
noncomputable def IE.chk(W:Wd)(sc:Scope)(N:List Str)(mp:List Nat)(m:Nat):IE->Expr->Bool
 |.var s i,e=>okO (qy e) fun x=>nmB sc N mp s i x.1
 |.frz s i,e=>okO (qy e) fun x=>nmB sc N mp s i x.1
 |.cint i,e=>okO (vh e) fun c=>okO (zig c.1) fun j=>decide (i=j)
 |.cstr x,e=>okO (vh e) fun c=>okO (zgX c.1) fun y=>decide (x=y)
 |.cbool b,e=>okO (vh e) fun c=>okO (zfk c.1) fun y=>decide (b=y)
 |.cnone,e=>okO (vh e) fun c=>zfj c.1
 |.gint x i,e=>okO (qy e) fun y=>decide (x=y.1)&&VZ sc x&&W.gi.contains (x,i)&& !(x==("__debug__" :Str))
 |.tup a,e=>okO (zb0 e) fun es=>a.chk W sc N mp m es.1
 |.new n,e=>Q2 e&&n.chk W sc N mp m e
 |.bin op a b,e=>okO (V8 e) fun z=>decide (op=z.2.1)&&a.chk W sc N mp m z.1&&b.chk W sc N mp m z.2.2.1
 |.cmp op a b,e=>okO (zc6 e) fun z=>okO (JM z.2.1) fun op'=>okO (JM z.2.2.1) fun y=>decide (op=op')&&j1 y&&a.chk W sc N mp m z.1&&b.chk W sc N mp m y
 |.chain op1 op2 a b c,e=>okO (zc6 e) fun z=>okO (zaq z.2.1) fun o=>okO (zaq z.2.2.1) fun y=>decide (op1=o.1)&&decide (op2=o.2)&&j1 y.2&&a.chk W sc N mp m z.1&&b.chk W sc N mp m y.1&&c.chk W sc N mp m y.2
 |.not a,e=>okO (zhk e) fun z=>decide (z.1=.Not)&&a.chk W sc N mp m z.2.1
 |.neg a,e=>okO (zhk e) fun z=>decide (z.1=.USub)&&a.chk W sc N mp m z.2.1
 |.and a b,e=>okO (ku .And e) fun z=>a.chk W sc N mp m z.1&&b.chk W sc N mp m z.2
 |.or a b,e=>okO (ku .Or e) fun z=>a.chk W sc N mp m z.1&&b.chk W sc N mp m z.2
 |.ite c a b,e=>okO (ze9 e) fun z=>c.chk W sc N mp m z.1&&a.chk W sc N mp m z.2.1&&b.chk W sc N mp m z.2.2.1
 |.ix a b,e=>okO (yb e) fun z=>jJ z.2.1&&a.chk W sc N mp m z.1&&b.chk W sc N mp m z.2.1
 |.len a,e=>match un1 e with
  |some (f,_,x,_)=>biB W sc f "len" &&zp x&&a.chk W sc N mp m x
  |none=>false
 |.int a,e=>match un1 e with
  |some (f,_,x,_)=>biB W sc f "int" &&zp x&&a.chk W sc N mp m x
  |none=>false
 |.all a,e=>match un1 e with
  |some (f,_,x,_)=>biB W sc f "all" &&zp x&&a.chk W sc N mp m x
  |none=>false
 |.any a,e=>match un1 e with
  |some (f,_,x,_)=>biB W sc f "any" &&zp x&&a.chk W sc N mp m x
  |none=>false
 |.tuple a,e=>match un1 e with
  |some (f,_,x,_)=>biB W sc f "tuple" &&zp x&&a.chk W sc N mp m x
  |none=>false
 |.isi T a,e=>match un2 e with
  |some (f,_,x,y,_)=>biB W sc f "isinstance" &&zp x&&(T== "int" ||T== "bool" ||T== "list" ||T== "tuple" ||T== "str")&&okO (qy y) (fun z=>biB W sc z.1 (Str.ofString T))&&a.chk W sc N mp m x
  |none=>false
 |.min a b,e=>match un2 e with
  |some (f,_,x,y,_)=>biB W sc f "min" &&zp x&&zp y&&a.chk W sc N mp m x&&b.chk W sc N mp m y
  |none=>false
 |.max a b,e=>match un2 e with
  |some (f,_,x,y,_)=>biB W sc f "max" &&zp x&&zp y&&a.chk W sc N mp m x&&b.chk W sc N mp m y
  |none=>false
 |.count a b,e=>match zgY e with
  |some (x,p,f,p2,y,q)=>decide (f= "count")&&zp y&&(p2.endLine==q.line)&&a.chk W sc N mp m (.Name x p)&&b.chk W sc N mp m y
  |none=>false
 |.less a b,e=>match kd e with
  |some (f,g,h,x,y,_)=>biB W sc f "len" &&biB W sc g "set" &&biB W sc h "set" &&zp x&&zp y&&a.chk W sc N mp m x&&b.chk W sc N mp m y
  |none=>false
 |.call o,e=>Q2 e&&o.chk W sc N mp m e
 |.callw f n a,e=>match unN e with
  |some (g,_,xs,_)=>decide (f=g)&&VZ sc f&&W.fl.contains (f,n)&& !(f==("__debug__" :Str))&& !xs.isEmpty&&xs.all zp&&a.chk W sc N mp m xs
  |none=>false
 |.lset a,e=>match un1 e with
  |some (f,_,x,_)=>match un1 x with
   |some (g,_,y,_)=>biB W sc f "len" &&biB W sc g "set" &&zp y&&a.chk W sc N mp m y
   |none=>false
  |none=>false
 |.lsetL a,e=>match un1 e with
  |some (f,_,x,_)=>match un1 x with
   |some (g,_,y,_)=>biB W sc f "len" &&biB W sc g "set" &&zp y&&a.chk W sc N mp m y
   |none=>false
  |none=>false
noncomputable def IL.chk(W:Wd)(sc:Scope)(N:List Str)(mp:List Nat)(m:Nat):IL->List Expr->Bool
 |.nil,[]=>true
 |.cons e a,x::xs=>zp x&&e.chk W sc N mp m x&&a.chk W sc N mp m xs
 |_,_=>false
noncomputable def IA.chk(W:Wd)(sc:Scope)(N:List Str)(mp:List Nat)(m:Nat):IA->List Expr->Bool
 |.nil,[]=>true
 |.cons e a,x::xs=>zp x&&e.chk W sc N mp m x&&a.chk W sc N mp m xs
 |.io s i a,x::xs=>okO (qy x) (fun z=>nmB sc N mp s i z.1)&&a.chk W sc N mp m xs
 |.tmp n,[x]=>zp x&&n.chk W sc N mp m x
 |_,_=>false
noncomputable def IN.chk(W:Wd)(sc:Scope)(N:List Str)(mp:List Nat)(m:Nat):IN->Expr->Bool
 |.lst a,e=>okO (zfs e) fun z=>a.chk W sc N mp m z.1
 |.cut e lo hi,z=>okO (zbH z) fun z=>e.chk W sc N mp m z.1&&lo.chk W sc N mp m z.2.1&&hi.chk W sc N mp m z.2.2.1
 |.cat a b,e=>okO (V8 e) fun z=>decide (z.2.1=.Add)&&a.chk W sc N mp m z.1&&b.chk W sc N mp m z.2.2.1
 |.list e,y=>match un1 y with
  |some (f,_,x,_)=>biB W sc f "list" &&zp x&&e.chk W sc N mp m x
  |none=>false
 |.sorted e,y=>match un1 y with
  |some (f,_,x,_)=>biB W sc f "sorted" &&zp x&&e.chk W sc N mp m x
  |none=>false
 |.comp n k ix N' t src c el,e=>match zg2 e with
  |some (elt,tg,iter,ifs,scope,_)=>decide (n=m)&&zaT sc N scope N' k ix&&decide (mpC mp n k ix).Nodup&&ix.all (fun i=>match mp[i]? with
   |some j=>decide (j<n)
   |none=>false)&&j1 iter&&src.chk W sc N mp m iter tg&&VS scope N' (mpC mp n k ix) n t tg&&c.chk W scope N' (mpC mp n k ix) (n+k) ifs&&el.chk W scope N' (mpC mp n k ix) (n+k) elt
  |none=>false
noncomputable def IP.chk(W:Wd)(sc:Scope)(N:List Str)(mp:List Nat)(m:Nat):IP->Option Expr->Bool
 |.non,none=>true
 |.one e,some x=>e.chk W sc N mp m x
 |_,_=>false
noncomputable def II.chk(W:Wd)(sc:Scope)(N:List Str)(mp:List Nat)(m:Nat):II->Expr->Expr->Bool
 |.list e,x,_=>e.chk W sc N mp m x
 |.tup e,x,_=>e.chk W sc N mp m x
 |.range e,y,_=>match un1 y with
  |some (f,_,x,_)=>biB W sc f "range" &&zp x&&e.chk W sc N mp m x
  |none=>false
 |.enum e,y,tg=>match un1 y with
  |some (f,_,x,_)=>zcL tg&&biB W sc f "enumerate" &&zp x&&e.chk W sc N mp m x
  |none=>false
noncomputable def IC.chk(W:Wd)(sc:Scope)(N:List Str)(mp:List Nat)(m:Nat):IC->List Expr->Bool
 |.yes,[]=>true
 |.one e,[x]=>e.chk W sc N mp m x
 |_,_=>false
noncomputable def IO.chk(W:Wd)(sc:Scope)(N:List Str)(mp:List Nat)(m:Nat):IO->Expr->Bool
 |.dat e,x=>e.chk W sc N mp m x
 |.own n,x=>n.chk W sc N mp m x
 |.call f n a,e=>match unN e with
  |some (g,_,xs,_)=>decide (f=g)&&VZ sc f&&W.fl.contains (f,n)&& !(f==("__debug__" :Str))&&xs.all zp&&a.chk W sc N mp m xs
  |none=>false
 |.move s i,e=>okO (qy e) fun x=>nmB sc N mp s i x.1
noncomputable def IJ.chk(W:Wd)(sc:Scope)(N:List Str)(mp:List Nat)(m:Nat):IJ->List Expr->Bool
 |.nil,[]=>true
 |_,_=>false
end
end L3
set_option maxHeartbeats 4000000
namespace L3
open PySem PySem.Spec PyProof.Rows L2
structure XSc(X:Cx)(sc:Scope)(N:List Str):Prop where
 hN:X.N=N
 vis:∀ x,zcA sc x=true->Vis X.env.scope x
 loc:∀ x,sc.names.lookup x=some .local->X.env.scope.names.lookup x=some .local
 cel:∀ x,sc.names.lookup x=some .cell->X.env.scope.names.lookup x=some .cell/\X.fn x=true
 fre:∀ x,sc.names.lookup x=some .free->X.env.scope.names.lookup x=some .cell∨X.env.scope.names.lookup x=some .free
 glo:∀ x,VZ sc x=true->Gl X x
structure XW(X:Cx)(cf:CF)(W:Wd)(k:Nat):Prop where
 bi:∀ x,W.bi.contains x=true->X.mg x=none
 gi:∀ x i,W.gi.contains (x,i)=true->∃ t,X.mg x=some (.int i t)
 gs:∀ x i,W.gs.contains (x,i)=true->∃ t,X.mg x=some (.str i t)
 fn:∀ x n,W.fl.contains (x,n)=true->Kn X.prog X.w X.K X.mg X.base CX0 x k (spI n (cf x))/\∀ args r outs,cf x args=.ok r outs->args.length=n
 rm:Room k X.A
 hk:1<=k
 calm:X.calm=true
 fx:∀ x n,W.fx.contains (x,n)=true->Kn X.prog X.w X.K X.mg X.base (CX1 X.prog X.w) x k (spX X.mg n (cf x))/\∀ args,cf x args≠ .bad->args.length=n
 ex:∀ x,W.ex.contains x=true->∃ C,X.mg x=some (.ref C)/\PySem.W.excIn X.K C bmV "ValueError.__new__" =true
 mr:∀ x C y C2,W.ex.contains x=true->X.mg x=some (.ref C)->W.ex.contains y=true->X.mg y=some (.ref C2)->(mroIn X.K C).contains (.ref C2)=decide (x=y)
theorem zr{e:Expr}{es:List Expr}{env:Env}(h:zp e=true):starEach (e::es) env=(false,eval e env)::starEach es env:=by
 cases e<;>first | rfl | (simp[zp]at h)
theorem V4{es:List Expr}{env:Env}:es.all zp=true->(starEach es env).any (·.1)=false:=by
 induction es with
 |nil=>intro;rfl
 |cons e es ih=>
  intro h
  rw[uE,xa]at h
  rw[zr h.1,uF,ih h.2];rfl
theorem Z8{pos:Pos}:∀ {l:List (Bool×Sem Value)},l.any (·.1)=false->(backTo pos l).any (·.1)=false
 |[],_=>rfl
 | (b,t)::r,h=>by
  rw[uF,Bool.or_eq_false_iff]at h
  show ((b,_)::backTo pos r).any (·.1)=false
  rw[uF,Z8 h.2]
  have hb:b=false:=h.1
  rw[hb];rfl
theorem YF{e:Expr}(h:jJ e=true):vB e:=fun o i=>by
 cases e<;>first | rfl | (simp[jJ]at h)
theorem Jx{e:Expr}{env:Env}(h:j1 e=true)(x:Value):foldedSetIterable e env x=pure x:=by
 cases e<;>first | rfl | (simp[j1]at h)
theorem Wn{e:Expr}(op:CmpOp)(h:j1 e=true):behindInMarks op e=false:=by
 cases e<;>first | rfl | (simp[j1]at h)
theorem vd{e b:Expr}(op op':CmpOp)(h:j1 e=true):lastMarks [op,op'] [b,e]=false:=Wn op' h
theorem wt{x y:Str}(h:(!(x==y))=true):(x==y)=false:=by simpa using h
section
variable {X:Cx} {XP:XPT} {cf:CF} {W:Wd} {k:Nat} {sc:Scope} {N:List Str} {mp:List Nat} {m:Nat}
theorem wm{s i:Nat}{x:Str}(S:XSc X sc N)(h:nmB sc N mp s i x=true):NmK X mp s i x:=by
 unfold nmB at h
 simp only[xa,decide_eq_true_eq]at h
 obtain⟨⟨⟨⟨h1,h2⟩,h3⟩,h4⟩,h5⟩:=h
 exact⟨by rw[S.hN];exact h1,S.vis x h2,h3,wt h4,wt h5⟩
theorem qm {x y:Str}{v:Value}(S:XSc X sc N) (T:XW X cf W k) (h:biB W sc x y=true) (hb:bootBuiltins y=some v) (hn:y≠ "__name__") (hd:(y==("__debug__" :Str))=false):BiK X x v:=by
 unfold biB at h
 simp only[xa,decide_eq_true_eq]at h
 obtain⟨⟨h1,h2⟩,h3⟩:=h
 subst h1
 exact⟨S.glo x h2,T.bi x h3,hb,hn,hd⟩
theorem JD{f:Str->NameKind->NameKind}:∀ {names:List (Str×NameKind)}{x:Str},(names.map fun (n,k)=>(n,f n k)).lookup x=(names.lookup x).map (f x)
 |[],_=>rfl
 | (n,k)::r,x=>by
  rw[xI]
  cases hx:x==n with
  |true=>rw[xD,xD,hx];rw[eq_of_beq hx];rfl
  |false=>rw[xD,xD,hx];exact JD
theorem qI{scope:Scope}{env:Env}{x:Str}:(relabel scope env).names.lookup x=(scope.names.lookup x).map fun k=>if (k==.free&&env.scope.kind==ScopeKind.function&&env.kindOf x==some NameKind.cell) then .cell else k:=by
 unfold relabel
 have e:(scope.names.map fun (n,k)=>if (k==NameKind.free&&env.scope.kind==ScopeKind.function&&env.kindOf n==some NameKind.cell) then (n,NameKind.cell) else (n,k)) =
   scope.names.map fun (n,k)=>(n,(fun n k=>if (k==NameKind.free&&env.scope.kind==ScopeKind.function&&env.kindOf n==some NameKind.cell) then NameKind.cell else k) n k):=by
  apply uv
  rintro⟨n,k⟩ _
  dsimp only
  split<;>rfl
 rw[e]
 exact JD (f:=fun n k=>if (k==NameKind.free&&env.scope.kind==ScopeKind.function&&env.kindOf n==some NameKind.cell) then NameKind.cell else k)
theorem XSc.comp{scope:Scope}{N':List Str}{k:Nat}{ix:List Nat}{psc:Scope}(S:CSc psc N scope N' k ix)(cl:List (Str×Addr))(C:Addr)(s2:Shared)(H2:Hp)(fp:List Addr):XSc (X.comp N' scope cl C s2 H2 fp) scope N' where
 hN:=rfl
 vis x h:=by
  unfold zcA at h
  simp only[xL,decide_eq_true_eq]at h
  show Vis (relabel scope X.env) x
  unfold Vis
  rw[qI]
  rcases h with (h | h) | h
  ·rw[h];exact .inl rfl
  ·rw[h];exact .inr (.inl rfl)
  ·rw[h]
   simp only[um]
   split
   ·exact .inr (.inl rfl)
   ·exact .inr (.inr rfl)
 loc x h:=by
  show (relabel scope X.env).names.lookup x=_
  rw[qI,h];rfl
 cel x h:=by
  refine⟨?_,decide_eq_true h⟩
  show (relabel scope X.env).names.lookup x=_
  rw[qI,h];rfl
 fre x h:=by
  show (relabel scope X.env).names.lookup x=_∨(relabel scope X.env).names.lookup x=_
  rw[qI,h]
  simp only[um]
  split
  ·exact .inl rfl
  ·exact .inr rfl
 glo x h:=by
  unfold VZ at h
  simp only[decide_eq_true_eq]at h
  show (relabel scope X.env).names.lookup x=_
  rw[qI,h];rfl
theorem XW.comp(T:XW X cf W k){N':List Str}{scope:Scope}(cl:List (Str×Addr))(C:Addr)(s2:Shared)(H2:Hp)(fp:List Addr):XW (X.comp N' scope cl C s2 H2 fp) cf W k:=⟨T.bi,T.gi,T.gs,T.fn,T.rm,T.hk,T.calm,T.fx,T.ex,T.mr⟩
theorem zgs{scope:Scope}{N':List Str}{k:Nat}{ix:List Nat}(S:XSc X sc N)(h:CSc sc N scope N' k ix):CSc X.env.scope X.N scope N' k ix :=
 ⟨h.kind,h.cel,h.loc,fun y hy e=>by
  rcases h.fre y hy e with z | z
  ·exact .inl (S.cel _ z).1
  ·exact S.fre _ z,h.len,h.nd,fun j i e=>by
  rw[S.hN];exact h.cap j i e⟩
theorem Room.at1(T:XW X cf W k):Room 1 X.A:=T.rm.mono T.hk
theorem Room.atk(T:XW X cf W k):Room k X.A:=T.rm
theorem Ys{es:List Expr}{env:Env}:(assignEach es env).length=es.length:=by
 induction es with
 |nil=>rfl
 |cons e es ih=>cases e<;>simp[assignEach,ih]
theorem JC{e:Expr}{es:List Expr}{env:Env}(h:zp e=true):assignEach (e::es) env=(false,assign e env)::assignEach es env:=by
 cases e<;>first | rfl | (simp[zp]at h)
mutual
theorem J9{kp:Nat->Prop}{lo:Nat}(S:XSc X sc N)(hN:N.Nodup)(hn:mp.Nodup)(hc:X.calm=true)(hk:∀ i,lo<=i->¬ kp i):∀ (t:IT) (e:Expr),VS sc N mp lo t e=true->SG X mp kp e t
  |.nm s i,e,h=>by
   cases e with
   |Name x p=>
    simp only[VS,xa,xL,decide_eq_true_eq]at h
    obtain⟨⟨⟨h1,h2⟩,h3⟩,h4⟩:=h
    refine zeH (by rw[S.hN];exact hN) hn (by rw[S.hN];exact h1) h2 (hk i h3) ?_ ?_
    · rcases h4 with h4 | h4
      · exact .inl (S.loc x h4)
      · exact .inr (S.cel x h4).1
    · rcases h4 with h4 | h4
      · exact .inr (S.loc x h4)
      · exact .inl (S.cel x h4).2
   |_=>simp[VS]at h
  |.tp ts,e,h=>by
   cases e with
   |Tuple es n p=>
    simp only[VS]at h
    obtain⟨h1,h2,h3⟩:=y7 S hN hn hc hk ts es h
    exact zhl hc h1 (by rw[Ys];exact h2) h3
   |_=>simp[VS]at h
theorem y7{kp:Nat->Prop}{lo:Nat}(S:XSc X sc N)(hN:N.Nodup)(hn:mp.Nodup)(hc:X.calm=true)(hk:∀ i,lo<=i->¬ kp i):∀ (ts:ITs) (es:List Expr),vj sc N mp lo ts es=true->SGs X mp kp es ts/\ts.len=es.length/\(assignEach es X.env).findIdx? (·.1)=none
  |.nil,[],h=>⟨zdQ,rfl,rfl⟩
  |.cons t ts,e::es,h=>by
    simp only[vj,xa]at h
    obtain⟨⟨h1,h2⟩,h3⟩:=h
    have ih1:=J9 S hN hn hc hk t e h2
    obtain⟨i1,i2,i3⟩:=y7 S hN hn hc hk ts es h3
    refine⟨zbW ih1 i1 (by rw[JC h1];rfl),by rw[ITs.len,i2];rfl,?_⟩
    rw[JC h1,List.findIdx?_cons]
    simp[i3]
  |.nil,_::_,h=>by simp[vj]at h
  |.cons ..,[],h=>by simp[vj]at h
end
noncomputable def zbf(X:Cx)(XP:XPT)(mp:List Nat)(e:Expr)(f:EM (List PyData)):Prop:=∀ elt gens scope pos,e=.ListComp elt gens scope pos->∃ tg iter ifs N' k ix,gens= [⟨tg,iter,ifs,0⟩]/\CSc X.env.scope X.N scope N' k ix/\(∀ x,foldedSetIterable iter X.env x=pure x) /\
 SNt XP mp (WN k ix (wpI X tg iter) (gU X N' scope tg) (fU X N' scope ifs) (eU X N' scope elt)) f
theorem wI{X:Cx}{XP:XPT}{mp:List Nat}{e:Expr}{f:EM (List PyData)}(h:∀ elt gens scope pos,e≠ .ListComp elt gens scope pos):zbf X XP mp e f:=fun a b c d q=>absurd q (h a b c d)
theorem zak{e:Expr}{env:Env}(h:Q2 e=true)(whole:Sem Value):isTrue e env whole=(do let v<-whole;standAt e.pos;holding [v] (truthy v)):=by
 cases e<;>first | rfl | (simp[Q2]at h;done) | skip
 rename_i op x p
 cases op<;>first | rfl | (simp[Q2]at h)
theorem qD{X:Cx}{XP:XPT}{mp:List Nat}{e:Expr}{fa:EM FV}(h:SE X XP mp e fa)(hp:Q2 e=true):SE X XP mp e fa/\ST X XP mp e (fTru fa):=⟨h,zbq h (zak hp)⟩
theorem yF{X:Cx}{XP:XPT}{mp:List Nat}{op:BoolOp}{vs:List Expr}{p:Pos}{t:EM Bool}(h:ST X XP mp (.BoolOp op vs p) t):SW X XP mp (.BoolOp op vs p) t:=fun M0 F Γ ν σ H Q rs hs hp whole pins s I=>h M0 F Γ ν σ H Q rs hs hp pins s I
theorem vC:bootBuiltins "sorted" =some (.builtin "sorted"):=by decide +kernel
theorem yQ:bootBuiltins "range" =some (.type "range"):=by decide +kernel
theorem Zy:bootBuiltins "len" =some (.builtin "len"):=by decide +kernel
theorem zas:bootBuiltins "min" =some (.builtin "min"):=by decide +kernel
theorem zaL:bootBuiltins "max" =some (.builtin "max"):=by decide +kernel
theorem zau:bootBuiltins "str" =some (.type "str"):=by decide +kernel
theorem zaa:bootBuiltins "isinstance" =some (.builtin "isinstance"):=by decide +kernel
noncomputable abbrev QE(cf:CF)(W:Wd)(a:IE):Prop:=∀ (X:Cx) (XP:XPT) (k:Nat) (sc:Scope) (N:List Str) (mp:List Nat) (m:Nat),XSc X sc N->XW X cf W k->∀ (e:Expr),a.chk W sc N mp m e=true->SE X XP mp e (a.ev cf).1/\ST X XP mp e (a.ev cf).2
noncomputable abbrev QL(cf:CF)(W:Wd)(a:IL):Prop:=∀ (X:Cx) (XP:XPT) (k:Nat) (sc:Scope) (N:List Str) (mp:List Nat) (m:Nat),XSc X sc N->XW X cf W k->∀ (e:List Expr),a.chk W sc N mp m e=true->SL X XP mp e (a.ev cf)
noncomputable abbrev QA(cf:CF)(W:Wd)(a:IA):Prop:=∀ (X:Cx) (XP:XPT) (k:Nat) (sc:Scope) (N:List Str) (mp:List Nat) (m:Nat),XSc X sc N->XW X cf W k->∀ (e:List Expr),a.chk W sc N mp m e=true->SA X XP mp e (a.ev cf)
noncomputable abbrev QN(cf:CF)(W:Wd)(a:IN):Prop:=∀ (X:Cx) (XP:XPT) (k:Nat) (sc:Scope) (N:List Str) (mp:List Nat) (m:Nat),XSc X sc N->XW X cf W k->∀ (e:Expr),a.chk W sc N mp m e=true->SN X XP mp e (a.ev cf)/\zbf X XP mp e (a.ev cf)
noncomputable abbrev QP(cf:CF)(W:Wd)(a:IP):Prop:=∀ (X:Cx) (XP:XPT) (k:Nat) (sc:Scope) (N:List Str) (mp:List Nat) (m:Nat),XSc X sc N->XW X cf W k->∀ (e:Option Expr),a.chk W sc N mp m e=true->SOp X XP mp e (a.ev cf)
noncomputable abbrev QI(cf:CF)(W:Wd)(a:II):Prop:=∀ (X:Cx) (XP:XPT) (k:Nat) (sc:Scope) (N:List Str) (mp:List Nat) (m:Nat),XSc X sc N->XW X cf W k->∀ (tg e:Expr),a.chk W sc N mp m e tg=true->SI X XP mp tg e (a.ev cf)
noncomputable abbrev QC(cf:CF)(W:Wd)(a:IC):Prop:=∀ (X:Cx) (XP:XPT) (k:Nat) (sc:Scope) (N:List Str) (mp:List Nat) (m:Nat),XSc X sc N->XW X cf W k->∀ (e:List Expr),a.chk W sc N mp m e=true->SF X XP mp e (a.ev cf)
noncomputable abbrev QO(cf:CF)(W:Wd)(a:IO):Prop:=∀ (X:Cx) (XP:XPT) (k:Nat) (sc:Scope) (N:List Str) (mp:List Nat) (m:Nat),XSc X sc N->XW X cf W k->∀ (e:Expr),a.chk W sc N mp m e=true->SO X XP mp e (a.ev cf)
noncomputable abbrev QJ(cf:CF)(W:Wd)(a:IJ):Prop:=∀ (X:Cx) (XP:XPT) (k:Nat) (sc:Scope) (N:List Str) (mp:List Nat) (m:Nat),XSc X sc N->XW X cf W k->∀ (e:List Expr),a.chk W sc N mp m e=true->SJ X XP mp e (a.ev cf)
theorem vX{cf:CF}{W:Wd}(s i:Nat):QE cf W (.var s i):=by
 intro X XP k sc N mp m S T e g0
 simp only[IE.chk]at g0
 obtain⟨⟨x,p⟩,eu,h⟩:=zg g0
 cases zM eu
 have n:=wm S h
 exact qD (zgu n.hN n.hv n.hm n.hd n.hcd) rfl
theorem VA{cf:CF}{W:Wd}(s i:Nat):QE cf W (.frz s i):=by
 intro X XP k sc N mp m S T e g0
 simp only[IE.chk]at g0
 obtain⟨⟨x,p⟩,eu,h⟩:=zg g0
 cases zM eu
 have n:=wm S h
 exact qD (zhn n.hN n.hv n.hm n.hd n.hcd) rfl
theorem J0{cf:CF}{W:Wd}(i:Int):QE cf W (.cint i):=by
 intro X XP k sc N mp m S T e g0
 simp only[IE.chk]at g0
 obtain⟨⟨c,j,p⟩,eu,h⟩:=zg g0
 obtain⟨z,ez,h⟩:=zg h
 cases jF eu
 cases zc9 ez
 cases of_decide_eq_true h
 exact qD zfB rfl
theorem we{cf:CF}{W:Wd}(i:Str):QE cf W (.cstr i):=by
 intro X XP k sc N mp m S T e g0
 simp only[IE.chk]at g0
 obtain⟨⟨c,j,p⟩,eu,h⟩:=zg g0
 obtain⟨z,ez,h⟩:=zg h
 cases jF eu
 cases V2 ez
 cases of_decide_eq_true h
 exact qD zgd rfl
theorem Qq{cf:CF}{W:Wd}(i:Bool):QE cf W (.cbool i):=by
 intro X XP k sc N mp m S T e g0
 simp only[IE.chk]at g0
 obtain⟨⟨c,j,p⟩,eu,h⟩:=zg g0
 obtain⟨z,ez,h⟩:=zg h
 cases jF eu
 cases KG ez
 cases of_decide_eq_true h
 exact qD zdR rfl
theorem Qh{cf:CF}{W:Wd}  :QE cf W (.cnone):=by
 intro X XP k sc N mp m S T e g0
 simp only[IE.chk]at g0
 obtain⟨⟨c,j,p⟩,eu,h⟩:=zg g0
 cases jF eu
 cases zaf h
 exact qD zdV rfl
theorem J5{cf:CF}{W:Wd}(x:Str)(i:Int):QE cf W (.gint x i):=by
 intro X XP k sc N mp m S T e g0
 simp only[IE.chk]at g0
 obtain⟨⟨y,p⟩,eu,h⟩:=zg g0
 cases zM eu
 simp only[xa,decide_eq_true_eq]at h
 obtain⟨⟨⟨h1,h2⟩,h3⟩,h4⟩:=h
 subst h1
 exact qD (zeT (S.glo x h2) (T.gi x i h3) (wt h4)) rfl
theorem vD{cf:CF}{W:Wd}(a:IL)(ih_a:QL cf W a):QE cf W (.tup a):=by
 intro X XP k sc N mp m S T e g0
 simp only[IE.chk]at g0
 obtain⟨⟨es,j,p⟩,eu,h⟩:=zg g0
 cases W8 eu
 exact qD (zfP (ih_a _ _ _ _ _ _ _ S T es h)) rfl
theorem vF{cf:CF}{W:Wd}(n:IN)(ih_n:QN cf W n):QE cf W (.new n):=by
 intro X XP k sc N mp m S T e h
 simp only[IE.chk,xa]at h
 exact qD (SN.se (ih_n _ _ _ _ _ _ _ S T e h.2).1) h.1
theorem vU{cf:CF}{W:Wd}(op:Operator)(a b:IE)(ih_a:QE cf W a)(ih_b:QE cf W b):QE cf W (.bin op a b):=by
 intro X XP k sc N mp m S T e g0
 simp only[IE.chk]at g0
 obtain⟨⟨x,op',y,p⟩,eu,h⟩:=zg g0
 cases Jf eu
 simp only[xa,decide_eq_true_eq]at h
 obtain⟨⟨h1,h2⟩,h3⟩:=h
 subst h1
 exact qD (zfU (zga op) (ih_a _ _ _ _ _ _ _ S T x h2).1 (ih_b _ _ _ _ _ _ _ S T y h3).1) rfl
theorem Vu{cf:CF}{W:Wd}(op:CmpOp)(a b:IE)(ih_a:QE cf W a)(ih_b:QE cf W b):QE cf W (.cmp op a b):=by
 intro X XP k sc N mp m S T e g0
 simp only[IE.chk]at g0
 obtain⟨⟨x,ops,ys,p⟩,eu,g1⟩:=zg g0
 obtain⟨op',eo,h⟩:=zg g1
 obtain⟨y,ey,h⟩:=zg h
 cases WH eu
 cases q8 eo
 cases q8 ey
 simp only[xa,decide_eq_true_eq]at h
 obtain⟨⟨⟨h1,h2⟩,h3⟩,h4⟩:=h
 subst h1
 have ha:=(ih_a _ XP _ _ _ _ _ S T x h3).1
 have hb:=(ih_b _ XP _ _ _ _ _ S T y h4).1
 exact⟨zgh (Ja (Room.at1 T) op) ha hb (Wn op h2),zgm (Ja (Room.at1 T) op) ha hb (Wn op h2)⟩
theorem Qj{cf:CF}{W:Wd}(op1 op2:CmpOp)(a b c:IE)(ih_a:QE cf W a)(ih_b:QE cf W b)(ih_c:QE cf W c):QE cf W (.chain op1 op2 a b c):=by
 intro X XP k sc N mp m S T e g0
 simp only[IE.chk]at g0
 obtain⟨⟨x,ops,ys,p⟩,eu,g1⟩:=zg g0
 obtain⟨⟨o1,o2⟩,eo,h⟩:=zg g1
 obtain⟨⟨y,z⟩,ey,h⟩:=zg h
 cases WH eu
 cases Qp eo
 cases Qp ey
 simp only[xa,decide_eq_true_eq]at h
 obtain⟨⟨⟨⟨⟨h1,h2⟩,h3⟩,h4⟩,h5⟩,h6⟩:=h
 subst h1 h2
 have ha:=(ih_a _ XP _ _ _ _ _ S T x h4).1
 have hb:=(ih_b _ XP _ _ _ _ _ S T y h5).1
 have hc:=(ih_c _ XP _ _ _ _ _ S T z h6).1
 exact⟨zbc (Ja (Room.at1 T) op1) (Ja (Room.at1 T) op2) ha hb hc (vd op1 op2 h3),zbJ (Ja (Room.at1 T) op1) (Ja (Room.at1 T) op2) ha hb hc (vd op1 op2 h3)⟩
theorem Vz{cf:CF}{W:Wd}(a:IE)(ih_a:QE cf W a):QE cf W (.not a):=by
 intro X XP k sc N mp m S T e g0
 simp only[IE.chk]at g0
 obtain⟨⟨op,x,p⟩,eu,h⟩:=zg g0
 cases yX eu
 simp only[xa,decide_eq_true_eq]at h
 cases h.1
 have hh:=ih_a _ XP _ _ _ _ _ S T x h.2
 exact⟨zg3 hh.1,zgz hh.2⟩
theorem VD{cf:CF}{W:Wd}(a:IE)(ih_a:QE cf W a):QE cf W (.neg a):=by
 intro X XP k sc N mp m S T e g0
 simp only[IE.chk]at g0
 obtain⟨⟨op,x,p⟩,eu,h⟩:=zg g0
 cases yX eu
 simp only[xa,decide_eq_true_eq]at h
 cases h.1
 exact qD (zfG (ih_a _ _ _ _ _ _ _ S T x h.2).1) rfl
theorem VL{cf:CF}{W:Wd}(a b:IE)(ih_a:QE cf W a)(ih_b:QE cf W b):QE cf W (.and a b):=by
 intro X XP k sc N mp m S T e g0
 simp only[IE.chk]at g0
 obtain⟨⟨x,z⟩,eu,h⟩:=zg g0
 rw[xa]at h
 have ha:=ih_a _ XP _ _ _ _ _ S T x h.1
 have hb:=ih_b _ XP _ _ _ _ _ S T z h.2
 rcases W0 eu with ⟨p,rfl⟩ | ⟨y,w,r,p,rfl,rfl⟩
 ·exact⟨za2 ha.1 (zbE hb.1),(za4 ha.2 (zdB hb.2)).st⟩
 ·exact⟨za2 ha.1 hb.1,(za4 ha.2 (yF hb.2)).st⟩
theorem Kr{cf:CF}{W:Wd}(a b:IE)(ih_a:QE cf W a)(ih_b:QE cf W b):QE cf W (.or a b):=by
 intro X XP k sc N mp m S T e g0
 simp only[IE.chk]at g0
 obtain⟨⟨x,z⟩,eu,h⟩:=zg g0
 rw[xa]at h
 have ha:=ih_a _ XP _ _ _ _ _ S T x h.1
 have hb:=ih_b _ XP _ _ _ _ _ S T z h.2
 rcases W0 eu with ⟨p,rfl⟩ | ⟨y,w,r,p,rfl,rfl⟩
 ·exact⟨zfr ha.1 (zbE hb.1),(zfn ha.2 (zeJ hb.2)).st⟩
 ·exact⟨zfr ha.1 hb.1,(zfn ha.2 (yF hb.2)).st⟩
theorem vJ{cf:CF}{W:Wd}(c a b:IE)(ih_c:QE cf W c)(ih_a:QE cf W a)(ih_b:QE cf W b):QE cf W (.ite c a b):=by
 intro X XP k sc N mp m S T e g0
 simp only[IE.chk]at g0
 obtain⟨⟨z,x,y,p⟩,eu,h⟩:=zg g0
 cases KM eu
 simp only[xa]at h
 obtain⟨⟨h1,h2⟩,h3⟩:=h
 exact⟨zhA (ih_c _ _ _ _ _ _ _ S T z h1).2 (ih_a _ _ _ _ _ _ _ S T x h2).1 (ih_b _ _ _ _ _ _ _ S T y h3).1,fun M0 F Γ ν σ H Q rs hs hp=>hp.elim⟩
theorem Kp{cf:CF}{W:Wd}(a b:IE)(ih_a:QE cf W a)(ih_b:QE cf W b):QE cf W (.ix a b):=by
 intro X XP k sc N mp m S T e g0
 simp only[IE.chk]at g0
 obtain⟨⟨x,y,p⟩,eu,h⟩:=zg g0
 cases Jk eu
 simp only[xa]at h
 obtain⟨⟨h1,h2⟩,h3⟩:=h
 exact qD (zhQ (ih_a _ _ _ _ _ _ _ S T x h2).1 (ih_b _ _ _ _ _ _ _ S T y h3).1 (YF h1)) rfl
theorem vV{cf:CF}{W:Wd}(a:IE)(ih_a:QE cf W a):QE cf W (.len a):=by
 intro X XP k sc N mp m S T e h
 simp only[IE.chk]at h
 split at h
 ·rename_i f p x q eu
  cases zZ eu
  simp only[xa]at h
  obtain⟨⟨h1,h2⟩,h3⟩:=h
  exact qD (zdl zhj (qm S T h1 Zy (by decide) (by decide)) (ih_a _ _ _ _ _ _ _ S T x h3).1 (zr h2)) rfl
 ·cases h
theorem vQ{cf:CF}{W:Wd}(a:IE)(ih_a:QE cf W a):QE cf W (.int a):=by
 intro X XP k sc N mp m S T e h
 simp only[IE.chk]at h
 split at h
 ·rename_i f p x q eu
  cases zZ eu
  simp only[xa]at h
  obtain⟨⟨h1,h2⟩,h3⟩:=h
  exact qD (zhS zgZ (qm S T h1 W6 (by decide) (by decide)) (ih_a _ _ _ _ _ _ _ S T x h3).1 (zr h2)) rfl
 ·cases h
theorem VG{cf:CF}{W:Wd}(a:IE)(ih_a:QE cf W a):QE cf W (.all a):=by
 intro X XP k sc N mp m S T e h
 simp only[IE.chk]at h
 split at h
 ·rename_i f p x q eu
  cases zZ eu
  simp only[xa]at h
  obtain⟨⟨h1,h2⟩,h3⟩:=h
  exact qD (zdl (zgr T.calm) (qm S T h1 KI (by decide) (by decide)) (ih_a _ _ _ _ _ _ _ S T x h3).1 (zr h2)) rfl
 ·cases h
theorem vK{cf:CF}{W:Wd}(a:IE)(ih_a:QE cf W a):QE cf W (.any a):=by
 intro X XP k sc N mp m S T e h
 simp only[IE.chk]at h
 split at h
 ·rename_i f p x q eu
  cases zZ eu
  simp only[xa]at h
  obtain⟨⟨h1,h2⟩,h3⟩:=h
  exact qD (zdl (zf1 T.calm) (qm S T h1 zay (by decide) (by decide)) (ih_a _ _ _ _ _ _ _ S T x h3).1 (zr h2)) rfl
 ·cases h
theorem Qx{cf:CF}{W:Wd}(a:IE)(ih_a:QE cf W a):QE cf W (.tuple a):=by
 intro X XP k sc N mp m S T e h
 simp only[IE.chk]at h
 split at h
 ·rename_i f p x q eu
  cases zZ eu
  simp only[xa]at h
  obtain⟨⟨h1,h2⟩,h3⟩:=h
  exact qD (zby (qm S T h1 JH (by decide) (by decide)) (ih_a _ _ _ _ _ _ _ S T x h3).1 (zr h2)) rfl
 ·cases h
theorem Vn{cf:CF}{W:Wd}(TT:String)(a:IE)(ih_a:QE cf W a):QE cf W (.isi TT a):=by
 intro X XP k sc N mp m S T e h
 simp only[IE.chk]at h
 split at h
 ·rename_i f p x y q eu
  cases vE eu
  simp only[xa,xL,beq_iff_eq]at h
  obtain⟨⟨⟨⟨h1,h2⟩,h3⟩,h4⟩,h5⟩:=h
  obtain⟨⟨y,p2⟩,ey,h4⟩:=zg h4
  cases zM ey
  have B:=qm S T h1 zaa (by decide) (by decide)
  have ha:=(ih_a _ XP _ _ _ _ _ S T x h5).1
  rcases h3 with (((rfl | rfl) | rfl) | rfl) | rfl
  ·exact qD (wY B (qm S T h4 W6 (by decide) (by decide)) ha (zr h2)) rfl
  ·exact qD (wY B (qm S T h4 YK (by decide) (by decide)) ha (zr h2)) rfl
  ·exact qD (wY B (qm S T h4 Z6 (by decide) (by decide)) ha (zr h2)) rfl
  ·exact qD (wY B (qm S T h4 JH (by decide) (by decide)) ha (zr h2)) rfl
  ·exact qD (wY B (qm S T h4 zau (by decide) (by decide)) ha (zr h2)) rfl
 ·cases h
theorem Vm{cf:CF}{W:Wd}(a b:IE)(ih_a:QE cf W a)(ih_b:QE cf W b):QE cf W (.min a b):=by
 intro X XP k sc N mp m S T e h
 simp only[IE.chk]at h
 split at h
 ·rename_i f p x y q eu
  cases vE eu
  simp only[xa]at h
  obtain⟨⟨⟨⟨h1,h2⟩,h3⟩,h4⟩,h5⟩:=h
  exact qD (zeu T.calm (qm S T h1 zas (by decide) (by decide)) (ih_a _ _ _ _ _ _ _ S T x h4).1 (ih_b _ _ _ _ _ _ _ S T y h5).1 (zr h2) (zr h3)) rfl
 ·cases h
theorem Vy{cf:CF}{W:Wd}(a b:IE)(ih_a:QE cf W a)(ih_b:QE cf W b):QE cf W (.max a b):=by
 intro X XP k sc N mp m S T e h
 simp only[IE.chk]at h
 split at h
 ·rename_i f p x y q eu
  cases vE eu
  simp only[xa]at h
  obtain⟨⟨⟨⟨h1,h2⟩,h3⟩,h4⟩,h5⟩:=h
  exact qD (zeN T.calm (qm S T h1 zaL (by decide) (by decide)) (ih_a _ _ _ _ _ _ _ S T x h4).1 (ih_b _ _ _ _ _ _ _ S T y h5).1 (zr h2) (zr h3)) rfl
 ·cases h
theorem Qt{cf:CF}{W:Wd}(a b:IE)(ih_a:QE cf W a)(ih_b:QE cf W b):QE cf W (.count a b):=by
 intro X XP k sc N mp m S T e h
 simp only[IE.chk]at h
 split at h
 ·rename_i x p f p2 y q eu
  cases zbY eu
  simp only[xa,decide_eq_true_eq]at h
  obtain⟨⟨⟨⟨h1,h2⟩,h3⟩,h4⟩,h5⟩:=h
  subst h1
  exact qD (zde (T.rm.mono T.hk) (ih_a _ _ _ _ _ _ _ S T _ h4).1 (ih_b _ _ _ _ _ _ _ S T y h5).1 rfl (zr h2) h3) rfl
 ·cases h
theorem JU{cf:CF}{W:Wd}(a b:IE)(ih_a:QE cf W a)(ih_b:QE cf W b):QE cf W (.less a b):=by
 intro X XP k sc N mp m S T e h
 simp only[IE.chk]at h
 split at h
 ·rename_i f g h2 x y rest eu
  obtain⟨p1,p2,p3,q1,q2,q3,pb⟩:=rest
  cases Yr eu
  simp only[xa]at h
  obtain⟨⟨⟨⟨⟨⟨h1,h2'⟩,h3⟩,h4⟩,h5⟩,h6⟩,h7⟩:=h
  have nm:∀ {z t:Str},biB W sc z t=true->z=t:=fun {z t} hz=>by
   unfold biB at hz
   simp only[xa,decide_eq_true_eq]at hz
   exact hz.1.1
  have B1:=qm S T h1 Zy (by decide) (by decide)
  have B2:=qm S T h2' L2.boot_setW (by decide) (by decide)
  have e1:=nm h1
  have e2:=nm h2'
  have e3:=nm h3
  subst e1 e2 e3
  exact qD (zdT T.calm B1.gl B1.mg B2.gl B2.mg (ih_a _ _ _ _ _ _ _ S T x h6).1 (ih_b _ _ _ _ _ _ _ S T y h7).1 (zr h4) (zr h5)) rfl
 ·cases h
theorem JT{cf:CF}{W:Wd}(o:IO)(ih_o:QO cf W o):QE cf W (.call o):=by
 intro X XP k sc N mp m S T e h
 simp only[IE.chk,xa]at h
 exact qD (ih_o _ _ _ _ _ _ _ S T e h.2).se h.1
theorem QM{cf:CF}{W:Wd}(g:Str)(n:Nat)(a:IL)(ih_a:QL cf W a):QE cf W (.callw g n a):=by
 intro X XP k sc N mp m S T e h
 simp only[IE.chk]at h
 split at h
 ·rename_i f p xs q eu
  cases JY eu
  simp only[xa,decide_eq_true_eq]at h
  obtain⟨⟨⟨⟨⟨⟨h1,h2⟩,h3⟩,h4⟩,h0⟩,h5⟩,h6⟩:=h
  subst h1
  obtain⟨kn,hrun⟩:=T.fn _ _ h3
  obtain⟨x,xs,rfl⟩:∃ y ys,xs=y::ys:=by
   cases xs with
   |nil=>cases h0
   |cons y ys=>exact⟨y,ys,rfl⟩
  rw[uE,xa]at h5
  exact qD (zbk kn (Room.atk T) (S.glo _ h2) hrun (ih_a _ _ _ _ _ _ _ S T (x::xs) h6) (wt h4) (zr h5.1) (Z8 (V4 h5.2))) rfl
 ·cases h
theorem VR{cf:CF}{W:Wd}(a:IL)(ih_a:QL cf W a):QN cf W (.lst a):=by
 intro X XP k sc N mp m S T e g0
 simp only[IN.chk]at g0
 obtain⟨⟨es,p⟩,eu,h⟩:=zg g0
 cases zaH eu
 exact⟨zhb (ih_a _ _ _ _ _ _ _ S T es h),wI (fun _ _ _ _ q=>nomatch q)⟩
theorem v7{cf:CF}{W:Wd}(x:IE)(lo hi:IP)(ih_x:QE cf W x)(ih_lo:QP cf W lo)(ih_hi:QP cf W hi):QN cf W (.cut x lo hi):=by
 intro X XP k sc N mp m S T e g0
 simp only[IN.chk]at g0
 obtain⟨⟨y,l,u,p,q⟩,eu,h⟩:=zg g0
 cases KO eu
 simp only[xa]at h
 obtain⟨⟨h1,h2⟩,h3⟩:=h
 exact⟨zg9 (ih_x _ _ _ _ _ _ _ S T y h1).1 (ih_lo _ _ _ _ _ _ _ S T l h2) (ih_hi _ _ _ _ _ _ _ S T u h3),wI (fun _ _ _ _ q=>nomatch q)⟩
theorem VX{cf:CF}{W:Wd}(a b:IE)(ih_a:QE cf W a)(ih_b:QE cf W b):QN cf W (.cat a b):=by
 intro X XP k sc N mp m S T e g0
 simp only[IN.chk]at g0
 obtain⟨⟨x,op,y,p⟩,eu,h⟩:=zg g0
 cases Jf eu
 simp only[xa,decide_eq_true_eq]at h
 obtain⟨⟨h0,h1⟩,h2⟩:=h
 cases h0
 exact⟨zgN (ih_a _ _ _ _ _ _ _ S T x h1).1 (ih_b _ _ _ _ _ _ _ S T y h2).1,wI (fun _ _ _ _ q=>nomatch q)⟩
theorem JW{cf:CF}{W:Wd}(a:IE)(ih_a:QE cf W a):QN cf W (.list a):=by
 intro X XP k sc N mp m S T e h
 simp only[IN.chk]at h
 split at h
 ·rename_i f p x q eu
  cases zZ eu
  simp only[xa]at h
  obtain⟨⟨h1,h2⟩,h3⟩:=h
  exact⟨zdP (qm S T h1 Z6 (by decide) (by decide)) (ih_a _ _ _ _ _ _ _ S T x h3).1 (zr h2),wI (fun _ _ _ _ q=>nomatch q)⟩
 ·cases h
theorem ZF{cf:CF}{W:Wd}(a:IE)(ih_a:QE cf W a):QN cf W (.sorted a):=by
 intro X XP k sc N mp m S T e h
 simp only[IN.chk]at h
 split at h
 ·rename_i f p x q eu
  cases zZ eu
  simp only[xa]at h
  obtain⟨⟨h1,h2⟩,h3⟩:=h
  exact⟨zav (qm S T h1 vC (by decide) (by decide)) (ih_a _ _ _ _ _ _ _ S T x h3).1 (zr h2),wI (fun _ _ _ _ q=>nomatch q)⟩
 ·cases h
theorem wd{cf:CF}{W:Wd}(n kk:Nat)(ix:List Nat)(N':List Str)(t:IT)(src:II)(c:IC)(el:IE)(ih_src:QI cf W src)(ih_c:QC cf W c)(ih_el:QE cf W el):QN cf W (.comp n kk ix N' t src c el):=by
 intro X XP k sc N mp m S T e h
 simp only[IN.chk]at h
 split at h
 ·rename_i elt tg iter ifs scope p eu
  cases zcK eu
  simp only[xa,decide_eq_true_eq]at h
  obtain⟨⟨⟨⟨⟨⟨⟨⟨h1,h3⟩,h4⟩,h5⟩,h6⟩,h7⟩,h8⟩,h9⟩,h10⟩:=h
  subst h1
  have C0:CSc sc N scope N' kk ix:=CSc.of h3
  have C1:=zgs S C0
  have hm:∀ j i:Nat,ix[j]?=some i->∃ m,mp[i]?=some m/\m<n:=fun j i e=>by
   have:=xA.mp h5 i (xN e)
   split at this
   ·rename_i q eq;exact⟨q,eq,by simpa using this⟩
   ·cases this
  have hi:=ih_src _ XP _ _ _ _ _ S T tg iter h7
  have hg:∀ cl C s2 H2 fp,SG (X.comp N' scope cl C s2 H2 fp) (mpC mp n kk ix) (·<n) tg t:=fun cl C s2 H2 fp=>J9 (XSc.comp C0 cl C s2 H2 fp) C0.nd h4 T.calm (fun i h=>by omega) t tg h8
  have hc:∀ cl C s2 H2 fp,SF (X.comp N' scope cl C s2 H2 fp) XP0 (mpC mp n kk ix) ifs (c.ev cf):=fun cl C s2 H2 fp=>ih_c _ _ _ _ _ _ _ (XSc.comp C0 cl C s2 H2 fp) (T.comp cl C s2 H2 fp) ifs h9
  have he:∀ cl C s2 H2 fp,SE (X.comp N' scope cl C s2 H2 fp) XP0 (mpC mp n kk ix) elt (el.ev cf).1:=fun cl C s2 H2 fp=>(ih_el _ _ _ _ _ _ _ (XSc.comp C0 cl C s2 H2 fp) (T.comp cl C s2 H2 fp) elt h10).1
  refine⟨zd5 T.calm C1 hm hi hg hc he (Jx h6),fun a b c' d q=>?_⟩
  cases q
  exact⟨tg,iter,ifs,N',kk,ix,rfl,C1,Jx h6,yL C1 hm hi hg hc he⟩
 ·cases h
theorem J3{cf:CF}{W:Wd}(a:IE)(ih_a:QE cf W a):QI cf W (.list a):=by
 intro X XP k sc N mp m S T tg e h
 exact zdK (ih_a _ _ _ _ _ _ _ S T e h).1
theorem vH{cf:CF}{W:Wd}(a:IE)(ih_a:QE cf W a):QI cf W (.tup a):=by
 intro X XP k sc N mp m S T tg e h
 exact zgt (ih_a _ _ _ _ _ _ _ S T e h).1
theorem Qd{cf:CF}{W:Wd}(a:IE)(ih_a:QE cf W a):QI cf W (.range a):=by
 intro X XP k sc N mp m S T tg e h
 simp only[II.chk]at h
 split at h
 ·rename_i f p x q eu
  cases zZ eu
  simp only[xa]at h
  obtain⟨⟨h1,h2⟩,h3⟩:=h
  have ef:f= "range" :=by
   unfold biB at h1
   simp only[xa,decide_eq_true_eq]at h1
   exact h1.1.1
  exact zc0 (qm S T h1 yQ (by decide) (by decide)) ef (ih_a _ _ _ _ _ _ _ S T x h3).1 (zr h2)
 ·cases h
theorem J2{cf:CF}{W:Wd}(a:IE)(ih_a:QE cf W a):QI cf W (.enum a):=by
 intro X XP k sc N mp m S T tg e h
 simp only[II.chk]at h
 split at h
 ·rename_i f p x q eu
  cases zZ eu
  simp only[xa]at h
  obtain⟨⟨⟨h0,h1⟩,h2⟩,h3⟩:=h
  have ef:f= "enumerate" :=by
   unfold biB at h1
   simp only[xa,decide_eq_true_eq]at h1
   exact h1.1.1
  cases tg with
  |Tuple es x1 pt=>exact zen (qm S T h1 L2.boot_enumW (by decide) (by decide)) ef (ih_a _ _ _ _ _ _ _ S T x h3).1 (zr h2)
  |_=>simp[zcL]at h0
 ·cases h
theorem VV{cf:CF}{W:Wd}(a:IE)(ih_a:QE cf W a):QO cf W (.dat a):=by
 intro X XP k sc N mp m S T e h
 exact (ih_a _ _ _ _ _ _ _ S T e h).1.so
theorem Vh{cf:CF}{W:Wd}(n:IN)(ih_n:QN cf W n):QO cf W (.own n):=by
 intro X XP k sc N mp m S T e h
 exact (ih_n _ _ _ _ _ _ _ S T e h).1.so
theorem wc{cf:CF}{W:Wd}(g:Str)(n:Nat)(a:IA)(ih_a:QA cf W a):QO cf W (.call g n a):=by
 intro X XP k sc N mp m S T e h
 simp only[IO.chk]at h
 split at h
 ·rename_i f p xs q eu
  cases JY eu
  simp only[xa,decide_eq_true_eq]at h
  obtain⟨⟨⟨⟨⟨h1,h2⟩,h3⟩,h4⟩,h5⟩,h6⟩:=h
  subst h1
  obtain⟨kn,hrun⟩:=T.fn _ _ h3
  cases xs with
  |nil=>
   cases a with
   |nil=>exact zbm kn (Room.atk T) (S.glo _ h2) hrun (wt h4)
   |cons _ _=>cases h6
   |io _ _ _=>cases h6
   |tmp _=>cases h6
  |cons x xs=>
   rw[uE,xa]at h5
   exact zeQ kn (Room.atk T) (S.glo _ h2) hrun (ih_a _ _ _ _ _ _ _ S T (x::xs) h6) (wt h4) (zr h5.1) (Z8 (V4 h5.2))
 ·cases h
theorem JX{cf:CF}{W:Wd}(s i:Nat):QO cf W (.move s i):=by
 intro X XP k sc N mp m S T e g0
 obtain⟨⟨x,p⟩,eu,h⟩:=zg g0
 cases zM eu
 have n:=wm S h
 exact zes n.hN n.hv n.hm n.hd n.hcd
theorem JS{cf:CF}{W:Wd}(a:IE)(ih_a:QE cf W a):QE cf W (.lset a):=by
 intro X XP k sc N mp m S T e h
 simp only[IE.chk]at h
 split at h
 ·rename_i f p x q eu
  split at h
  ·rename_i g p2 y q2 eu2
   cases zZ eu
   cases zZ eu2
   simp only[xa]at h
   obtain⟨⟨⟨h1,h2⟩,h3⟩,h4⟩:=h
   have ef:f= "len" :=by
    unfold biB at h1
    simp only[xa,decide_eq_true_eq]at h1
    exact h1.1.1
   have eg:g= "set" :=by
    unfold biB at h2
    simp only[xa,decide_eq_true_eq]at h2
    exact h2.1.1
   subst ef eg
   have B1:=qm S T h1 Zy (by decide) (by decide)
   have B2:=qm S T h2 boot_setW (by decide) (by decide)
   exact qD (zdy T.calm B1.gl B1.mg B2.gl B2.mg (ih_a _ _ _ _ _ _ _ S T y h4).1 (zr h3)) rfl
  ·cases h
 ·cases h
theorem Qg{cf:CF}{W:Wd}(a:IE)(ih_a:QE cf W a):QE cf W (.lsetL a):=by
 intro X XP k sc N mp m S T e h
 simp only[IE.chk]at h
 split at h
 ·rename_i f p x q eu
  split at h
  ·rename_i g p2 y q2 eu2
   cases zZ eu
   cases zZ eu2
   simp only[xa]at h
   obtain⟨⟨⟨h1,h2⟩,h3⟩,h4⟩:=h
   have ef:f= "len" :=by
    unfold biB at h1
    simp only[xa,decide_eq_true_eq]at h1
    exact h1.1.1
   have eg:g= "set" :=by
    unfold biB at h2
    simp only[xa,decide_eq_true_eq]at h2
    exact h2.1.1
   subst ef eg
   have B1:=qm S T h1 Zy (by decide) (by decide)
   have B2:=qm S T h2 boot_setW (by decide) (by decide)
   exact qD (zb9 T.calm B1.gl B1.mg B2.gl B2.mg (ih_a _ _ _ _ _ _ _ S T y h4).1 (zr h3)) rfl
  ·cases h
 ·cases h
theorem vy{cf:CF}{W:Wd}:QL cf W .nil:=by
 intro X XP k sc N mp m S T es h
 cases es with
 |nil=>exact zg4
 |cons _ _=>cases h
theorem JZ{cf:CF}{W:Wd}(e:IE)(a:IL)(ih_e:QE cf W e)(ih_a:QL cf W a):QL cf W (.cons e a):=by
 intro X XP k sc N mp m S T es h
 cases es with
 |nil=>cases h
 |cons x xs=>
  simp only[IL.chk,xa]at h
  obtain⟨⟨h1,h2⟩,h3⟩:=h
  exact zei (ih_e _ _ _ _ _ _ _ S T x h2).1 (ih_a _ _ _ _ _ _ _ S T xs h3) (zr h1)
theorem Vv{cf:CF}{W:Wd}:QA cf W .nil:=by
 intro X XP k sc N mp m S T es h
 cases es with
 |nil=>exact zfZ
 |cons _ _=>cases h
theorem J1{cf:CF}{W:Wd}(e:IE)(a:IA)(ih_e:QE cf W e)(ih_a:QA cf W a):QA cf W (.cons e a):=by
 intro X XP k sc N mp m S T es h
 cases es with
 |nil=>cases h
 |cons x xs=>
  simp only[IA.chk,xa]at h
  obtain⟨⟨h1,h2⟩,h3⟩:=h
  exact zdZ (ih_e _ _ _ _ _ _ _ S T x h2).1 (ih_a _ _ _ _ _ _ _ S T xs h3) (zr h1)
theorem kq{cf:CF}{W:Wd}(s i:Nat)(a:IA)(ih_a:QA cf W a):QA cf W (.io s i a):=by
 intro X XP k sc N mp m S T es h
 cases es with
 |nil=>cases h
 |cons e xs=>
  simp only[IA.chk,xa]at h
  obtain⟨⟨x,p⟩,eu,h1⟩:=zg h.1
  cases zM eu
  have n:=wm S h1
  exact zid n.hN n.hv n.hm n.hd n.hcd (ih_a _ _ _ _ _ _ _ S T xs h.2) rfl
theorem vP{cf:CF}{W:Wd}(n:IN)(ih_n:QN cf W n):QA cf W (.tmp n):=by
 intro X XP k sc N mp m S T es h
 match es,h with
 |[],h=>nomatch h
 |[x],h=>
  simp only[IA.chk,xa]at h
  exact zfA (ih_n _ _ _ _ _ _ _ S T x h.2).1 (zr h.1)
 |_::_::_,h=>nomatch h
theorem VH{cf:CF}{W:Wd}:QP cf W .non:=by
 intro X XP k sc N mp m S T e h
 cases e with
 |none=>exact zd2
 |some _=>cases h
theorem VW{cf:CF}{W:Wd}(a:IE)(ih_a:QE cf W a):QP cf W (.one a):=by
 intro X XP k sc N mp m S T e h
 cases e with
 |none=>cases h
 |some x=>exact zdz (ih_a _ _ _ _ _ _ _ S T x h).1
theorem VF{cf:CF}{W:Wd}:QC cf W .yes:=by
 intro X XP k sc N mp m S T es h
 cases es with
 |nil=>exact zgJ
 |cons _ _=>cases h
theorem vI{cf:CF}{W:Wd}(a:IE)(ih_a:QE cf W a):QC cf W (.one a):=by
 intro X XP k sc N mp m S T es h
 match es,h with
 |[],h=>nomatch h
 |[x],h=>exact zfH (ih_a _ _ _ _ _ _ _ S T x h).2
 |_::_::_,h=>nomatch h
theorem Vw{cf:CF}{W:Wd}:QJ cf W .nil:=by
 intro X XP k sc N mp m S T e h
 cases e with
 |nil=>exact zfM
 |cons _ _=>simp[IJ.chk]at h
theorem Qs(cf:CF)(W:Wd)(a:IE):QE cf W a:=IE.rec (motive_1:=QE cf W) (motive_2:=QL cf W) (motive_3:=QA cf W) (motive_4:=QN cf W) (motive_5:=QP cf W) (motive_6:=QI cf W) (motive_7:=QC cf W) (motive_8:=QO cf W) (motive_9:=QJ cf W) vX VA J0 we Qq Qh J5 vD vF vU Vu Qj Vz VD VL Kr vJ Kp vV vQ VG vK Qx Vn Vm Vy Qt JU JT QM JS Qg vy JZ Vv J1 kq vP VR v7 VX JW ZF wd VH VW J3 vH Qd J2 VF vI VV Vh wc JX Vw a
theorem zih(cf:CF)(W:Wd)(a:IN):QN cf W a:=IN.rec (motive_1:=QE cf W) (motive_2:=QL cf W) (motive_3:=QA cf W) (motive_4:=QN cf W) (motive_5:=QP cf W) (motive_6:=QI cf W) (motive_7:=QC cf W) (motive_8:=QO cf W) (motive_9:=QJ cf W) vX VA J0 we Qq Qh J5 vD vF vU Vu Qj Vz VD VL Kr vJ Kp vV vQ VG vK Qx Vn Vm Vy Qt JU JT QM JS Qg vy JZ Vv J1 kq vP VR v7 VX JW ZF wd VH VW J3 vH Qd J2 VF vI VV Vh wc JX Vw a
theorem zic(cf:CF)(W:Wd)(a:II):QI cf W a:=II.rec (motive_1:=QE cf W) (motive_2:=QL cf W) (motive_3:=QA cf W) (motive_4:=QN cf W) (motive_5:=QP cf W) (motive_6:=QI cf W) (motive_7:=QC cf W) (motive_8:=QO cf W) (motive_9:=QJ cf W) vX VA J0 we Qq Qh J5 vD vF vU Vu Qj Vz VD VL Kr vJ Kp vV vQ VG vK Qx Vn Vm Vy Qt JU JT QM JS Qg vy JZ Vv J1 kq vP VR v7 VX JW ZF wd VH VW J3 vH Qd J2 VF vI VV Vh wc JX Vw a
theorem ze3(cf:CF)(W:Wd)(a:IO):QO cf W a:=IO.rec (motive_1:=QE cf W) (motive_2:=QL cf W) (motive_3:=QA cf W) (motive_4:=QN cf W) (motive_5:=QP cf W) (motive_6:=QI cf W) (motive_7:=QC cf W) (motive_8:=QO cf W) (motive_9:=QJ cf W) vX VA J0 we Qq Qh J5 vD vF vU Vu Qj Vz VD VL Kr vJ Kp vV vQ VG vK Qx Vn Vm Vy Qt JU JT QM JS Qg vy JZ Vv J1 kq vP VR v7 VX JW ZF wd VH VW J3 vH Qd J2 VF vI VV Vh wc JX Vw a
end
end L3
set_option maxHeartbeats 4000000
namespace L3
open PySem PySem.Spec PyProof.Rows L2
mutual
inductive IS where
 |pass
 |bad
 |asg (s i:Nat) (o:IO)
 |asgT (t:IT) (e:IE)
 |expr (e:IE)
 |ite (c:IE) (a b:IB)
 |loop (t:IT) (src:II) (b:IB)
 |wh (n:Nat) (c:IE) (b:IB)
 |ret (o:IO)
 |app (s i:Nat) (e:IE)
 |set (s i:Nat) (ie ve:IE)
 |raise (x:Str)
 |aug (s i:Nat) (e:IE)
 |star (s i t j:Nat) (e:IE)
inductive IB where
 |nil
 |cons (s:IS) (b:IB)
end
mutual
noncomputable def IS.ex(cf:CF)(io:List Nat):IS->SM
 |.pass=>sNext
 |.bad=>zhG
 |.asg _ i o=>sAsg io i (o.ev cf)
 |.asgT t e=>sAsgT t (e.ev cf).1
 |.expr e=>sExpr (e.ev cf).1
 |.ite c a b=>sIf (c.ev cf).2 (a.ex cf io) (b.ex cf io)
 |.loop t src b=>sFor t (src.ev cf) (b.ex cf io)
 |.wh n c b=>kg n (c.ev cf).2 (b.ex cf io)
 |.ret o=>sRet (o.ev cf)
 |.app _ i e=>sApp i (e.ev cf).1
 |.set _ i ie ve=>sSet i (ie.ev cf).1 (ve.ev cf).1
 |.raise x=>vN x
 |.aug _ i e=>zdG i (e.ev cf).1
 |.star _ i _ j e=>k6 io i j (e.ev cf).1
noncomputable def IB.ex(cf:CF)(io:List Nat):IB->SM
 |.nil=>sNext
 |.cons s .nil=>s.ex cf io
 |.cons s b=>sSeq (s.ex cf io) (b.ex cf io)
end
noncomputable def J6:IO->Option IN
 |.own n=>some n
 |.dat (.new n)=>some n
 |_=>none
noncomputable def wL(o:IO):Expr->Bool
 |.ListComp .. =>(J6 o).isSome
 |.SetComp .. =>false
 |.DictComp .. =>false
 |_=>true
noncomputable def zc3:Stmt->Option Pos
 |.Pass p=>some p
 |_=>none
noncomputable def VC:Stmt->Option (Expr×Pos)
 |.Expr x p=>some (x,p)
 |_=>none
noncomputable def zhr:Stmt->Option (Expr×List Stmt×List Stmt×Pos)
 |.If x xs ys p=>some (x,xs,ys,p)
 |_=>none
noncomputable def zfp:Stmt->Option (Expr×Expr×List Stmt×List Stmt×Pos)
 |.For tg it b e p=>some (tg,it,b,e,p)
 |_=>none
noncomputable def Kf:Stmt->Option (Expr×List Stmt×List Stmt×Pos)
 |.While x b e p=>some (x,b,e,p)
 |_=>none
noncomputable def zfm:Stmt->Option (Option Expr×Pos)
 |.Return x p=>some (x,p)
 |_=>none
noncomputable def zb5:Stmt->Option (List Expr×Expr×Pos)
 |.Assign ts e p=>some (ts,e,p)
 |_=>none
theorem Yw{e:Stmt}{p:Pos}(h:zc3 e=some p):e=.Pass p:=by cases e<;>cases h<;>rfl
theorem Wm{e:Stmt}{x:Expr}{p:Pos}(h:VC e=some (x,p)):e=.Expr x p:=by cases e<;>cases h<;>rfl
theorem zb3{e:Stmt}{x:Expr}{xs ys:List Stmt}{p:Pos}(h:zhr e=some (x,xs,ys,p)):e=.If x xs ys p:=by cases e<;>cases h<;>rfl
theorem KS{e:Stmt}{x y:Expr}{xs ys:List Stmt}{p:Pos}(h:zfp e=some (x,y,xs,ys,p)):e=.For x y xs ys p:=by cases e<;>cases h<;>rfl
theorem yO{e:Stmt}{x:Expr}{xs ys:List Stmt}{p:Pos}(h:Kf e=some (x,xs,ys,p)):e=.While x xs ys p:=by cases e<;>cases h<;>rfl
theorem Kt{e:Stmt}{x:Option Expr}{p:Pos}(h:zfm e=some (x,p)):e=.Return x p:=by cases e<;>cases h<;>rfl
theorem Kz{e:Stmt}{ts:List Expr}{x:Expr}{p:Pos}(h:zb5 e=some (ts,x,p)):e=.Assign ts x p:=by cases e<;>cases h<;>rfl
noncomputable def zdk(s:Stmt):Option (Str×Pos×Str×Pos×List Expr×Pos×Pos):=(VC s).bind fun (e,q2)=>(zap e).map fun (x,p,f,p2,xs,q)=>(x,p,f,p2,xs,q,q2)
theorem KY{st:Stmt}{x f:Str}{p p2 q q2:Pos}{xs:List Expr}(h:zdk st=some (x,p,f,p2,xs,q,q2)):st=.Expr (.Call (.Attribute (.Name x p) f p2) xs [] q) q2:=by
 unfold zdk at h
 cases e1:VC st with
 |none=>rw[e1]at h;cases h
 |some z=>
  obtain⟨e,q3⟩:=z
  cases e2:zap e with
  |none=>simp[e1,e2]at h
  |some z=>
   obtain⟨a1,a2,a3,a4,a5,a6⟩:=z
   simp[e1,e2]at h
   obtain⟨rfl,rfl,rfl,rfl,rfl,rfl,rfl⟩:=h
   rw[Wm e1,yG e2]
noncomputable def W1(s:Stmt):Option (Expr×Expr×Pos):=(zb5 s).bind fun (ts,e,q)=>(JM ts).map fun t=>(t,e,q)
theorem Zw{st:Stmt}{t e:Expr}{q:Pos}(h:W1 st=some (t,e,q)):st=.Assign [t] e q:=by
 unfold W1 at h
 cases e1:zb5 st with
 |none=>rw[e1]at h;cases h
 |some z=>
  obtain⟨ts,e',q'⟩:=z
  cases e2:JM ts with
  |none=>simp[e1,e2]at h
  |some t'=>
   simp[e1,e2]at h
   obtain⟨rfl,rfl,rfl⟩:=h
   rw[Kz e1,q8 e2]
noncomputable def kK:Stmt->Option (Option Expr×Option Expr×Pos)
 |.Raise x y p=>some (x,y,p)
 |_=>none
theorem y6{e:Stmt}{x y:Option Expr}{p:Pos}(h:kK e=some (x,y,p)):e=.Raise x y p:=by cases e<;>cases h<;>rfl
noncomputable def zb6(sc:Scope)(x:Str):Bool:=decide (sc.names.lookup x=some .local)||decide (sc.names.lookup x=some .cell)
noncomputable def zg6 (W:Wd) (sc:Scope) (x:Str):Bool:=VZ sc x&&W.ex.contains x&& !(x==("__debug__" :Str))
noncomputable def zff:Stmt->Option (Expr×Operator×Expr×Pos)
 |.AugAssign t op e p=>some (t,op,e,p)
 |_=>none
noncomputable def zfh:Expr->Option (Expr×Pos)
 |.Starred x p=>some (x,p)
 |_=>none
theorem K5{st:Stmt}{t e:Expr}{op:Operator}{p:Pos}(h:zff st=some (t,op,e,p)):st=.AugAssign t op e p:=by cases st<;>cases h<;>rfl
theorem zam{e x:Expr}{p:Pos}(h:zfh e=some (x,p)):e=.Starred x p:=by cases e<;>cases h<;>rfl
noncomputable def Vc:Expr->Bool
 |.ListComp .. =>false
 |.SetComp .. =>false
 |.DictComp .. =>false
 |_=>true
noncomputable def qq:Expr->Bool
 |.Tuple .. =>false
 |.ListComp .. =>false
 |.SetComp .. =>false
 |.DictComp .. =>false
 |_=>true
mutual
noncomputable def IS.chk(W:Wd)(sc:Scope)(N:List Str)(mp:List Nat)(m np:Nat):IS->Stmt->Bool
 |.pass,st=>okO (zc3 st) fun _=>true
 |.bad,_=>true
 |.asg s i o,st=>okO (W1 st) fun z=>okO (qy z.1) fun x=>decide (N[s]?=some x.1)&&decide (mp[s]?=some i)&&(decide (sc.names.lookup x.1=some .local)||decide (sc.names.lookup x.1=some .cell))&&wL o z.2.1&&o.chk W sc N mp m z.2.1
 |.asgT t e,st=>okO (W1 st) fun z=>zcL z.1&&qq z.2.1&&VS sc N mp np t z.1&&e.chk W sc N mp m z.2.1
 |.expr e,st=>okO (VC st) fun z=>qq z.1&&e.chk W sc N mp m z.1
 |.ite c a b,st=>okO (zhr st) fun z=>c.chk W sc N mp m z.1&&a.chk W sc N mp m np z.2.1&&b.chk W sc N mp m np z.2.2.1
 |.loop t src b,st=>okO (zfp st) fun z=>z.2.2.2.1.isEmpty&&j1 z.2.1&&VS sc N mp np t z.1&&src.chk W sc N mp m z.2.1 z.1&&b.chk W sc N mp m np z.2.2.1
 |.wh _ c b,st=>okO (Kf st) fun z=>z.2.2.1.isEmpty&&c.chk W sc N mp m z.1&&b.chk W sc N mp m np z.2.1
 |.ret o,st=>okO (zfm st) fun z=>okO z.1 fun x=>o.chk W sc N mp m x
 |.app s i e,st=>okO (zdk st) fun (x,_,f,p2,xs,q,_)=>okO (JM xs) fun a=>nmB sc N mp s i x&&decide (f= "append")&&zp a&&(p2.endLine==q.line)&&e.chk W sc N mp m a
 |.set s i ie ve,st=>okO (W1 st) fun z=>okO (yb z.1) fun y=>okO (qy y.1) fun x=>nmB sc N mp s i x.1&&jJ y.2.1&&Vc z.2.1&&ie.chk W sc N mp m y.2.1&&ve.chk W sc N mp m z.2.1
 |.raise x,st=>okO (kK st) fun z=>z.2.1.isNone&&okO z.1 fun e=>okO (un1 e) fun (f,_,a,_)=>decide (f=x)&&zg6 W sc x&&okO (vh a) fun c=>okO (zgX c.1) fun _=>true
 |.aug s i e,st=>okO (zff st) fun z=>okO (qy z.1) fun x=>decide (z.2.1=.Add)&&nmB sc N mp s i x.1&&zb6 sc x.1&&e.chk W sc N mp m z.2.2.1
 |.star s i t j e,st=>okO (W1 st) fun z=>okO (zb0 z.1) fun w=>okO (zaq w.1) fun ab=>okO (qy ab.1) fun x=>okO (zfh ab.2) fun c=>okO (qy c.1) fun y=>decide (N[s]?=some x.1)&&decide (mp[s]?=some i)&&zb6 sc x.1&&decide (N[t]?=some y.1)&&decide (mp[t]?=some j)&&zb6 sc y.1&&qq z.2.1&&e.chk W sc N mp m z.2.1
noncomputable def IB.chk(W:Wd)(sc:Scope)(N:List Str)(mp:List Nat)(m np:Nat):IB->List Stmt->Bool
 |.nil,[]=>true
 |.cons s b,x::xs=>s.chk W sc N mp m np x&&b.chk W sc N mp m np xs
 |_,_=>false
end
theorem wD{e:Expr}{t:Option Expr}{l:Nat}{env:Env}(h:qq e=true):swapsWith e t l env=pure false:=by
 cases e<;>first | rfl | (simp[qq]at h)
theorem ZS{t e:Expr}{l:Nat}{env:Env}(h:qq e=true):swapsWithSole [t] e l env=pure false:=wD (t:=some t) h
theorem Zm{t e:Expr}{env:Env}(h:qq e=true):swappedStores [t] e env=pure none:=by
 cases e<;>first | (cases t<;>rfl) | (simp[qq]at h)
theorem WX{x y e:Expr}{p:Pos}{l:Nat}{env:Env}(h:Vc e=true):swapsWithSole [.Subscript x y p] e l env=pure false:=by
 show swapsWith e (some (.Subscript x y p)) l env=pure false
 cases e<;>first | rfl | (simp[Vc]at h)
theorem Wj{x y e:Expr}{p:Pos}{env:Env}:swappedStores [.Subscript x y p] e env=pure none:=by
 cases e<;>rfl
theorem zaz{o:IO}{e:Expr}{x:Str}{p:Pos}{l:Nat}{env:Env}(h:wL o e=true)(hn:∀ a b c d,e≠ .ListComp a b c d):swapsWith e (some (.Name x p)) l env=pure false:=by
 cases e with
 |ListComp a b c d=>exact absurd rfl (hn a b c d)
 |SetComp=>simp[wL]at h
 |DictComp=>simp[wL]at h
 |_=>rfl
theorem Yx{elt:Expr}{gens:List Comprehension}{scope:Scope}{q:Pos}{x:Str}{p:Pos}{l:Nat}{env:Env}:∃ b:Bool,swapsWith (.ListComp elt gens scope q) (some (.Name x p)) l env=pure b:=⟨_,rfl⟩
theorem YW{o b:Expr}{p:Pos}{env:Env}(h:jJ b=true)(v:Value):assign (.Subscript o b p) env v=(do
  let ov<-holding [v] (eval o env)
  let iv<-holding [v,ov] (eval b env)
  standAt p
  holding [v,ov,iv] (setItem ov iv v)
  release [v,ov,iv] []):=by
 cases b<;>first | rfl | (simp[jJ]at h)
structure XB(X:Cx)(XP:XPT)(mp io:List Nat)(np:Nat):Prop where
 po:PassesOwn (model X.prog X.w) X.A X.env X.xe
 nd:X.N.Nodup
 mn:mp.Nodup
 io:∀ i∈io,i<np
 rz:zhT X XP
 sk:X.stack=X.env::X.outer
 fr:X.env.frame=some X.env.locals
noncomputable abbrev QS(cf:CF)(W:Wd)(a:IS):Prop:=∀ (X:Cx) (XP:XPT) (k:Nat) (sc:Scope) (N:List Str) (mp:List Nat) (m np:Nat) (io:List Nat),XSc X sc N->XW X cf W k->XB X XP mp io np->∀ (e:Stmt),a.chk W sc N mp m np e=true->SS X XP mp io e (a.ex cf io)
noncomputable abbrev QB(cf:CF)(W:Wd)(a:IB):Prop:=∀ (X:Cx) (XP:XPT) (k:Nat) (sc:Scope) (N:List Str) (mp:List Nat) (m np:Nat) (io:List Nat),XSc X sc N->XW X cf W k->XB X XP mp io np->∀ (e:List Stmt),a.chk W sc N mp m np e=true->SB X XP mp io e (a.ex cf io)
section
variable {cf:CF} {W:Wd}
theorem zds:QS cf W .pass:=by
 intro X XP k sc N mp m np io S T B e g0
 simp only[IS.chk]at g0
 obtain⟨p,eu,_⟩:=zg g0
 cases Yw eu
 exact zdA
theorem zgv:QS cf W .bad:=fun X XP k sc N mp m np io S T B e h=>zfz
theorem zgc(s i:Nat)(o:IO):QS cf W (.asg s i o):=by
 intro X XP k sc N mp m np io S T B st g0
 simp only[IS.chk]at g0
 obtain⟨⟨tx,e,q⟩,eu,g1⟩:=zg g0
 obtain⟨⟨x,p⟩,ex,h⟩:=zg g1
 ·cases Zw eu
  cases zM ex
  simp only[xa,xL,decide_eq_true_eq]at h
  obtain⟨⟨⟨⟨h1,h2⟩,h3⟩,h4⟩,h5⟩:=h
  have hi:X.N[s]?=some x:=by rw[S.hN];exact h1
  have hx:Loc X.env.scope x:=by
   rcases h3 with h3 | h3
   ·exact .inl (S.loc x h3)
   ·exact .inr (S.cel x h3).1
  have hf:X.fn x=true∨X.env.scope.names.lookup x=some .local:=by
   rcases h3 with h3 | h3
   ·exact .inr (S.loc x h3)
   ·exact .inl (S.cel x h3).2
  have plain:swapsWith e (some (.Name x p)) q.line X.env=pure false->SS X XP mp io (.Assign [.Name x p] e q) (sAsg io i (o.ev cf)):=fun hsw=>
   zgT B.nd hi hx hf B.mn h2 (ze3 cf W o _ XP _ _ _ _ _ S T e h5) hsw
  by_cases hl:∃ a b c d,e=.ListComp a b c d
  ·obtain⟨elt,gens,scope,pc,rfl⟩:=hl
   obtain⟨bb,hb⟩:=Yx (elt:=elt) (gens:=gens) (scope:=scope) (q:=pc) (x:=x) (p:=p) (l:=q.line) (env:=X.env)
   cases bb with
   |false=>exact plain hb
   |true=>
    have go:∀ (n:IN),n.chk W sc N mp m (.ListComp elt gens scope pc)=true->∀ (fo:EM OV),(∀ t,SNt XP mp t (n.ev cf)->SOt XP mp t fo)->SS X XP mp io (.Assign [.Name x p] (.ListComp elt gens scope pc) q) (sAsg io i fo):=fun n hn fo hfo=>by
     obtain⟨tg,iter,ifs,N',kk,ix,rfl,C,hfold,hs⟩:=(zih cf W n _ XP _ _ _ _ _ S T _ hn).2 elt gens scope pc rfl
     exact km (zd4 B.nd hi hx T.calm C hb hfold hf) B.mn h2 (xc.mp hi).1 (hfo _ hs)
    cases o with
    |own n=>exact go n h5 _ fun t ht=>ht.so
    |dat a=>
     cases a with
     |new n=>exact go n (by simp only[IO.chk,IE.chk,xa]at h5;exact h5.2) _ fun t ht=>ht.sd
     |_=>simp[wL,J6]at h4
    |call _ _ _=>simp[wL,J6]at h4
    |move _ _=>simp[wL,J6]at h4
  ·exact plain (zaz h4 fun a b c d z=>hl ⟨a,b,c,d,z⟩)
theorem zdD(t:IT)(e:IE):QS cf W (.asgT t e):=by
 intro X XP k sc N mp m np io S T B st g0
 simp only[IS.chk]at g0
 obtain⟨⟨tx,x,q⟩,eu,h⟩:=zg g0
 simp only[xa]at h
 obtain⟨⟨⟨h0,h1⟩,h2⟩,h3⟩:=h
 cases Zw eu
 cases tx with
 |Tuple ts n p=>
  have hg:=J9 (kp:=(·∈io)) S (by rw[<- S.hN];exact B.nd) B.mn T.calm (fun i hi hm=>absurd (B.io i hm) (by omega)) t _ h2
  exact zc4 (Qs cf W e _ XP _ _ _ _ _ S T x h3).1 hg (ZS h1) (Zm h1) (YR zf VJ (ZS h1) (Zm h1))
 |_=>cases h0
theorem zdp(a:IE):QS cf W (.expr a):=by
 intro X XP k sc N mp m np io S T B e g0
 simp only[IS.chk]at g0
 obtain⟨⟨x,p⟩,eu,h⟩:=zg g0
 cases Wm eu
 rw[xa]at h
 exact zdH (Qs cf W a _ XP _ _ _ _ _ S T x h.2).1 (wD h.1)
theorem zfT(c:IE)(a b:IB)(ih_a:QB cf W a)(ih_b:QB cf W b):QS cf W (.ite c a b):=by
 intro X XP k sc N mp m np io S T B e g0
 simp only[IS.chk]at g0
 obtain⟨⟨x,xs,ys,p⟩,eu,h⟩:=zg g0
 cases zb3 eu
 simp only[xa]at h
 obtain⟨⟨h1,h2⟩,h3⟩:=h
 exact zhH (Qs cf W c _ XP _ _ _ _ _ S T x h1).2 (ih_a _ XP _ _ _ _ _ _ _ S T B xs h2) (ih_b _ XP _ _ _ _ _ _ _ S T B ys h3)
theorem zdY(t:IT)(src:II)(b:IB)(ih_b:QB cf W b):QS cf W (.loop t src b):=by
 intro X XP k sc N mp m np io S T B e g0
 simp only[IS.chk]at g0
 obtain⟨⟨tg,iter,body,els,p⟩,eu,h⟩:=zg g0
 cases KS eu
 simp only[xa]at h
 obtain⟨⟨⟨⟨h0,h1⟩,h2⟩,h3⟩,h4⟩:=h
 cases els with
 |cons _ _=>cases h0
 |nil=>
  have hg:=J9 (kp:=(·∈io)) S (by rw[<- S.hN];exact B.nd) B.mn T.calm (fun i hi hm=>absurd (B.io i hm) (by omega)) t _ h2
  exact zho B.po T.calm (zic cf W src _ XP _ _ _ _ _ S T tg iter h3) hg (ih_b _ XP _ _ _ _ _ _ _ S T B body h4) (Jx h1)
theorem zhV(n:Nat)(c:IE)(b:IB)(ih_b:QB cf W b):QS cf W (.wh n c b):=by
 intro X XP k sc N mp m np io S T B e g0
 simp only[IS.chk]at g0
 obtain⟨⟨x,body,els,p⟩,eu,h⟩:=zg g0
 cases yO eu
 simp only[xa]at h
 obtain⟨⟨h0,h1⟩,h2⟩:=h
 cases els with
 |cons _ _=>cases h0
 |nil=>exact zcQ B.po (Qs cf W c _ XP _ _ _ _ _ S T x h1).2 (ih_b _ XP _ _ _ _ _ _ _ S T B body h2)
theorem zgq(o:IO):QS cf W (.ret o):=by
 intro X XP k sc N mp m np io S T B e g0
 simp only[IS.chk]at g0
 obtain⟨⟨x,p⟩,eu,g1⟩:=zg g0
 obtain⟨y,ey,h⟩:=zg g1
 cases Kt eu
 cases ey
 exact zf5 (ze3 cf W o _ XP _ _ _ _ _ S T y h)
theorem zgH(s i:Nat)(e:IE):QS cf W (.app s i e):=by
 intro X XP k sc N mp m np io S T B st g0
 simp only[IS.chk]at g0
 obtain⟨⟨x,p,f,p2,xs,q,q2⟩,eu,g1⟩:=zg g0
 obtain⟨a,ea,h⟩:=zg g1
 cases KY eu
 cases q8 ea
 simp only[xa,decide_eq_true_eq]at h
 obtain⟨⟨⟨⟨h1,h2⟩,h3⟩,h4⟩,h5⟩:=h
 subst h2
 exact zfu (wm S h1) (Qs cf W e _ XP _ _ _ _ _ S T a h5).1 (zr h3) h4
theorem zhg(s i:Nat)(ie ve:IE):QS cf W (.set s i ie ve):=by
 intro X XP k sc N mp m np io S T B st g0
 simp only[IS.chk]at g0
 obtain⟨⟨tx,a,q⟩,eu,g1⟩:=zg g0
 obtain⟨⟨tn,b,p2⟩,et,g2⟩:=zg g1
 obtain⟨⟨x,p⟩,ex,h⟩:=zg g2
 cases Zw eu
 cases Jk et
 cases zM ex
 simp only[xa]at h
 obtain⟨⟨⟨⟨h1,h2⟩,h3⟩,h4⟩,h5⟩:=h
 exact zf2 (wm S h1) (Qs cf W ie _ XP _ _ _ _ _ S T b h4).1 (Qs cf W ve _ XP _ _ _ _ _ S T a h5).1 (WX h3) Wj (fun he hg=>YR he hg (WX h3) Wj) (fun ho hi hs=>zgM ho hi hs (YW h2))
theorem YA{X:Cx}{sc:Scope}{N:List Str}{x:Str}(S:XSc X sc N)(h:zb6 sc x=true):Loc X.env.scope x/\(X.fn x=true∨X.env.scope.names.lookup x=some .local):=by
 unfold zb6 at h
 simp only[xL,decide_eq_true_eq]at h
 rcases h with h | h
 ·exact⟨.inl (S.loc x h),.inr (S.loc x h)⟩
 ·exact⟨.inr (S.cel x h).1,.inl (S.cel x h).2⟩
theorem zfD{X:Cx}{sc:Scope}{N:List Str}{x:Str}{k:Nat}(S:XSc X sc N)(T:XW X cf W k)(h:zg6 W sc x=true):∃ C,KC X x C/\W.ex.contains x=true:=by
 unfold zg6 at h
 simp only[xa]at h
 obtain⟨⟨h1,h2⟩,h3⟩:=h
 obtain⟨C,e1,e2⟩:=T.ex x h2
 exact⟨C,⟨S.glo x h1,e1,e2,wt h3⟩,h2⟩
theorem zbV(x:Str):QS cf W (.raise x):=by
 intro X XP k sc N mp m np io S T B st g0
 simp only[IS.chk]at g0
 obtain⟨⟨ee,cz,p⟩,eu,g1⟩:=zg g0
 simp only[xa]at g1
 obtain⟨g1,g2⟩:=g1
 obtain⟨e,ee1,g3⟩:=zg g2
 obtain⟨⟨f,p1,a,p2⟩,ea,g4⟩:=zg g3
 simp only[xa,decide_eq_true_eq]at g4
 obtain⟨⟨h1,h2⟩,g5⟩:=g4
 obtain⟨⟨c,j,p3⟩,ec,g6⟩:=zg g5
 obtain⟨z,ez,_⟩:=zg g6
 cases y6 eu
 cases ee1
 cases zZ ea
 cases jF ec
 cases V2 ez
 subst h1
 cases cz with
 |some _=>cases g1
 |none=>
  obtain⟨C,k,_⟩:=zfD S T h2
  exact zaS k T.calm B.rz
theorem XW.tried{X:Cx}{k:Nat}(T:XW X cf W k)(pins:List (Addr×Obj))(E:Value->Shared->Prop):XW (X.tried pins E) cf W k:=⟨T.bi,T.gi,T.gs,T.fn,T.rm,T.hk,T.calm,T.fx,T.ex,T.mr⟩
theorem XSc.tried{X:Cx}{sc:Scope}{N:List Str}(S:XSc X sc N)(pins:List (Addr×Obj))(E:Value->Shared->Prop):XSc (X.tried pins E) sc N:=⟨S.hN,S.vis,S.loc,S.cel,S.fre,S.glo⟩
theorem zgF(s i:Nat)(e:IE):QS cf W (.aug s i e):=by
 intro X XP k sc N mp m np io S T B st g0
 simp only[IS.chk]at g0
 obtain⟨⟨t,op,v,p⟩,eu,g1⟩:=zg g0
 obtain⟨⟨x,px⟩,ex,h⟩:=zg g1
 simp only[xa,decide_eq_true_eq]at h
 obtain⟨⟨⟨h1,h2⟩,h3⟩,h4⟩:=h
 cases K5 eu
 cases zM ex
 subst h1
 obtain⟨l1,l2⟩:=YA S h3
 exact zfY (wm S h2) B.nd l1 l2 (Qs cf W e _ XP _ _ _ _ _ S T v h4).1
theorem zdq(s i t j:Nat)(e:IE):QS cf W (.star s i t j e):=by
 intro X XP k sc N mp m np io S T B st g0
 simp only[IS.chk]at g0
 obtain⟨⟨tg,v,p⟩,eu,g1⟩:=zg g0
 obtain⟨⟨es,kk,p2⟩,et,g2⟩:=zg g1
 obtain⟨⟨a,b⟩,eab,g3⟩:=zg g2
 obtain⟨⟨x,px⟩,ex,g4⟩:=zg g3
 obtain⟨⟨c,pc⟩,ec,g5⟩:=zg g4
 obtain⟨⟨y,py⟩,ey,h⟩:=zg g5
 simp only[xa,decide_eq_true_eq]at h
 obtain⟨⟨⟨⟨⟨⟨⟨h1,h2⟩,h3⟩,h4⟩,h5⟩,h6⟩,h7⟩,h8⟩:=h
 cases Zw eu
 cases W8 et
 cases Qp eab
 cases zM ex
 cases zam ec
 cases zM ey
 obtain⟨l1,l2⟩:=YA S h3
 obtain⟨l3,l4⟩:=YA S h6
 exact zdo T.calm B.nd B.mn (by rw[S.hN];exact h1) l1 l2 h2 (by rw[S.hN];exact h4) l3 l4 h5 (Qs cf W e _ XP _ _ _ _ _ S T v h8).1 (ZS h7) (Zm h7)
theorem zfO:QB cf W .nil:=by
 intro X XP k sc N mp m np io S T B e h
 cases e with
 |nil=>exact zft
 |cons _ _=>simp[IB.chk]at h
theorem zfv{X:Cx}{XP:XPT}{mp io:List Nat}{st:Stmt}{f:SM}(h:SS X XP mp io st f):SB X XP mp io [st] f:=fun M0 F Γ ν σ H D rs hs hl hp=>(Vp kU).wp (h M0 F Γ ν σ H D rs hs hl hp)
theorem zeh(s:IS)(b:IB)(ih_s:QS cf W s)(ih_b:QB cf W b):QB cf W (.cons s b):=by
 intro X XP k sc N mp m np io S T B e h
 cases e with
 |nil=>simp[IB.chk]at h
 |cons x xs=>
  simp only[IB.chk,xa]at h
  have h1:=ih_s _ XP _ _ _ _ _ _ _ S T B x h.1
  have h2:=ih_b _ XP _ _ _ _ _ _ _ S T B xs h.2
  cases b with
  |nil=>
   cases xs with
   |nil=>exact zfv h1
   |cons _ _=>simp[IB.chk]at h
  |cons s' b'=>exact zez h1 h2
theorem zcI(cf:CF)(W:Wd)(a:IB):QB cf W a :=
 IB.rec (motive_1:=QS cf W) (motive_2:=QB cf W) zds zgv zgc zdD zdp zfT zdY zhV zgq zgH zhg zbV zgF zdq zfO zeh a
end
end L3
set_option maxHeartbeats 4000000
namespace L3
open PySem PySem.Spec PyProof.Rows L2
structure DefI where
 name:Str
 st:Stmt
 ps:List Str
 N:List Str
 mask:List Bool
 io:List Nat
 body:IB
noncomputable def outs:List Bool->Gv->List (Option OV)
 |[],_=> []
 |_::bs,[]=>none::outs bs []
 |b::bs,x::Γ=>(if b then x else none)::outs bs Γ
theorem Wf:∀ (bs:List Bool) (Γ:Gv),(outs bs Γ).length=bs.length
 |[],_=>rfl
 |_::bs,[]=>by rw[outs,xk,Wf,xk]
 |b::bs,x::Γ=>by rw[outs,xk,Wf,xk]
theorem w4:∀ {bs:List Bool}{Γ:Gv}{j:Nat}{o:OV},(outs bs Γ)[j]?=some (some o)->bs[j]?=some true/\Γ[j]?=some (some o)
 |[],_,_,_,h=>by simp[outs]at h
 |b::bs,[],0,_,h=>by simp[outs]at h
 |b::bs,[],j+1,o,h=>by
  have:=w4 (bs:=bs) (Γ:= []) (j:=j) (o:=o) (by simpa [outs] using h)
  simp at this
 |b::bs,x::Γ,0,o,h=>by
  simp only[outs,List.getElem?_cons_zero,Option.some.injEq]at h
  split at h
  ·rename_i hb;subst h;exact⟨by simp[hb],rfl⟩
  ·cases h
 |b::bs,x::Γ,j+1,o,h=>by
  have:=w4 (bs:=bs) (Γ:=Γ) (j:=j) (o:=o) (by simpa [outs] using h)
  simpa using this
noncomputable def fin(mask:List Bool):R (FL×Gv)->RF
 |.ok (.ret o,Γ)=>.ok o (outs mask Γ)
 |.ok (.next,Γ)=>.ok (.d .none) (outs mask Γ)
 |.exc x _=>.exc x []
 |_=>.bad
noncomputable def DefI.run(d:DefI)(cf:CF)(args:List OV):RF:=if args.length=d.mask.length then fin d.mask (d.body.ex cf d.io (args.map some++List.replicate (d.N.length-d.mask.length) none)) else .bad
theorem DefI.run_len{d:DefI}{cf:CF}{args:List OV}{r:OV}{o:List (Option OV)}(h:d.run cf args=.ok r o):args.length=d.mask.length:=by
 unfold DefI.run at h
 split at h
 ·assumption
 ·cases h
theorem DefI.run_lenX{d:DefI}{cf:CF}{args:List OV}(h:d.run cf args≠ .bad):args.length=d.mask.length:=by
 unfold DefI.run at h
 split at h
 ·assumption
 ·exact absurd rfl h
noncomputable def ze(defs:List DefI):Nat->CF
 |0,_,_=>.bad
 |n+1,x,args=>match defs.find? fun d=>decide (d.name=x) with
  |some d=>d.run (ze defs n) args
  |none=>.bad
section
variable {M0:Addr->Prop} {F:Fp} {Γ:Gv} {ν:Nu} {H:Hp}
theorem RS.outs{o:OV}{v:V}{mask:List Bool}{us:List V}(r:RS M0 F (Γ++ [some o]) (ν++ [some v]) H)(hu:us.length=mask.length)(hν:∀ j:Nat,mask[j]?=some true->ν[j]?=(us[j]?).map some) :
  ∃ F',RS M0 F' (outs mask Γ++ [some o]) (us.map some++ [some v]) H/\Stp F H F' H:=by
 have hνl:ν.length=Γ.length:=by have:=r.len;simpa using this
 have hjl:∀ j:Nat,mask[j]?=some true->j<Γ.length:=fun j hj=>by
  have h1:j<us.length:=by rw[hu];exact (xc.mp hj).1
  have h2:=hν j hj
  rw[xb h1]at h2
  have:=(xc.mp h2).1
  omega
 let n:=mask.length
 let F':Fp:=fun j=>if j<n then (if mask[j]?=some true then F j else []) else if j=n then F Γ.length else []
 have g1:∀ j,j<n->mask[j]?=some true->F' j=F j:=fun j h1 h2=>by show (if j<n then _ else _)=_;rw[if_pos h1,if_pos h2]
 have g2:∀ j,j<n->mask[j]?≠some true->F' j= []:=fun j h1 h2=>by show (if j<n then _ else _)=_;rw[if_pos h1,if_neg h2]
 have g3:F' n=F Γ.length:=by show (if n<n then _ else _)=_;rw[if_neg (uc _),if_pos rfl]
 have g4:∀ j,n<j->F' j= []:=fun j h=>by show (if j<n then _ else _)=_;rw[if_neg (by omega),if_neg (by omega)]
 have cls:∀ j a,a∈F' j->(j<n/\mask[j]?=some true/\a∈F j)∨(j=n/\a∈F Γ.length):=fun j a h=>by
  by_cases h1:j<n
  ·by_cases h2:mask[j]?=some true
   ·rw[g1 j h1 h2]at h;exact .inl ⟨h1,h2,h⟩
   ·rw[g2 j h1 h2]at h;cases h
  ·by_cases h2:j=n
   ·subst h2;rw[g3]at h;exact .inr ⟨rfl,h⟩
   ·rw[g4 j (by omega)]at h;cases h
 have st:Stp F H F' H:=Zu fun j a h=>by
  rcases cls j a h with ⟨_,_,h⟩ | ⟨_,h⟩
  ·exact⟨_,h⟩
  ·exact⟨_,h⟩
 have hol:(L3.outs mask Γ).length=n:=Wf _ _
 refine⟨F',⟨r.al0,fun j a h=>?_,fun j=>?_,fun j k a h1 h2=>?_,fun j p e=>?_,fun j h=>?_,by simp[hol,hu,n]⟩,st⟩
 ·rcases cls j a h with ⟨_,_,h⟩ | ⟨_,h⟩
  ·exact r.dis0 _ a h
  ·exact r.dis0 _ a h
 ·by_cases h1:j<n
  ·by_cases h2:mask[j]?=some true
   ·rw[g1 j h1 h2];exact r.nd _
   ·rw[g2 j h1 h2];exact .nil
  ·by_cases h2:j=n
   ·subst h2;rw[g3];exact r.nd _
   ·rw[g4 j (by omega)];exact .nil
 ·rcases cls j a h1 with ⟨l1,m1,z1⟩ | ⟨rfl,z1⟩
  ·rcases cls k a h2 with ⟨l2,m2,z2⟩ | ⟨rfl,z2⟩
   ·exact r.dis _ _ a z1 z2
   ·have:=r.dis _ _ a z1 z2;have:=hjl _ m1;omega
  ·rcases cls k a h2 with ⟨l2,m2,z2⟩ | ⟨rfl,z2⟩
   ·have:=r.dis _ _ a z1 z2;have:=hjl _ m2;omega
   ·rfl
 ·by_cases hj:j<n
  ·rw[xf (by omega)]at e
   obtain⟨hm,hg⟩:=w4 e
   have hjj:=hjl j hm
   obtain⟨w,ew,q⟩:=r.at' j p (by rw[xf (by omega)];exact hg)
   rw[xf (by omega),hν j hm]at ew
   refine⟨w,?_,?_⟩
   ·rw[xf (by simp[hu];exact hj),xh];exact ew
   ·rw[g1 j hj hm];exact q.go (fun _ _ x=>zJ st r.al0 x) fun _ _=>rfl
  ·have hjn:j=n:=by
    have:=(xc.mp e).1
    simp[hol]at this;omega
   subst hjn
   rw[xg (by omega),hol]at e
   have:o=p:=by simpa using e
   subst this
   obtain⟨w,ew,q⟩:=r.at' Γ.length o (by rw[xg (xm _)];simp)
   rw[xg (by omega),hνl]at ew
   have:v=w:=by simpa using ew
   subst this
   refine⟨v,?_,?_⟩
   ·rw[xg (by simp[hu,n]),xi,hu];simp[n]
   ·rw[g3];exact q.go (fun _ _ x=>zJ st r.al0 x) fun _ _=>rfl
 ·by_cases hj:j<n
  ·by_cases hm:mask[j]?=some true
   ·rw[g1 j hj hm]
    have hjj:=hjl j hm
    refine r.emp j fun p ep=>?_
    rw[xf (by omega)]at ep
    refine h p ?_
    rw[xf (by omega)]
    exact outs_put hm ep
   ·exact g2 j hj hm
  ·by_cases hjn:j=n
   ·subst hjn
    exact absurd (by rw[xg (by omega),hol];simp[n]) (h o)
   ·exact g4 j (by omega)
where
 outs_put:∀ {bs:List Bool} {Γ:Gv} {j:Nat} {o:OV},bs[j]?=some true->Γ[j]?=some (some o)->(L3.outs bs Γ)[j]?=some (some o)
  |[],_,_,_,h,_=>by simp at h
  |b::bs,[],_,_,_,h=>by simp at h
  |b::bs,x::Γ,0,o,h,e=>by
   simp at h e
   subst h e
   simp[L3.outs]
  |b::bs,x::Γ,j+1,o,h,e=>by
   have:=outs_put (bs:=bs) (Γ:=Γ) (j:=j) (o:=o) (by simpa using h) (by simpa using e)
   simpa [L3.outs] using this
end
noncomputable def w9(N ps:List Str)(sc:Scope):Bool:=decide (sc.kind=.function)&& !sc.isCoroutine&& !sc.isGenerator&&decide N.Nodup&&decide (N.take ps.length=ps)&&ps.all (fun x=>decide (sc.names.lookup x=some .local)||decide (sc.names.lookup x=some .cell))&&sc.names.all (fun y=>decide (y.2≠ .free))
theorem Zc{N ps:List Str}{sc:Scope}(h:w9 N ps sc=true):qQ N ps sc:=by
 unfold w9 at h
 simp only[xa,decide_eq_true_eq,xA,xL,Bool.not_eq_true']at h
 obtain⟨⟨⟨⟨⟨⟨h1,h2⟩,h3⟩,h4⟩,h5⟩,h6⟩,h7⟩:=h
 exact⟨h1,h2,h3,h4,h5,h6,h7⟩
noncomputable def DefI.ok(W:Wd)(d:DefI):Bool:=w9 d.N d.ps (defScope d.st)&&decide (d.ps.length=d.mask.length)&&d.io.all (fun i=>decide (d.mask[i]?=some true))&&(List.range d.mask.length).all (fun j=>decide (d.mask[j]?≠some true)||d.io.contains j)
 && d.body.chk W (defScope d.st) d.N (List.range d.N.length) d.N.length d.mask.length (defBody d.st)
structure WK(P:Program)(w:World)(K:PySem.W.Frag)(mg:Str->Option Value)(base:Heap)(cf:CF)(W:Wd)(k:Nat):Prop where
 bi:∀ x,W.bi.contains x=true->mg x=none
 gi:∀ x i,W.gi.contains (x,i)=true->∃ t,mg x=some (.int i t)
 gs:∀ x i,W.gs.contains (x,i)=true->∃ t,mg x=some (.str i t)
 fn:∀ x n,W.fl.contains (x,n)=true->Kn P w K mg base CX0 x k (spI n (cf x))/\∀ args r outs,cf x args=.ok r outs->args.length=n
 fx:∀ x n,W.fx.contains (x,n)=true->Kn P w K mg base (CX1 P w) x k (spX mg n (cf x))/\∀ args,cf x args≠ .bad->args.length=n
 ex:∀ x,W.ex.contains x=true->∃ C,mg x=some (.ref C)/\PySem.W.excIn K C bmV "ValueError.__new__" =true
 mr:∀ x C y C2,W.ex.contains x=true->mg x=some (.ref C)->W.ex.contains y=true->mg y=some (.ref C2)->(mroIn K C).contains (.ref C2)=decide (x=y)
section
variable {P:Program} {w:World} {K:PySem.W.Frag} {mg:Str->Option Value} {base:Heap} {cf:CF} {W:Wd} {k:Nat}
theorem zb2{N:List Str}{x:Str}{sc:Scope}{f:Addr}{cdv:Value}{A:Around}{outer:List Env}{s:Shared}{H:Hp}{E:XK}:XSc (Z2 CX0 P w K mg base N x sc f cdv A outer s H E).nox sc N where
 hN:=rfl
 vis x h:=by
  unfold zcA at h
  simp only[xL,decide_eq_true_eq]at h
  rcases h with (h | h) | h
  ·exact .inl h
  ·exact .inr (.inl h)
  ·exact .inr (.inr h)
 loc x h:=h
 cel x h:=⟨h,rfl⟩
 fre x h:=.inr h
 glo x h:=by
  unfold VZ at h
  simp only[decide_eq_true_eq]at h
  exact h
theorem zeA{N:List Str}{x:Str}{sc:Scope}{f:Addr}{cdv:Value}{A:Around}{outer:List Env}{s:Shared}{H:Hp}{E:XK}:XSc (Z2 (CX1 P w) P w K mg base N x sc f cdv A outer s H E) sc N where
 hN:=rfl
 vis x h:=by
  unfold zcA at h
  simp only[xL,decide_eq_true_eq]at h
  rcases h with (h | h) | h
  ·exact .inl h
  ·exact .inr (.inl h)
  ·exact .inr (.inr h)
 loc x h:=h
 cel x h:=⟨h,rfl⟩
 fre x h:=.inr h
 glo x h:=by
  unfold VZ at h
  simp only[decide_eq_true_eq]at h
  exact h
theorem Km{n:Nat}{ν:Nu}:Sees (List.range n) ν ν:=fun s i v e1 e2=>by
 have hs:s<n:=by
  have:=(xc.mp e1).1
  simpa using this
 rw[xY hs]at e1
 cases e1
 exact e2
theorem zhf{d:DefI}(D:Df K mg d.name d.st d.ps)(hok:d.ok W=true)(T:WK P w K mg base cf W k)(hk:1<=k):Kn P w K mg base CX0 d.name (k+1) (spI d.mask.length (d.run cf)):=by
 unfold DefI.ok at hok
 simp only[xa,decide_eq_true_eq,xA,xL]at hok
 obtain⟨⟨⟨⟨h1,h2⟩,h3⟩,h4⟩,h5⟩:=hok
 have S:=Zc h1
 have hNl:d.mask.length<=d.N.length:=by
  have:=congrArg List.length S.pre
  rw[xW]at this;omega
 refine D.kn S (fun vs H Q E h=>by rw[h.1,h2]) fun f cdv A outer s H vs Q E hr hsp=>?_
 obtain⟨hv,M0,F,args,rs,hm⟩:=hsp
 have hal:args.length=d.mask.length:=by have:=rs.len;simpa [hv] using this.symm
 have rs1:=rs.ext (d.N.length-d.mask.length)
 have hst:L2.start d.N vs=vs.map some++List.replicate (d.N.length-d.mask.length) none:=by unfold L2.start;rw[hv]
 rw[hst]
 have hsl:(vs.map some++List.replicate (d.N.length-d.mask.length) none:L2.St).length=d.N.length:=by simp[hv];omega
 refine zcI cf W d.body (Z2 CX0 P w K mg base d.N d.name (defScope d.st) f cdv A outer s H E).nox XP0 k (defScope d.st) d.N (List.range d.N.length) d.N.length d.mask.length d.io zb2
  ⟨T.bi,T.gi,T.gs,T.fn,hr,hk,rfl,T.fx,T.ex,T.mr⟩ ⟨PassesOwn.never,S.nd,uV,fun i hi=>?_,(fun _ _ _ _ _ _ h=>h.elim),rfl,rfl⟩ (defBody d.st) h5 M0 F _ _ _ H _ rs1 Km hsl ?_
 ·exact (xc.mp (h3 i hi)).1
 ·have back:∀ {F':Fp} {Γ':Gv} {ν':Nu} {o:OV} {v:V} {H':Hp},RS M0 F' (Γ'++ [some o]) (ν'++ [some v]) H'->(∀ i∈d.io,ν'[i]?=(vs.map some++List.replicate (d.N.length-d.mask.length) none:Nu)[i]?)->Stp F H F' H' ->
    (∀ F' v H',RS M0 F' (outs d.mask Γ'++ [some o]) (vs.map some++ [some v]) H'->Stp F H F' H'->Q v H')->Q v H':=fun {F' Γ' ν' o v H'} r' hn s' hq=>by
   obtain⟨F2,r2,s2⟩:=r'.outs hv fun j hj=>by
    have hjl:j<d.mask.length:=(xc.mp hj).1
    have hjm:j∈d.io:=by
     rcases h4 j (xE.mpr hjl)with z | z
     ·exact absurd hj z
     ·simpa using z
    rw[hn j hjm,xf (by simp[hv];exact hjl),xh]
   exact hq F2 v H' r2 (s'.trans s2)
  unfold DefI.run at hm
  rw[if_pos hal]at hm
  generalize d.body.ex cf d.io (args.map some++List.replicate (d.N.length-d.mask.length) none)=rr at hm
  cases rr with
  |bad=>exact hm.elim
  |exc x y=>exact hm.elim
  |ok z=>
   obtain⟨fl,Γ'⟩:=z
   cases fl with
   |brk=>exact hm.elim
   |cnt=>exact hm.elim
   |next=>
    intro F' ν' σ' H' r' s' hs' hl' hn
    exact back (r'.newD .none) hn s' hm
   |ret o=>
    intro F' ν' v H' r' s' hn
    exact back r' hn s' hm
theorem zeX{d:DefI}(D:Df K mg d.name d.st d.ps)(hok:d.ok W=true)(T:WK P w K mg base cf W k)(hk:1<=k):Kn P w K mg base (CX1 P w) d.name (k+1) (spX mg d.mask.length (d.run cf)):=by
 unfold DefI.ok at hok
 simp only[xa,decide_eq_true_eq,xA,xL]at hok
 obtain⟨⟨⟨⟨h1,h2⟩,h3⟩,h4⟩,h5⟩:=hok
 have S:=Zc h1
 have hNl:d.mask.length<=d.N.length:=by
  have:=congrArg List.length S.pre
  rw[xW]at this;omega
 refine D.knX S (fun vs H Q E h=>by rw[h.1,h2]) fun f cdv A outer s H vs Q E hr hsp=>?_
 obtain⟨hv,M0,F,args,rs,hm⟩:=hsp
 have hal:args.length=d.mask.length:=by have:=rs.len;simpa [hv] using this.symm
 have rs1:=rs.ext (d.N.length-d.mask.length)
 have hst:L2.start d.N vs=vs.map some++List.replicate (d.N.length-d.mask.length) none:=by unfold L2.start;rw[hv]
 rw[hst]
 have hsl:(vs.map some++List.replicate (d.N.length-d.mask.length) none:L2.St).length=d.N.length:=by simp[hv];omega
 refine zcI cf W d.body (Z2 (CX1 P w) P w K mg base d.N d.name (defScope d.st) f cdv A outer s H E) (fun x _ _ _ _ H'=>∀ C,mg x.cls=some (.ref C)->E (.ref C) none H') k (defScope d.st) d.N (List.range d.N.length) d.N.length d.mask.length d.io zeA
  ⟨T.bi,T.gi,T.gs,T.fn,hr,hk,rfl,T.fx,T.ex,T.mr⟩ ⟨PassesOwn.leaving,S.nd,uV,fun i hi=>?_,(fun x Γ F ν σ H' h C hC pins s1 I h' ea args hm=>yP I rfl rfl rfl hm (h C hC)),rfl,rfl⟩ (defBody d.st) h5 M0 F _ _ _ H _ rs1 Km hsl ?_
 ·exact (xc.mp (h3 i hi)).1
 ·have back:∀ {F':Fp} {Γ':Gv} {ν':Nu} {o:OV} {v:V} {H':Hp},RS M0 F' (Γ'++ [some o]) (ν'++ [some v]) H'->(∀ i∈d.io,ν'[i]?=(vs.map some++List.replicate (d.N.length-d.mask.length) none:Nu)[i]?)->Stp F H F' H' ->
    (∀ F' v H',RS M0 F' (outs d.mask Γ'++ [some o]) (vs.map some++ [some v]) H'->Stp F H F' H'->Q v H')->Q v H':=fun {F' Γ' ν' o v H'} r' hn s' hq=>by
   obtain⟨F2,r2,s2⟩:=r'.outs hv fun j hj=>by
    have hjl:j<d.mask.length:=(xc.mp hj).1
    have hjm:j∈d.io:=by
     rcases h4 j (xE.mpr hjl)with z | z
     ·exact absurd hj z
     ·simpa using z
    rw[hn j hjm,xf (by simp[hv];exact hjl),xh]
   exact hq F2 v H' r2 (s'.trans s2)
  unfold DefI.run at hm
  rw[if_pos hal]at hm
  generalize d.body.ex cf d.io (args.map some++List.replicate (d.N.length-d.mask.length) none)=rr at hm
  cases rr with
  |bad=>exact hm.elim
  |exc x y=>exact fun F' ν' σ' H' r' s' _ _ _ C hC=>hm C hC F' H' s'
  |ok z=>
   obtain⟨fl,Γ'⟩:=z
   cases fl with
   |brk=>exact hm.elim
   |cnt=>exact hm.elim
   |next=>
    intro F' ν' σ' H' r' s' hs' hl' hn
    exact back (r'.newD .none) hn s' hm
   |ret o=>
    intro F' ν' v H' r' s' hn
    exact back r' hn s' hm
theorem zg8{d:DefI}(D:Df K mg d.name d.st d.ps)(S:qQ d.N d.ps (defScope d.st))(h2:d.ps.length=d.mask.length):Kn P w K mg base CX0 d.name 1 (spI d.mask.length fun _=>.bad) :=
 D.kn (k:=0) S (fun vs H Q E h=>by rw[h.1,h2]) fun f cdv A outer s H vs Q E hr hsp=>by
  obtain⟨hv,M0,F,args,rs,hm⟩:=hsp
  exact hm.elim
theorem zeI{d:DefI}(D:Df K mg d.name d.st d.ps)(S:qQ d.N d.ps (defScope d.st))(h2:d.ps.length=d.mask.length):Kn P w K mg base (CX1 P w) d.name 1 (spX mg d.mask.length fun _=>.bad) :=
 D.knX (k:=0) S (fun vs H Q E h=>by rw[h.1,h2]) fun f cdv A outer s H vs Q E hr hsp=>by
  obtain⟨hv,M0,F,args,rs,hm⟩:=hsp
  exact hm.elim
theorem wk_all{defs:List DefI}(hd:∀ d∈defs,Df K mg d.name d.st d.ps/\d.ok W=true)(hfl:∀ x n,W.fl.contains (x,n)=true->∃ d,defs.find? (fun d=>decide (d.name=x))=some d/\d.mask.length=n)(hbi:∀ x,W.bi.contains x=true->mg x=none)
  (hgi:∀ x i,W.gi.contains (x,i)=true->∃ t,mg x=some (.int i t)) (hgs:∀ x i,W.gs.contains (x,i)=true->∃ t,mg x=some (.str i t)) (hfx:∀ x n,W.fx.contains (x,n)=true->∃ d,defs.find? (fun d=>decide (d.name=x))=some d/\d.mask.length=n)
  (hex:∀ x,W.ex.contains x=true->∃ C,mg x=some (.ref C)/\PySem.W.excIn K C bmV "ValueError.__new__" =true) (hmr:∀ x C y C2,W.ex.contains x=true->mg x=some (.ref C)->W.ex.contains y=true->mg y=some (.ref C2)->(mroIn K C).contains (.ref C2)=decide (x=y)):∀ n,WK P w K mg base (ze defs n) W (n+1)
 |0=>⟨hbi,hgi,hgs,fun x n h=>by
   obtain⟨d,e,hl⟩:=hfl x n h
   have hmem:=ur e
   have hnm:d.name=x:=by simpa using uL e
   subst hnm hl
   obtain⟨D,ok⟩:=hd d hmem
   unfold DefI.ok at ok
   simp only[xa,decide_eq_true_eq]at ok
   exact⟨zg8 D (Zc ok.1.1.1.1) ok.1.1.1.2,fun args r outs e=>by cases e⟩,fun x n h=>by
   obtain⟨d,e,hl⟩:=hfx x n h
   have hmem:=ur e
   have hnm:d.name=x:=by simpa using uL e
   subst hnm hl
   obtain⟨D,ok⟩:=hd d hmem
   unfold DefI.ok at ok
   simp only[xa,decide_eq_true_eq]at ok
   exact⟨zeI D (Zc ok.1.1.1.1) ok.1.1.1.2,fun args e=>absurd rfl e⟩,hex,hmr⟩
 |n+1=>⟨hbi,hgi,hgs,fun x m h=>by
   obtain⟨d,e,hl⟩:=hfl x m h
   have hmem:=ur e
   have hnm:d.name=x:=by simpa using uL e
   obtain⟨D,ok⟩:=hd d hmem
   have ih:=wk_all hd hfl hbi hgi hgs hfx hex hmr n
   have ec:ze defs (n+1) x=d.run (ze defs n):=by
    funext args
    rw[ze,e]
   subst hnm hl
   rw[ec]
   exact⟨zhf D ok ih (Nat.le_add_left 1 n),fun args r outs e=>DefI.run_len e⟩,fun x m h=>by
   obtain⟨d,e,hl⟩:=hfx x m h
   have hmem:=ur e
   have hnm:d.name=x:=by simpa using uL e
   obtain⟨D,ok⟩:=hd d hmem
   have ih:=wk_all hd hfl hbi hgi hgs hfx hex hmr n
   have ec:ze defs (n+1) x=d.run (ze defs n):=by
    funext args
    rw[ze,e]
   subst hnm hl
   rw[ec]
   exact⟨zeX D ok ih (Nat.le_add_left 1 n),fun args e=>DefI.run_lenX e⟩,hex,hmr⟩
noncomputable def ZG(cells:List Int)(i l t s:Int):OV:=.l [.d (.list (cells.map .int)),.d (.int i),.d (.int l),.d (.int t),.d (.int s)]
theorem law_ok {st:Stmt}{fa:Addr}{fd:FuncData}{N:List Str}{x:Str}{kb:Nat}{body:IB}{rest:List Stmt}{pos' p3 p2 p pos:Pos}(Fn:Fun K "law" "law" st fa fd) (hS:w9 N ["_law_script"] (defScope st)=true) (hkb:Kn P w K mg base CX0 "_law_box" kb (zbg K)) (hkb2:kb<=k) (T:WK P w K mg base cf W k) (hk:1<=k)
  (hb:defBody st=.Assign [.Name x pos'] (.Call (.Name "_law_box" p3) [.Name "_law_script" p2] [] p) pos::rest) (hN0:N[0]?=some ("_law_script" :Str)) (hN1:N[1]?=some x) (hv0:(defScope st).names.lookup ("_law_script" :Str)=some .local) (hx:Loc (defScope st) x) (hg:(defScope st).names.lookup ("_law_box" :Str)=some .globalImplicit)
  (hchk:body.chk W (defScope st) N (List.range N.length) N.length 0 rest=true)
  (hrun:∀ (cells:List Int) (i l t s:Int),0<=i->∃ Γ',body.ex cf [] (none::some (ZG cells i l t s)::List.replicate (N.length-2) none)=.ok (.ret (.d (.bool true)),Γ')):wC P w K mg base CX0 (k+1) fa fd ["_law_script"] (kI K):=by
 have S:=Zc hS
 refine Fn.law S fun cdv A outer s H Q E a ns hr hSq hlen kk=>?_
 have hl2:2<=N.length:=by have:=(xc.mp hN1).1;omega
 rw[hb]
 refine zhd (X:=(Z2 CX0 P w K mg base N "law" (defScope st) fa cdv A outer s H E).nox) (N:=N) S.nd hkb (hr.mono hkb2) hSq hlen (fun b σ1 H1 s1 nb hB rs1 l1=>?_) rfl hN0 hN1 (.inl hv0) hx (.inl rfl) hg rfl rfl
 obtain⟨c,cells,i,l,t,sd,B⟩:=hB
 have hσ:σ1[1]?=some (some (.ref b)):=rs1.av 1 (.ref b) (by
  rw[xt]
  simp
  exact hl2)
 have hF:∀ j a,a∈jD (fun _=> []) 1 [b] j->j=1/\a=b:=fun j a h=>by
  by_cases hj:j=1
  ·subst hj;rw[zG]at h;exact⟨rfl,by simpa using h⟩
  ·rw[zO hj]at h;cases h
 have hM:∀ a,MM zE (jD (fun _=> []) 1 [b]) a->a=b:=fun a h=>by
  rcases h with h | ⟨j,h⟩
  ·exact h.elim
  ·exact (hF j a h).2
 have rs:RS zE (jD (fun _=> []) 1 [b]) (none::some (ZG cells i l t sd)::List.replicate (N.length-2) none) (none::some (.ref b)::List.replicate (N.length-2) none) H1:=by
  refine⟨fun a h=>h.elim,fun j a h z=>z,fun j=>?_,fun j k a h1 h2=>by rw[(hF j a h1).1,(hF k a h2).1],fun j o e=>?_,fun j h=>?_,by simp⟩
  ·by_cases hj:j=1
   ·subst hj;rw[zG];exact xC.mpr ⟨(fun z=>nomatch z),.nil⟩
   ·rw[zO hj];exact .nil
  ·match j,e with
   |0,e=>simp at e
   |1,e=>
    have e':ZG cells i l t sd=o:=by simpa using e
    subst e'
    refine⟨.ref b,rfl,?_⟩
    rw[zG]
    refine .l B.hb (.cons (A:= []) (.d (B.hc.less fun a ha _=>hM a ha)) (.cons (A:= []) (.d (.int _)) (.cons (A:= []) (.d (.int _)) (.cons (A:= []) (.d (.int _)) (.cons (A:= []) (.d (.int _)) .nil)))))
   |j+2,e=>
    rw[ux,ux,xQ]at e
    split at e<;>cases e
  ·by_cases hj:j=1
   ·subst hj;exact absurd rfl (h (ZG cells i l t sd))
   ·rw[zO hj]
 have sees:Sees (List.range N.length) (none::some (.ref b)::List.replicate (N.length-2) none) σ1:=fun s' j v e1 e2=>by
  have hs:s'<N.length:=by
   have:=(xc.mp e1).1
   simpa using this
  rw[xY hs]at e1
  cases e1
  match s',e2 with
  |0,e2=>simp at e2
  |1,e2=>
   have:V.ref b=v:=by simpa using e2
   subst this;exact hσ
  |j+2,e2=>
   rw[ux,ux,xQ]at e2
   split at e2<;>cases e2
 obtain⟨Γ',er⟩:=hrun cells i l t sd B.hi
 refine zcI cf W body (Z2 CX0 P w K mg base N "law" (defScope st) fa cdv A outer s H E).nox XP0 k (defScope st) N (List.range N.length) N.length 0 [] zb2 ⟨T.bi,T.gi,T.gs,T.fn,hr,hk,rfl,T.fx,T.ex,T.mr⟩ ⟨PassesOwn.never,S.nd,uV,(fun i hi=>nomatch hi),(fun _ _ _ _ _ _ h=>h.elim),rfl,rfl⟩ rest hchk zE _ _ _ σ1 H1 _ rs sees l1 ?_
 rw[er]
 intro F' ν' v H' r' s' hn
 obtain⟨w',ew,q⟩:=r'.at' Γ'.length (.d (.bool true)) (by rw[xg (xm _)];simp)
 have hlen:=r'.len
 have hνl:ν'.length=Γ'.length:=by simpa using hlen
 rw[xg (by omega),hνl]at ew
 have:v=w':=by simpa using ew
 subst this
 generalize F' Γ'.length=Az at q
 cases q with
 |d q=>cases q;exact kk H'
end
end L3
namespace Wx
open PySem L2 L3
noncomputable def p_lacking_1:IC:=(.one (.cmp .Gt (.ix (.var 3 5) (.var 4 1)) (.ix (.var 1 3) (.var 4 1))))
noncomputable def p_lacking_2:IE:=(.var 0 2)
noncomputable def Ji:IB:=(.cons (.ret (.own (.comp 2 4 [1] ["at","stain","waxed","wish","dye"] (.tp (.cons (.nm 0 2) (.cons (.tp (.cons (.nm 1 3) (.cons (.nm 2 4) (.cons (.nm 3 5) .nil)))) .nil))) (.enum (.var 0 0)) p_lacking_1 p_lacking_2))) .nil)
noncomputable def p_needed_1:IC:=(.one (.call (.call "lacking" 2 (.cons (.var 1 0) (.cons (.var 0 2) .nil)))))
noncomputable def p_needed_2:IE:=(.var 0 2)
noncomputable def Qe:IB:=(.cons (.ite (.not (.var 0 0)) (.cons (.ret (.own (.lst .nil))) .nil) .nil) (.cons (.asg 1 1 (.dat (.len (.ix (.ix (.var 0 0) (.cint 0)) (.cint 0))))) (.cons (.ret (.own (.comp 2 1 [0] ["dye","bolt"] (.nm 0 2) (.range (.var 1 1)) p_needed_1 p_needed_2))) .nil)))
noncomputable def j9:IB:=(.cons (.ret (.dat (.and (.isi "int" (.var 0 0)) (.not (.isi "bool" (.var 0 0)))))) .nil)
noncomputable def b_law_wholes_1:IE:=(.call (.call "_law_whole" 1 (.cons (.var 0 1) .nil)))
noncomputable def j5:IB:=(.cons (.ret (.dat (.and (.isi "list" (.var 0 0)) (.all (.new (.comp 1 1 [] ["_law_one"] (.nm 0 1) (.list (.var 0 0)) .yes b_law_wholes_1)))))) .nil)
noncomputable def Zs:IB:=(.cons (.asg 2 2 (.dat (.bin .Mod (.bin .Add (.bin .Add (.bin .Mult (.var 0 0) (.cint 48271)) (.bin .Mult (.var 1 1) (.cint 69621))) (.cint 12345)) (.cint 2147483647)))) (.cons (.asg 3 3 (.dat (.bin .Mod (.bin .Add (.bin .Add (.bin .Mult (.var 2 2) (.bin .Add (.bin .Mod (.var 2 2) (.cint 65521)) (.cint 7))) (.bin .Mult (.var 1 1) (.cint 40692))) (.bin .Mod (.var 0 0) (.cint 104729))) (.cint 998244353)))) (.cons (.ret (.dat (.bin .FloorDiv (.var 3 3) (.cint 7)))) .nil)))
noncomputable def qN:IB:=(.cons (.set 0 0 (.cint 3) (.bin .Add (.ix (.var 0 0) (.cint 3)) (.cint 1))) (.cons (.ite (.cmp .Gt (.ix (.var 0 0) (.cint 2)) (.cint 0)) (.cons (.asg 2 2 (.dat (.ix (.var 0 0) (.cint 2)))) (.cons (.set 0 0 (.cint 2) (.bin .FloorDiv (.var 2 2) (.var 1 1))) (.cons (.ret (.dat (.bin .Mod (.var 2 2) (.var 1 1)))) .nil))) .nil) (.cons (.ite (.cmp .GtE (.ix (.var 0 0) (.cint 1)) (.len (.ix (.var 0 0) (.cint 0)))) (.cons (.ret (.dat (.bin .Mod (.call (.call "_law_mixed" 2 (.cons (.ix (.var 0 0) (.cint 4)) (.cons (.ix (.var 0 0) (.cint 3)) .nil)))) (.var 1 1)))) .nil) .nil) (.cons (.asg 3 3 (.dat (.ix (.ix (.var 0 0) (.cint 0)) (.ix (.var 0 0) (.cint 1))))) (.cons (.set 0 0 (.cint 1) (.bin .Add (.ix (.var 0 0) (.cint 1)) (.cint 1))) (.cons (.ite (.cmp .Lt (.var 3 3) (.bin .Pow (.cint 10) (.cint 18))) (.cons (.ret (.dat (.bin .Mod (.call (.call "_law_mixed" 2 (.cons (.var 3 3) (.cons (.ix (.var 0 0) (.cint 3)) .nil)))) (.var 1 1)))) .nil) .nil) (.cons (.set 0 0 (.cint 2) (.bin .FloorDiv (.var 3 3) (.var 1 1))) (.cons (.ret (.dat (.bin .Mod (.var 3 3) (.var 1 1)))) .nil))))))))
noncomputable def b_law_lacks_1:IE:=(.tup (.cons (.call (.call "_law_take" 2 (.io 1 0 (.cons (.bin .Add (.var 2 2) (.cint 1)) .nil)))) (.cons (.call (.call "_law_take" 2 (.io 1 0 (.cons (.bin .Add (.var 2 2) (.cint 1)) .nil)))) .nil)))
noncomputable def b_law_lacks_2:IB:=(.cons (.ite (.cmp .Eq (.var 3 3) (.cint 0)) (.cons (.app 7 7 (.cmp .Eq (.call (.call "_law_take" 2 (.io 0 0 (.cons (.cint 2) .nil)))) (.cint 1))) .nil) (.cons (.ite (.cmp .Eq (.var 3 3) (.cint 1)) (.cons (.app 7 7 (.chain .LtE .Lt (.min (.var 8 8) (.var 9 9)) (.var 6 6) (.max (.var 8 8) (.var 9 9)))) .nil) (.cons (.ite (.cmp .Eq (.var 3 3) (.cint 2)) (.cons (.app 7 7 (.cmp .Lt (.var 6 6) (.var 8 8))) .nil) (.cons (.app 7 7 (.cmp .NotEq (.cmp .Lt (.var 6 6) (.var 8 8)) (.cmp .Eq (.var 6 6) (.var 9 9)))) .nil)) .nil)) .nil)) .nil)
noncomputable def b_law_lacks_3:IB:=(.cons (.asg 7 7 (.own (.lst .nil))) (.cons (.loop (.tp (.cons (.nm 8 8) (.cons (.nm 9 9) .nil))) (.list (.var 4 4)) b_law_lacks_2) (.cons (.app 5 5 (.frz 7 7)) .nil)))
noncomputable def Zr:IB:=(.cons (.asg 3 3 (.dat (.call (.call "_law_take" 2 (.io 0 0 (.cons (.cint 4) .nil)))))) (.cons (.asg 4 4 (.dat (.new (.comp 10 1 [0,2] ["_law_dye","_law_box_here","_law_size"] (.nm 0 10) (.range (.var 1 1)) .yes b_law_lacks_1)))) (.cons (.asg 5 5 (.own (.lst .nil))) (.cons (.loop (.nm 6 6) (.range (.var 2 2)) b_law_lacks_3) (.cons (.ret (.move 5 5)) .nil)))))
noncomputable def b_law_cell_1:IB:=(.cons (.asg 7 7 (.dat (.call (.call "_law_take" 2 (.io 0 0 (.cons (.cint 9) .nil)))))) (.cons (.app 4 4 (.var 7 7)) (.cons (.app 5 5 (.bin .Add (.var 7 7) (.int (.var 6 6)))) (.cons (.ite (.and (.cmp .Gt (.var 2 2) (.cint 0)) (.cmp .Eq (.call (.call "_law_take" 2 (.io 0 0 (.cons (.var 2 2) .nil)))) (.cint 0))) (.cons (.set 4 4 (.neg (.cint 1)) (.call (.call "_law_take" 2 (.io 0 0 (.cons (.cint 10) .nil))))) (.cons (.set 5 5 (.neg (.cint 1)) (.call (.call "_law_take" 2 (.io 0 0 (.cons (.cint 10) .nil))))) .nil)) .nil) .nil))))
noncomputable def jO:IB:=(.cons (.asg 4 4 (.own (.lst .nil))) (.cons (.asg 5 5 (.own (.lst .nil))) (.cons (.loop (.nm 6 6) (.list (.var 1 1)) b_law_cell_1) (.cons (.ret (.dat (.tup (.cons (.tuple (.var 4 4)) (.cons (.and (.cmp .Gt (.var 3 3) (.cint 0)) (.cmp .Lt (.call (.call "_law_take" 2 (.io 0 0 (.cons (.cint 5) .nil)))) (.var 3 3))) (.cons (.tuple (.var 5 5)) .nil)))))) .nil))))
noncomputable def b_law_bolt_1:IE:=(.call (.call "_law_cell" 4 (.io 1 0 (.cons (.var 0 6) (.cons (.var 2 3) (.cons (.var 3 4) .nil))))))
noncomputable def ZX:IB:=(.cons (.asg 4 4 (.dat (.call (.call "_law_take" 2 (.io 0 0 (.cons (.cint 4) .nil)))))) (.cons (.asg 5 5 (.dat (.call (.call "_law_lacks" 3 (.io 0 0 (.cons (.var 1 1) (.cons (.var 2 2) .nil))))))) (.cons (.ret (.own (.comp 6 1 [0,3,4] ["_law_row","_law_box_here","_law_loose","_law_wet"] (.nm 0 6) (.list (.var 5 5)) .yes b_law_bolt_1))) .nil)))
noncomputable def js:IB:=(.cons (.ite (.cmp .Eq (.call (.call "_law_take" 2 (.io 0 0 (.cons (.cint 8) .nil)))) (.cint 0)) (.cons (.ret (.dat (.tup (.cons (.call (.call "_law_take" 2 (.io 0 0 (.cons (.cint 13) .nil)))) (.cons (.call (.call "_law_take" 2 (.io 0 0 (.cons (.cint 41) .nil)))) .nil))))) .nil) .nil) (.cons (.ret (.dat (.tup (.cons (.call (.call "_law_take" 2 (.io 0 0 (.cons (.cint 7) .nil)))) (.cons (.call (.call "_law_take" 2 (.io 0 0 (.cons (.cint 9) .nil)))) .nil))))) .nil))
noncomputable def b_law_lack_1:IC:=(.one (.cmp .Gt (.ix (.ix (.ix (.var 1 0) (.var 0 2)) (.cint 2)) (.var 2 1)) (.ix (.ix (.ix (.var 1 0) (.var 0 2)) (.cint 0)) (.var 2 1))))
noncomputable def b_law_lack_2:IE:=(.var 0 2)
noncomputable def ZY:IB:=(.cons (.ret (.own (.comp 2 1 [0,1] ["_law_at","_law_rows","_law_dye"] (.nm 0 2) (.range (.len (.var 0 0))) b_law_lack_1 b_law_lack_2))) .nil)
noncomputable def b_law_need_1:IC:=(.one (.cmp .Gt (.len (.call (.call "_law_lack" 2 (.cons (.var 1 0) (.cons (.var 0 2) .nil))))) (.cint 0)))
noncomputable def b_law_need_2:IE:=(.var 0 2)
noncomputable def ZT:IB:=(.cons (.ret (.own (.comp 2 1 [0] ["_law_dye","_law_rows"] (.nm 0 2) (.range (.var 1 1)) b_law_need_1 b_law_need_2))) .nil)
noncomputable def p_bars_1:IB:=(.cons (.asg 8 8 (.dat (.call (.call "bar_word" 2 (.cons (.bin .Sub (.ix (.var 6 6) (.var 7 7)) (.ix (.var 4 4) (.var 7 7))) (.cons (.ix (.var 1 1) (.var 7 7)) .nil)))))) (.cons (.ite (.cmp .IsNot (.var 8 8) .cnone) (.cons (.app 2 2 (.tup (.cons (.var 8 8) (.cons (.var 3 3) (.cons (.var 7 7) .nil))))) .nil) .nil) .nil))
noncomputable def p_bars_2:IB:=(.cons (.loop (.nm 7 7) (.range (.len (.var 4 4))) p_bars_1) .nil)
noncomputable def Y9:IB:=(.cons (.asg 2 2 (.own (.lst .nil))) (.cons (.loop (.tp (.cons (.nm 3 3) (.cons (.tp (.cons (.nm 4 4) (.cons (.nm 5 5) (.cons (.nm 6 6) .nil)))) .nil))) (.enum (.var 0 0)) p_bars_2) (.cons (.ret (.move 2 2)) .nil)))
noncomputable def qL:IB:=(.cons (.ite (.cmp .Lt (.var 0 0) (.cint 0)) (.cons (.ret (.dat (.cstr "spare"))) .nil) .nil) (.cons (.ite (.cmp .Gt (.var 0 0) (.cint 1)) (.cons (.ret (.dat (.cstr "deep"))) .nil) .nil) (.cons (.ite (.and (.cmp .Eq (.var 0 0) (.cint 1)) (.not (.var 1 1))) (.cons (.ret (.dat (.cstr "spent"))) .nil) .nil) (.cons (.ret (.dat .cnone)) .nil))))
noncomputable def b_law_met_1:IE:=(.cmp .Eq (.ix (.var 0 1) (.cint 0)) (.ix (.var 0 1) (.cint 2)))
noncomputable def QX:IB:=(.cons (.ret (.dat (.all (.new (.comp 1 1 [] ["_law_cell_here"] (.nm 0 1) (.list (.var 0 0)) .yes b_law_met_1))))) .nil)
noncomputable def jQ:IB:=(.cons (.asgT (.tp (.cons (.nm 2 2) (.cons (.nm 3 3) .nil))) (.var 0 0)) (.cons (.asgT (.tp (.cons (.nm 4 4) (.cons (.nm 5 5) .nil))) (.var 1 1)) (.cons (.ite (.cmp .Eq (.var 3 3) (.var 5 5)) (.cons (.ret (.dat (.cmp .Gt (.var 2 2) (.var 4 4)))) .nil) .nil) (.cons (.ret (.dat (.cmp .Eq (.less (.var 3 3) (.var 5 5)) (.cint 0)))) .nil))))
noncomputable def p_lacking_under_wax_1:IC:=(.one (.ix (.ix (.var 1 0) (.var 0 2)) (.cint 1)))
noncomputable def p_lacking_under_wax_2:IE:=(.var 0 2)
noncomputable def qz:IB:=(.cons (.ret (.own (.comp 2 1 [0] ["at","bolt"] (.nm 0 2) (.list (.call (.call "lacking" 2 (.cons (.var 0 0) (.cons (.var 1 1) .nil))))) p_lacking_under_wax_1 p_lacking_under_wax_2))) .nil)
noncomputable def b_law_under_1:IE:=(.ix (.ix (.var 1 0) (.var 0 5)) (.cint 1))
noncomputable def b_law_under_2:IE:=(.cmp .In (.var 0 5) (.var 1 4))
noncomputable def qp:IB:=(.cons (.ite (.or (.cmp .Eq (.var 1 1) (.var 2 2)) (.cmp .Eq (.var 1 1) (.cint 12))) (.cons (.ret (.dat (.cbool false))) .nil) .nil) (.cons (.asg 3 3 (.dat (.call (.call "_law_lack" 2 (.cons (.var 0 0) (.cons (.var 1 1) .nil)))))) (.cons (.ite (.cmp .Eq (.var 2 2) (.cint 12)) (.cons (.ret (.dat (.not (.any (.new (.comp 5 1 [0] ["_law_at","_law_rows"] (.nm 0 5) (.list (.var 3 3)) .yes b_law_under_1)))))) .nil) .nil) (.cons (.asg 4 4 (.dat (.call (.call "_law_lack" 2 (.cons (.var 0 0) (.cons (.var 2 2) .nil)))))) (.cons (.ite (.cmp .Eq (.var 3 3) (.var 4 4)) (.cons (.ret (.dat (.cmp .Gt (.var 1 1) (.var 2 2)))) .nil) .nil) (.cons (.ret (.dat (.all (.new (.comp 5 1 [4] ["_law_at","_law_theirs"] (.nm 0 5) (.list (.var 3 3)) .yes b_law_under_2))))) .nil))))))
noncomputable def p_with_cells_1:IE:=(.tup (.cons (.var 0 2) (.cons (.call (.call "lacking" 2 (.cons (.var 1 0) (.cons (.var 0 2) .nil)))) .nil)))
noncomputable def jS:IB:=(.cons (.ret (.own (.comp 2 1 [0] ["dye","bolt"] (.nm 0 2) (.list (.new (.sorted (.var 1 1)))) .yes p_with_cells_1))) .nil)
noncomputable def qR:IB:=(.cons (.ret (.dat (.and (.cmp .NotEq (.var 1 1) (.var 2 2)) (.and (.not (.call (.call "_law_under" 3 (.cons (.var 0 0) (.cons (.var 1 1) (.cons (.var 2 2) .nil)))))) (.not (.call (.call "_law_under" 3 (.cons (.var 0 0) (.cons (.var 2 2) (.cons (.var 1 1) .nil)))))))))) .nil)
noncomputable def p_stretches_1:IC:=(.one (.cmp .NotIn (.var 0 4) (.var 1 2)))
noncomputable def p_stretches_2:IE:=(.new (.cat (.new (.lst (.cons (.ix (.var 2 1) (.var 0 4)) .nil))) (.call (.call "row_behind" 3 (.cons (.var 2 1) (.cons (.var 1 2) (.cons (.var 0 4) .nil)))))))
noncomputable def Zq:IB:=(.cons (.asg 1 1 (.dat (.call (.call "needed" 1 (.cons (.var 0 0) .nil))))) (.cons (.asg 2 2 (.dat (.call (.call "followers" 1 (.cons (.call (.call "places_above" 2 (.cons (.var 0 0) (.cons (.var 1 1) .nil)))) .nil))))) (.cons (.asg 3 3 (.dat (.call (.call "row_behind" 3 (.cons (.var 1 1) (.cons (.var 2 2) (.cons (.len (.var 1 1)) .nil))))))) (.cons (.ret (.own (.cat (.new (.lst (.cons (.var 3 3) .nil))) (.new (.comp 4 1 [2,1] ["at","follower","dyes"] (.nm 0 4) (.range (.len (.var 1 1))) p_stretches_1 p_stretches_2))))) .nil))))
noncomputable def p_places_above_1:IC:=(.one (.call (.call "is_lower" 2 (.cons (.var 2 4) (.cons (.var 1 7) .nil)))))
noncomputable def p_places_above_2:IE:=(.var 0 6)
noncomputable def p_places_above_3:IB:=(.cons (.asg 5 5 (.own (.comp 6 2 [4] ["at","other","one"] (.tp (.cons (.nm 0 6) (.cons (.nm 1 7) .nil))) (.enum (.var 2 2)) p_places_above_1 p_places_above_2))) (.cons (.ite (.not (.call (.call "lacking_under_wax" 2 (.cons (.var 0 0) (.cons (.ix (.var 4 4) (.cint 0)) .nil))))) (.cons (.app 5 5 (.len (.var 2 2))) .nil) .nil) (.cons (.app 3 3 (.frz 5 5)) .nil)))
noncomputable def jd:IB:=(.cons (.asg 2 2 (.dat (.call (.call "with_cells" 2 (.cons (.var 0 0) (.cons (.var 1 1) .nil)))))) (.cons (.asg 3 3 (.own (.lst .nil))) (.cons (.loop (.nm 4 4) (.list (.var 2 2)) p_places_above_3) (.cons (.ret (.own (.cat (.var 3 3) (.new (.lst (.cons (.new (.lst .nil)) .nil)))))) .nil))))
noncomputable def p_followers_1:IE:=.cnone
noncomputable def p_followers_2:IB:=(.cons (.expr (.call (.call "settle" 4 (.cons (.var 2 2) (.cons (.var 0 0) (.io 1 1 (.tmp (.lst .nil)))))))) .nil)
noncomputable def jq:IB:=(.cons (.asg 1 1 (.own (.comp 3 1 [] ["places"] (.nm 0 3) (.list (.var 0 0)) .yes p_followers_1))) (.cons (.loop (.nm 2 2) (.range (.len (.var 0 0))) p_followers_2) (.cons (.ret (.move 1 1)) .nil)))
noncomputable def p_settle_1:IB:=(.cons (.ite (.cmp .NotIn (.var 4 4) (.var 3 3)) (.cons (.app 3 3 (.var 4 4)) (.cons (.ite (.or (.cmp .Is (.ix (.var 2 2) (.var 4 4)) .cnone) (.call (.call "settle" 4 (.cons (.ix (.var 2 2) (.var 4 4)) (.cons (.var 1 1) (.io 2 2 (.io 3 3 .nil))))))) (.cons (.set 2 2 (.var 4 4) (.var 0 0)) (.cons (.ret (.dat (.cbool true))) .nil)) .nil) .nil)) .nil) .nil)
noncomputable def Ze:IB:=(.cons (.loop (.nm 4 4) (.list (.ix (.var 1 1) (.var 0 0))) p_settle_1) (.cons (.ret (.dat (.cbool false))) .nil))
noncomputable def p_row_behind_1:IB:=(.cons (.app 3 3 (.ix (.var 0 0) (.var 2 2))) (.cons (.asg 2 2 (.dat (.ix (.var 1 1) (.var 2 2)))) .nil))
noncomputable def j3:IB:=(.cons (.asg 3 3 (.own (.lst .nil))) (.cons (.asg 2 2 (.dat (.ix (.var 1 1) (.var 2 2)))) (.cons (.wh 1000000 (.cmp .IsNot (.var 2 2) .cnone) p_row_behind_1) (.cons (.ret (.move 3 3)) .nil))))
noncomputable def Z4:IB:=(.cons (.asgT (.tp (.cons (.nm 2 2) (.cons (.nm 3 3) .nil))) (.call (.call "_law_sizes" 1 (.io 0 0 .nil)))) (.cons (.ret (.dat (.tup (.cons (.var 2 2) (.cons (.call (.call "_law_bolt" 4 (.io 0 0 (.cons (.var 2 2) (.cons (.var 3 3) (.cons (.var 1 1) .nil)))))) .nil))))) .nil))
noncomputable def p_held_1:IC:=(.one (.cmp .NotIn (.var 0 9) (.var 1 3)))
noncomputable def p_held_2:IE:=(.var 0 9)
noncomputable def p_held_3:IB:=(.cons (.expr (.call (.call "settle" 4 (.cons (.var 6 6) (.cons (.var 2 2) (.io 3 3 (.io 5 5 .nil))))))) .nil)
noncomputable def p_held_4:IE:=(.ix (.var 1 3) (.var 0 9))
noncomputable def p_held_5:IC:=(.one (.cmp .NotIn (.var 0 9) (.var 1 5)))
noncomputable def p_held_6:IE:=(.ix (.var 2 8) (.var 0 9))
noncomputable def ki:IB:=(.cons (.asg 1 1 (.dat (.call (.call "needed" 1 (.cons (.var 0 0) .nil))))) (.cons (.asg 2 2 (.dat (.call (.call "places_above" 2 (.cons (.var 0 0) (.cons (.var 1 1) .nil)))))) (.cons (.asg 3 3 (.call "followers" 1 (.cons (.var 2 2) .nil))) (.cons (.asg 4 4 (.dat (.new (.comp 9 1 [3] ["at","follower"] (.nm 0 9) (.range (.len (.var 2 2))) p_held_1 p_held_2)))) (.cons (.asg 5 5 (.own (.lst .nil))) (.cons (.loop (.nm 6 6) (.list (.var 4 4)) p_held_3) (.cons (.asg 7 7 (.dat (.new (.cat (.var 4 4) (.new (.comp 9 1 [3] ["at","follower"] (.nm 0 9) (.list (.frz 5 5)) .yes p_held_4)))))) (.cons (.asg 8 8 (.dat (.new (.cat (.var 1 1) (.new (.lst (.cons (.gint "NOW" (12)) .nil))))))) (.cons (.ret (.own (.sorted (.new (.comp 9 1 [5,8] ["at","tried","numbers"] (.nm 0 9) (.list (.var 7 7)) p_held_5 p_held_6))))) .nil)))))))))
noncomputable def b_law_shows_1:IE:=(.cmp .In (.var 0 4) (.new (.cat (.call (.call "_law_need" 2 (.cons (.var 1 1) (.cons (.var 2 2) .nil)))) (.new (.lst (.cons (.cint 12) .nil))))))
noncomputable def b_law_shows_2:IE:=(.call (.call "_law_clash" 3 (.cons (.var 1 1) (.cons (.ix (.var 2 0) (.var 3 3)) (.cons (.var 0 4) .nil)))))
noncomputable def b_law_shows_3:IB:=(.cons (.ite (.not (.all (.new (.comp 4 1 [1,0,3] ["_law_other","_law_rows","_law_found","_law_k"] (.nm 0 4) (.list (.new (.cut (.var 0 0) .non (.one (.var 3 3))))) .yes b_law_shows_2)))) (.cons (.ret (.dat (.cbool false))) .nil) .nil) .nil)
noncomputable def Zn:IB:=(.cons (.ite (.or (.not (.call (.call "_law_wholes" 1 (.cons (.var 0 0) .nil)))) (.cmp .NotEq (.var 0 0) (.new (.sorted (.var 0 0))))) (.cons (.ret (.dat (.cbool false))) .nil) .nil) (.cons (.ite (.not (.all (.new (.comp 4 1 [1,2] ["_law_one","_law_rows","_law_pots"] (.nm 0 4) (.list (.var 0 0)) .yes b_law_shows_1)))) (.cons (.ret (.dat (.cbool false))) .nil) .nil) (.cons (.loop (.nm 3 3) (.range (.len (.var 0 0))) b_law_shows_3) (.cons (.ret (.dat (.cbool true))) .nil))))
noncomputable def ZV:IB:=(.cons (.ret (.call "boilings_for" 2 (.cons (.var 0 0) (.cons (.call (.call "needed" 1 (.cons (.var 0 0) .nil))) .nil)))) .nil)
noncomputable def ja:IB:=(.cons (.asg 2 2 (.dat (.call (.call "followers" 1 (.cons (.call (.call "places_above" 2 (.cons (.var 0 0) (.cons (.var 1 1) .nil)))) .nil))))) (.cons (.ret (.dat (.bin .Sub (.count (.var 2 2) .cnone) (.cint 1)))) .nil))
noncomputable def b_law_boil_1:IE:=(.tup (.cons (.ix (.ix (.var 1 0) (.var 0 1)) (.cint 0)) (.cons (.cbool false) (.cons (.ix (.ix (.var 1 0) (.var 0 1)) (.cint 2)) .nil))))
noncomputable def Z5:IB:=(.cons (.ret (.own (.comp 1 1 [0] ["_law_at","_law_rows"] (.nm 0 1) (.range (.len (.var 0 0))) .yes b_law_boil_1))) .nil)
noncomputable def p_with_wax_1:IE:=(.call (.call "has_cell" 2 (.cons (.var 1 0) (.cons (.var 0 2) .nil))))
noncomputable def p_with_wax_2:IE:=(.tup (.cons (.var 1 3) (.cons (.or (.var 2 4) (.cmp .In (.var 0 2) (.var 4 1))) (.cons (.var 3 5) .nil))))
noncomputable def je:IB:=(.cons (.ite (.not (.all (.new (.comp 2 1 [0] ["at","bolt"] (.nm 0 2) (.tup (.var 1 1)) .yes p_with_wax_1)))) (.cons (.raise "NoCell") .nil) .nil) (.cons (.ite (.cmp .NotEq (.lset (.var 1 1)) (.len (.var 1 1))) (.cons (.raise "Twice") .nil) .nil) (.cons (.ret (.own (.comp 2 4 [1] ["at","stain","waxed","wish","cells"] (.tp (.cons (.nm 0 2) (.cons (.tp (.cons (.nm 1 3) (.cons (.nm 2 4) (.cons (.nm 3 5) .nil)))) .nil))) (.enum (.var 0 0)) .yes p_with_wax_2))) .nil)))
noncomputable def jf:IB:=(.cons (.ret (.dat (.chain .LtE .Lt (.cint 0) (.var 1 1) (.len (.var 0 0))))) .nil)
noncomputable def b_law_wax_1:IE:=(.tup (.cons (.ix (.ix (.var 1 0) (.var 0 2)) (.cint 0)) (.cons (.or (.ix (.ix (.var 1 0) (.var 0 2)) (.cint 1)) (.cmp .In (.var 0 2) (.var 2 1))) (.cons (.ix (.ix (.var 1 0) (.var 0 2)) (.cint 2)) .nil))))
noncomputable def Jj:IB:=(.cons (.ret (.own (.comp 2 1 [0,1] ["_law_at","_law_rows","_law_cells"] (.nm 0 2) (.range (.len (.var 0 0))) .yes b_law_wax_1))) .nil)
noncomputable def b_law_dip_1:IE:=(.bin .Add (.ix (.var 1 3) (.var 0 6)) (.int (.cmp .Eq (.var 0 6) (.var 2 1))))
noncomputable def b_law_dip_2:IB:=(.cons (.ite (.not (.var 4 4)) (.cons (.asg 3 3 (.dat (.tuple (.new (.comp 6 1 [3,1] ["_law_k","_law_stain","_law_dye"] (.nm 0 6) (.range (.len (.var 3 3))) .yes b_law_dip_1))))) .nil) .nil) (.cons (.app 2 2 (.tup (.cons (.var 3 3) (.cons (.var 4 4) (.cons (.var 5 5) .nil))))) .nil))
noncomputable def jI:IB:=(.cons (.asg 2 2 (.own (.lst .nil))) (.cons (.loop (.tp (.cons (.nm 3 3) (.cons (.nm 4 4) (.cons (.nm 5 5) .nil)))) (.list (.var 0 0)) b_law_dip_2) (.cons (.ret (.move 2 2)) .nil)))
noncomputable def b_law_full_1:IE:=(.and (.not (.ix (.var 0 2) (.cint 1))) (.cmp .Eq (.ix (.ix (.var 0 2) (.cint 0)) (.var 1 1)) (.cint 9)))
noncomputable def jj:IB:=(.cons (.ret (.dat (.any (.new (.comp 2 1 [1] ["_law_cell_here","_law_dye"] (.nm 0 2) (.list (.var 0 0)) .yes b_law_full_1))))) .nil)
noncomputable def p_boiled_1:IE:=(.tup (.cons (.var 0 1) (.cons (.cbool false) (.cons (.var 2 3) .nil))))
noncomputable def wu:IB:=(.cons (.ret (.own (.comp 1 3 [] ["stain","waxed","wish"] (.tp (.cons (.nm 0 1) (.cons (.nm 1 2) (.cons (.nm 2 3) .nil)))) (.list (.var 0 0)) .yes p_boiled_1))) .nil)
noncomputable def p_plan_1:IB:=(.cons (.app 5 5 (.tup (.cons (.cstr "boil") .nil))) (.cons (.aug 5 5 (.call (.call "stretch_moves" 2 (.cons (.var 6 6) (.cons (.var 7 7) .nil))))) .nil))
noncomputable def Yy:IB:=(.cons (.asg 2 2 (.dat (.call (.call "bars" 2 (.cons (.var 0 0) (.cons (.var 1 1) .nil)))))) (.cons (.ite (.var 2 2) (.cons .bad .nil) .nil) (.cons (.star 3 3 4 4 (.call (.call "stretches" 1 (.cons (.var 0 0) .nil)))) (.cons (.asg 5 5 (.call "stretch_moves" 2 (.cons (.var 0 0) (.cons (.var 3 3) .nil)))) (.cons (.asg 6 6 (.dat (.call (.call "boiled" 1 (.cons (.var 0 0) .nil))))) (.cons (.loop (.nm 7 7) (.list (.var 4 4)) p_plan_1) (.cons (.ret (.move 5 5)) .nil)))))))
noncomputable def p_stretch_moves_1:IB:=(.cons (.asg 4 4 (.dat (.call (.call "to_keep_off" 2 (.cons (.var 0 0) (.cons (.var 3 3) .nil)))))) (.cons (.ite (.var 4 4) (.cons (.app 2 2 (.tup (.cons (.cstr "wax") (.cons (.var 4 4) .nil)))) (.cons (.asg 0 0 (.dat (.call (.call "with_wax" 2 (.cons (.var 0 0) (.cons (.var 4 4) .nil)))))) .nil)) .nil) (.cons (.app 2 2 (.tup (.cons (.cstr "dip") (.cons (.var 3 3) .nil)))) .nil)))
noncomputable def qS:IB:=(.cons (.asg 2 2 (.own (.lst .nil))) (.cons (.loop (.nm 3 3) (.list (.var 1 1)) p_stretch_moves_1) (.cons (.ret (.move 2 2)) .nil)))
noncomputable def p_to_keep_off_1:IC:=(.one (.and (.not (.var 2 4)) (.cmp .LtE (.ix (.var 3 5) (.var 4 1)) (.ix (.var 1 3) (.var 4 1)))))
noncomputable def p_to_keep_off_2:IE:=(.var 0 2)
noncomputable def jx:IB:=(.cons (.ret (.dat (.tuple (.new (.comp 2 4 [1] ["at","stain","waxed","wish","dye"] (.tp (.cons (.nm 0 2) (.cons (.tp (.cons (.nm 1 3) (.cons (.nm 2 4) (.cons (.nm 3 5) .nil)))) .nil))) (.enum (.var 0 0)) p_to_keep_off_1 p_to_keep_off_2))))) .nil)
noncomputable def b_law_wax_good_1:IE:=(.and (.chain .LtE .Lt (.cint 0) (.var 0 3) (.len (.var 1 1))) (.not (.ix (.ix (.var 1 1) (.var 0 3)) (.cint 1))))
noncomputable def jh:IB:=(.cons (.ite (.or (.cmp .NotEq (.len (.var 0 0)) (.cint 2)) (.or (.not (.isi "tuple" (.ix (.var 0 0) (.cint 1)))) (.or (.not (.call (.call "_law_wholes" 1 (.cons (.new (.list (.ix (.var 0 0) (.cint 1)))) .nil)))) (.cmp .Eq (.len (.ix (.var 0 0) (.cint 1))) (.cint 0))))) (.cons (.ret (.dat (.cbool false))) .nil) .nil) (.cons (.asg 2 2 (.dat (.new (.list (.ix (.var 0 0) (.cint 1)))))) (.cons (.ite (.or (.cmp .NotEq (.var 2 2) (.new (.sorted (.var 2 2)))) (.cmp .Lt (.lsetL (.var 2 2)) (.len (.var 2 2)))) (.cons (.ret (.dat (.cbool false))) .nil) .nil) (.cons (.ret (.dat (.all (.new (.comp 3 1 [1] ["_law_at","_law_rows"] (.nm 0 3) (.list (.var 2 2)) .yes b_law_wax_good_1))))) .nil))))
noncomputable def jb:IB:=(.cons (.ite (.or (.cmp .NotEq (.len (.var 0 0)) (.cint 2)) (.or (.not (.call (.call "_law_whole" 1 (.cons (.ix (.var 0 0) (.cint 1)) .nil)))) (.or (.cmp .Lt (.ix (.var 0 0) (.cint 1)) (.cint 0)) (.cmp .GtE (.ix (.var 0 0) (.cint 1)) (.len (.var 2 2)))))) (.cons (.ret (.dat (.cbool false))) .nil) .nil) (.cons (.ret (.dat (.and (.ix (.var 2 2) (.ix (.var 0 0) (.cint 1))) (.and (.cmp .NotIn (.ix (.var 0 0) (.cint 1)) (.var 3 3)) (.not (.call (.call "_law_full" 2 (.cons (.var 1 1) (.cons (.ix (.var 0 0) (.cint 1)) .nil))))))))) .nil))
noncomputable def b_law_walk_1:IB:=(.cons (.ite (.or (.not (.isi "tuple" (.var 5 5))) (.or (.cmp .Eq (.len (.var 5 5)) (.cint 0)) (.not (.isi "str" (.ix (.var 5 5) (.cint 0)))))) (.cons (.ret (.dat .cnone)) .nil) .nil) (.cons (.ite (.and (.cmp .Eq (.ix (.var 5 5) (.cint 0)) (.cstr "wax")) (.call (.call "_law_wax_good" 2 (.cons (.var 5 5) (.cons (.var 0 0) .nil))))) (.cons (.asg 0 0 (.dat (.call (.call "_law_wax" 2 (.cons (.var 0 0) (.cons (.ix (.var 5 5) (.cint 1)) .nil)))))) .nil) (.cons (.ite (.and (.cmp .Eq (.ix (.var 5 5) (.cint 0)) (.cstr "dip")) (.callw "_law_dip_good" 4 (.cons (.var 5 5) (.cons (.var 0 0) (.cons (.var 1 1) (.cons (.var 3 3) .nil)))))) (.cons (.asg 0 0 (.dat (.call (.call "_law_dip" 2 (.cons (.var 0 0) (.cons (.ix (.var 5 5) (.cint 1)) .nil)))))) (.cons (.app 3 3 (.ix (.var 5 5) (.cint 1))) .nil)) (.cons (.ite (.cmp .Eq (.var 5 5) (.tup (.cons (.cstr "boil") .nil))) (.cons (.asg 0 0 (.dat (.call (.call "_law_boil" 1 (.cons (.var 0 0) .nil))))) (.cons (.asg 4 4 (.dat (.bin .Add (.var 4 4) (.cint 1)))) .nil)) (.cons (.ret (.dat .cnone)) .nil)) .nil)) .nil)) .nil))
noncomputable def Z7:IB:=(.cons (.ite (.not (.isi "list" (.var 2 2))) (.cons (.ret (.dat .cnone)) .nil) .nil) (.cons (.asg 3 3 (.own (.lst .nil))) (.cons (.asg 4 4 (.dat (.cint 0))) (.cons (.loop (.nm 5 5) (.list (.var 2 2)) b_law_walk_1) (.cons (.ret (.dat (.tup (.cons (.var 0 0) (.cons (.frz 3 3) (.cons (.var 4 4) .nil)))))) .nil)))))
noncomputable def b_law_pans_1:IE:=(.or (.cmp .Gt (.len (.call (.call "_law_lack" 2 (.cons (.var 1 1) (.cons (.var 0 3) .nil))))) (.cint 0)) (.cmp .Eq (.call (.call "_law_take" 2 (.io 2 0 (.cons (.cint 2) .nil)))) (.cint 0)))
noncomputable def Z9:IB:=(.cons (.ret (.own (.comp 3 1 [1,0] ["_law_dye","_law_rows","_law_box_here"] (.nm 0 3) (.range (.var 2 2)) .yes b_law_pans_1))) .nil)
end Wx
set_option maxHeartbeats 4000000
namespace Wx
open PySem L2 L3
noncomputable def runI(n:Nat)(mask:List Bool)(io:List Nat)(body:IB)(cf:CF)(args:List OV):RF:=if args.length=mask.length then fin mask (body.ex cf io (args.map some++List.replicate (n-mask.length) none)) else .bad
end Wx
local macro_rules
  | `(tactic| simp![$xs,*])=>`(tactic| simp[$xs,*,Wx.runI,L3.fin,L3.outs,L3.IB.ex,L3.IS.ex,L3.IE.ev,L3.IL.ev,L3.IA.ev,L3.IN.ev,L3.IP.ev,L3.II.ev,L3.IC.ev,L3.IO.ev,L3.sSeq,L3.sNext,L3.sAsg,L3.sIf,L3.sRet,L3.sRetN,L3.sSet,L3.sApp,L3.sFor,L3.sAsgT,L3.sExpr,L3.fVar,L3.fFrz,L3.fC,L3.fBin,L3.fCmp,L3.fB,L3.fTru,L3.fNotT,L3.fAndT,L3.fOrT,L3.fAndV,L3.fOrV,L3.fIf,L3.fIx,L3.f1,L3.f2,L3.fChain,L3.fTup,L3.fLst,L3.fCons,L3.fNil,L3.fNew,L3.fOwn,L3.fOD,L3.fD,L3.fMove,L3.fCall,L3.fCallW,L3.aNil,L3.aCons,L3.aIo,L3.toArg,L3.toArgs,L3.ios,L3.putBack,L3.derf,L3.derS,L3.derSs,L3.derL,L3.leaves,L3.derfs,L3.itemF,L3.binD,L3.cmpD,L3.truD,L3.R.bind,L3.isOwn,L3.fSeqL,L3.fSeqT,L3.fRange,L3.fEnum,L3.fYes,L3.fComp,L3.fListC,L3.fTupC,L3.gLen,L3.lenD,L3.gInt,L3.gAll,L3.gAny,L3.gMin,L3.gMax,L3.gNeg,L3.fIsi,L3.isiB,L2.tyD,L3.tgF,L3.tgFs,L2.noL])
namespace Wx
open PySem L2 L3
theorem zaX(cf:CF)(a b:Int):∃ r,runI 4 [false,false] [] Zs cf [.d (.int a),.d (.int b)]=.ok (.d (.int r)) [none,none]:=by
 simp![Zs,OV.view,OV.views,zx,ixN,atI]
 rw[if_pos]
 ·simp[outs]
 ·omega
noncomputable def kH (cf:CF):Prop:=∀ a b:Int,∃ r,cf "_law_mixed" [.d (.int a),.d (.int b)]=.ok (.d (.int r)) [none,none]
noncomputable def zH(b:OV):Prop:=∃ cells i l t s,0<=i/\b=ZG cells i l t s
noncomputable def zcJ(b:OV)(n:Int)(x:RF):Prop:=∃ (r:Int) (b':OV),0<=r/\r<n/\zH b'/\x=.ok (.d (.int r)) [some b',none]
theorem zdt(cf:CF)(hm:kH cf){b:OV}(hb:zH b){n:Int}(h1:1<=n)(h2:n<1073741824):zcJ b n (runI 4 [true,false] [0] qN cf [b,.d (.int n)]):=by
 obtain⟨cells,i,l,t,s,hi,rfl⟩:=hb
 have h0:0<n:=by omega
 have hp:((10:Int) ^ 18)=1000000000000000000:=by decide
 by_cases hl:0<l
 ·refine⟨l % n,ZG cells i (l / n) (t+1) s,uM _ (by omega),uB _ h0,⟨_,_,_,_,_,hi,rfl⟩,?_⟩
  simp![qN,ZG,hl,h0,h2,OV.view,OV.views,zx,ixN,atI]
 ·by_cases hc:(cells.length:Int)<=i
  ·obtain⟨r,er⟩:=hm s (t+1)
   refine⟨r % n,ZG cells i l (t+1) s,uM _ (by omega),uB _ h0,⟨_,_,_,_,_,hi,rfl⟩,?_⟩
   simp![qN,ZG,hl,hc,h0,h2,er,OV.view,OV.views,zx,ixN,atI]
  ·have hix:i.toNat<cells.length:=by omega
   have hlt:i<(cells.length:Int):=by omega
   have hg:cells[i.toNat]?=some cells[i.toNat]:=xb hix
   by_cases hs:cells[i.toNat]<1000000000000000000
   ·obtain⟨r,er⟩:=hm cells[i.toNat] (t+1)
    refine⟨r % n,ZG cells (i+1) l (t+1) s,uM _ (by omega),uB _ h0,⟨_,_,_,_,_,by omega,rfl⟩,?_⟩
    simp![qN,ZG,hl,hc,h0,h2,hi,hlt,hg,hs,hp,er,OV.view,OV.views,zx,ixN,atI]
   ·refine⟨cells[i.toNat] % n,ZG cells (i+1) (cells[i.toNat] / n) (t+1) s,uM _ (by omega),uB _ h0,⟨_,_,_,_,_,by omega,rfl⟩,?_⟩
    simp![qN,ZG,hl,hc,h0,h2,hi,hlt,hg,hs,hp,OV.view,OV.views,zx,ixN,atI]
theorem qC{t:IT}{body:SM}(I:List PyData->Gv->Prop){ds:List PyData}{Γ:Gv}(h0:I [] Γ)
  (hs:∀ pre d post,ds=pre++d::post->∀ Γ,I pre Γ->∃ Γ1 Γ2,tgF t d Γ=some Γ1/\body Γ1=.ok (.next,Γ2)/\I (pre++ [d]) Γ2):∃ Γ',qb t body ds Γ=.ok (.next,Γ')/\I ds Γ':=by
 suffices H:∀ post pre Γ,ds=pre++post->I pre Γ->∃ Γ',qb t body post Γ=.ok (.next,Γ')/\I ds Γ' from H ds [] Γ rfl h0
 intro post
 induction post with
 |nil=>intro pre Γ e h;rw[ud]at e;subst e;exact⟨Γ,rfl,h⟩
 |cons d post ih=>
  intro pre Γ e h
  obtain⟨Γ1,Γ2,e1,e2,h2⟩:=hs pre d post e Γ h
  obtain⟨Γ',e3,h3⟩:=ih (pre++ [d]) Γ2 (by rw[e];simp) h2
  exact⟨Γ',by rw[qb,e1];simp only[e2];exact e3,h3⟩
theorem qi{k:Nat}{t:IT}{cond:EM Bool}{elt:EM FV}(I:List PyData->List PyData->Gv->Prop){ds:List PyData}{Γ:Gv}(h0:I [] [] Γ)
  (hs:∀ pre d post,ds=pre++d::post->∀ ys Γ,I pre ys Γ->∃ Γ2 c Γ3,tgF t d (Γ++List.replicate k none)=some Γ2/\cond Γ2=.ok (c,Γ3)/\(c=true->∃ u Γ4 y,elt Γ3=.ok (u,Γ4)/\derS Γ4 u=some y/\I (pre++ [d]) (ys++ [y]) (Γ4.take Γ.length))/\(c=false->I (pre++ [d]) ys (Γ3.take Γ.length))) :
  ∃ ys Γ',qr k t cond elt ds [] Γ=.ok (ys,Γ')/\I ds ys Γ':=by
 suffices H:∀ post pre ys Γ,ds=pre++post->I pre ys Γ->∃ ys' Γ',qr k t cond elt post ys Γ=.ok (ys',Γ')/\I ds ys' Γ' from H ds [] [] Γ rfl h0
 intro post
 induction post with
 |nil=>intro pre ys Γ e h;rw[ud]at e;subst e;exact⟨ys,Γ,rfl,h⟩
 |cons d post ih=>
  intro pre ys Γ e h
  obtain⟨Γ2,c,Γ3,e1,e2,ht,hf⟩:=hs pre d post e ys Γ h
  cases c with
  |true=>
   obtain⟨u,Γ4,y,e3,e4,h5⟩:=ht rfl
   obtain⟨ys',Γ',e6,h6⟩:=ih (pre++ [d]) _ _ (by rw[e];simp) h5
   exact⟨ys',Γ',by rw[qr,e1];simp only[e2,e3,e4];exact e6,h6⟩
  |false=>
   obtain⟨ys',Γ',e6,h6⟩:=ih (pre++ [d]) _ _ (by rw[e];simp) (hf rfl)
   exact⟨ys',Γ',by rw[qr,e1];simp only[e2];exact e6,h6⟩
theorem zC{k:Nat}{t:IT}{cond:EM Bool}{elt:EM FV}(p:PyData->Bool)(f:PyData->PyData){ds:List PyData}{Γ:Gv}
  (hs:∀ d∈ds,∃ Γ2 Γ3,tgF t d (Γ++List.replicate k none)=some Γ2/\cond Γ2=.ok (p d,Γ3)/\Γ3.take Γ.length=Γ/\(p d=true->∃ u Γ4,elt Γ3=.ok (u,Γ4)/\derS Γ4 u=some (f d)/\Γ4.take Γ.length=Γ)) :
  qr k t cond elt ds [] Γ=.ok ((ds.filter p).map f,Γ):=by
 obtain⟨ys,Γ',e,hy,rfl⟩:=qi (k:=k) (t:=t) (cond:=cond) (elt:=elt) (fun pre ys Γ'=>ys=(pre.filter p).map f/\Γ'=Γ) (ds:=ds) (Γ:=Γ) ⟨rfl,rfl⟩ (by
  rintro pre d post e ys Γ' ⟨rfl,rfl⟩
  obtain⟨Γ2,Γ3,e1,e2,e3,h⟩:=hs d (by rw[e];simp)
  refine⟨Γ2,p d,Γ3,e1,e2,fun hp=>?_,fun hp=>⟨by simp[xO,hp],e3⟩⟩
  obtain⟨u,Γ4,e4,e5,e6⟩:=h hp
  exact⟨u,Γ4,_,e4,e5,by simp[xO,hp],e6⟩)
 rw[e,hy]
noncomputable def j2 (cf:CF):Prop:=∀ b,zH b->∀ n:Int,1<=n->n<1073741824->zcJ b n (cf "_law_take" [b,.d (.int n)])
theorem zbI(cf:CF)(ht:j2 cf){b:OV}(hb:zH b):∃ (p n:Int) (b':OV),0<=p/\p<=12/\0<=n/\n<=40/\zH b'/\runI 1 [true] [0] js cf [b]=.ok (.d (.tuple [.int p,.int n])) [some b']:=by
 obtain⟨r1,b1,h1,h1',hb1,e1⟩:=ht b hb 8 (by decide) (by decide)
 by_cases hr:r1=0
 ·obtain⟨r2,b2,h2,h2',hb2,e2⟩:=ht b1 hb1 13 (by decide) (by decide)
  obtain⟨r3,b3,h3,h3',hb3,e3⟩:=ht b2 hb2 41 (by decide) (by decide)
  refine⟨r2,r3,b3,h2,by omega,h3,by omega,hb3,?_⟩
  simp![js,e1,e2,e3,hr,lay,PyData.eqv,OV.view,OV.views,zx,ixN,atI]
 ·obtain⟨r2,b2,h2,h2',hb2,e2⟩:=ht b1 hb1 7 (by decide) (by decide)
  obtain⟨r3,b3,h3,h3',hb3,e3⟩:=ht b2 hb2 9 (by decide) (by decide)
  refine⟨r2,r3,b3,h2,by omega,h3,by omega,hb3,?_⟩
  simp![js,e1,e2,e3,hr,lay,PyData.eqv,OV.view,OV.views,zx,ixN,atI]
end Wx
set_option maxHeartbeats 4000000
namespace Wx
open PySem L2 L3
theorem Zv{ds pre post:List PyData}{d:PyData}(e:ds=pre++d::post):pre.length<ds.length:=by rw[e];simp
theorem jH{n:Nat}{pre post:List PyData}{d:PyData}(e:zq n=pre++d::post):d=.int pre.length/\pre.length<n:=by
 have h:(zq n)[pre.length]?=some d:=by rw[e];simp
 exact⟨(j4 h).2,(j4 h).1⟩
theorem Y3(cf:CF)(ht:j2 cf){b:OV}(hb:zH b){pots way:Int}{size n:Nat}(hs:size<=1000){o4 o5 o6 o7 o8 o9:Option OV} :
  ∃ (ps:List (Int×Int)) (b':OV),ps.length=n/\zH b'/\qr 1 (.nm 0 10) fYes (b_law_lacks_1.ev cf).1 (zq n) [] [some b,some (.d (.int pots)),some (.d (.int size)),some (.d (.int way)),o4,o5,o6,o7,o8,o9]=.ok (ps.map fun p=>.tuple [.int p.1,.int p.2],[some b',some (.d (.int pots)),some (.d (.int size)),some (.d (.int way)),o4,o5,o6,o7,o8,o9]):=by
 obtain⟨ys,Γ',e,⟨ps,b',hp,hb',rfl,rfl⟩⟩:=qi (k:=1) (t:=.nm 0 10) (cond:=fYes) (elt:=(b_law_lacks_1.ev cf).1) (ds:=zq n) (Γ:= [some b,some (.d (.int pots)),some (.d (.int size)),some (.d (.int way)),o4,o5,o6,o7,o8,o9])
  (fun pre ys Γ=>∃ (ps:List (Int×Int)) (b':OV),ps.length=pre.length/\zH b'/\ys=ps.map (fun p=>PyData.tuple [.int p.1,.int p.2])/\Γ= [some b',some (.d (.int pots)),some (.d (.int size)),some (.d (.int way)),o4,o5,o6,o7,o8,o9]) ⟨[],b,rfl,hb,rfl,rfl⟩ (by
   rintro pre d post e ys Γ ⟨ps,b1,hp,hb1,rfl,rfl⟩
   obtain⟨r2,b2,h2,h2',hb2,e2⟩:=ht b1 hb1 (size+1) (by omega) (by omega)
   obtain⟨r3,b3,h3,h3',hb3,e3⟩:=ht b2 hb2 (size+1) (by omega) (by omega)
   refine⟨_,true,_,by simp[tgF];rfl,rfl,fun _=>?_,fun z=>nomatch z⟩
   refine⟨.dat (.tuple [.int r2,.int r3]),[some b3,some (.d (.int pots)),some (.d (.int size)),some (.d (.int way)),o4,o5,o6,o7,o8,o9,some (.d d)],_,?_,rfl,ps++ [(r2,r3)],b3,by simp[hp],hb3,by simp,by simp⟩
   simp![b_law_lacks_1,e2,e3,OV.view,OV.views,zx,ixN,atI])
 rw[zk]at hp
 exact⟨ps,b',hp,hb',e⟩
theorem K1(cf:CF)(ht:j2 cf){b:OV}(hb:zH b){pots way:Int}{size:Nat}{at_:Nat}(ps:List (Int×Int))(hps:ps.length<=1000){o4 o5 o8 o9:Option OV} :
  ∃ (bs:List Bool) (b':OV) (o8' o9':Option OV),bs.length=ps.length/\zH b'/\qb (.tp (.cons (.nm 8 8) (.cons (.nm 9 9) .nil))) (b_law_lacks_2.ex cf [0]) (ps.map fun p=>PyData.tuple [.int p.1,.int p.2]) [some b,some (.d (.int pots)),some (.d (.int size)),some (.d (.int way)),o4,o5,some (.d (.int at_)),some (.l []),o8,o9]
   = .ok (.next,[some b',some (.d (.int pots)),some (.d (.int size)),some (.d (.int way)),o4,o5,some (.d (.int at_)),some (.l (bs.map fun x=>.d (.bool x))),o8',o9']):=by
 obtain⟨Γ',e,⟨bs,b',o8',o9',hl,hb',rfl⟩⟩:=qC (t:=.tp (.cons (.nm 8 8) (.cons (.nm 9 9) .nil))) (body:=b_law_lacks_2.ex cf [0]) (ds:=ps.map fun p=>PyData.tuple [.int p.1,.int p.2]) (Γ:= [some b,some (.d (.int pots)),some (.d (.int size)),some (.d (.int way)),o4,o5,some (.d (.int at_)),some (.l []),o8,o9])
  (fun pre Γ=>∃ (bs:List Bool) (b':OV) (o8' o9':Option OV),bs.length=pre.length/\zH b'/\Γ= [some b',some (.d (.int pots)),some (.d (.int size)),some (.d (.int way)),o4,o5,some (.d (.int at_)),some (.l (bs.map fun x=>.d (.bool x))),o8',o9']) ⟨[],b,o8,o9,rfl,hb,rfl⟩ (by
   rintro pre d post e Γ ⟨bs,b1,o8',o9',hl,hb1,rfl⟩
   have hlt:=Zv e
   rw[xi]at hlt
   obtain⟨p,-,rfl⟩:∃ p∈ps,PyData.tuple [.int p.1,.int p.2]=d:=by
    have:d∈ps.map fun p=>PyData.tuple [.int p.1,.int p.2]:=by rw[e];simp
    exact xn.mp this
   have hsz:bs.length<1000000:=by omega
   have key:∃ (x:Bool) (b2:OV),zH b2/\b_law_lacks_2.ex cf [0] [some b1,some (.d (.int pots)),some (.d (.int size)),some (.d (.int way)),o4,o5,some (.d (.int at_)),some (.l (bs.map fun x=>.d (.bool x))),some (.d (.int p.1)),some (.d (.int p.2))]
     = .ok (.next,[some b2,some (.d (.int pots)),some (.d (.int size)),some (.d (.int way)),o4,o5,some (.d (.int at_)),some (.l ((bs++ [x]).map fun x=>.d (.bool x))),some (.d (.int p.1)),some (.d (.int p.2))]):=by
    by_cases h0:way=0
    ·obtain⟨r2,b2,h2,h2',hb2,e2⟩:=ht b1 hb1 2 (by decide) (by decide)
     refine⟨r2==1,b2,hb2,?_⟩
     simp![b_law_lacks_2,h0,e2,hsz,lay,PyData.eqv,OV.view,OV.views,zx,ixN,atI]
    ·by_cases h1:way=1
     ·refine⟨decide ((if p.2<p.1 then p.2 else p.1)<=(at_:Int))&&decide ((at_:Int)<(if p.2>p.1 then p.2 else p.1)),b1,hb1,?_⟩
      by_cases h3:(if p.2<p.1 then p.2 else p.1)<=(at_:Int)
      ·simp![b_law_lacks_2,h0,h1,h3,hsz,lay,PyData.eqv,OV.view,OV.views,zx,ixN,atI]
      ·simp![b_law_lacks_2,h0,h1,h3,hsz,lay,PyData.eqv,OV.view,OV.views,zx,ixN,atI]
     ·by_cases h2:way=2
      ·refine⟨decide ((at_:Int)<p.1),b1,hb1,?_⟩
       simp![b_law_lacks_2,h0,h1,h2,hsz,lay,PyData.eqv,OV.view,OV.views,zx,ixN,atI]
      ·refine⟨!(decide ((at_:Int)<p.1)==((at_:Int)==p.2)),b1,hb1,?_⟩
       simp![b_law_lacks_2,h0,h1,h2,hsz,lay,PyData.eqv,OV.view,OV.views,zx,ixN,atI]
   obtain⟨x,b2,hb2,ek⟩:=key
   exact⟨_,_,by simp[tgF,tgFs],ek,bs++ [x],b2,_,_,by simp[hl],hb2,rfl⟩)
 refine⟨bs,b',o8',o9',by rw[hl,xi],hb',e⟩
noncomputable def zL(bs:List Bool):PyData:=.list (bs.map .bool)
theorem yc(bs:List Bool):OV.views (bs.map fun x=>.d (.bool x))=bs.map .bool:=by
 rw[OV.views_map,List.map_map];rfl
noncomputable def k9(pots size:Nat)(x:RF):Prop:=∃ (rows:List (List Bool)) (b':OV),rows.length=size/\(∀ r∈rows,r.length=pots)/\zH b'/\x=.ok (.l (rows.map fun r=>.d (zL r))) [some b',none,none]
theorem zcy(cf:CF)(ht:j2 cf){b:OV}(hb:zH b){pots size:Nat}(hp:pots<=1000)(hs:size<=1000):k9 pots size (runI 10 [true,false,false] [0] Zr cf [b,.d (.int pots),.d (.int size)]):=by
 obtain⟨way,b1,h1,h1',hb1,e1⟩:=ht b hb 4 (by decide) (by decide)
 obtain⟨ps,b2,hpl,hb2,e2⟩:=Y3 cf ht hb1 (pots:=pots) (way:=way) (size:=size) (n:=pots) hs (o4:=none) (o5:=none) (o6:=none) (o7:=none) (o8:=none) (o9:=none)
 obtain⟨Γ',e3,⟨rows,b3,o6,o7,o8,o9,hl,hr,hb3,rfl⟩⟩:=qC (t:=.nm 6 6) (body:=b_law_lacks_3.ex cf [0]) (ds:=zq size) (Γ:= [some b2,some (.d (.int pots)),some (.d (.int size)),some (.d (.int way)),some (.d (.list (ps.map fun p=>.tuple [.int p.1,.int p.2]))),some (.l []),none,none,none,none])
  (fun pre Γ=>∃ (rows:List (List Bool)) (b':OV) (o6 o7 o8 o9:Option OV),rows.length=pre.length/\(∀ r∈rows,r.length=pots)/\zH b'/\Γ= [some b',some (.d (.int pots)),some (.d (.int size)),some (.d (.int way)),some (.d (.list (ps.map fun p=>.tuple [.int p.1,.int p.2]))),some (.l (rows.map fun r=>.d (zL r))),o6,o7,o8,o9]) ⟨[],b2,_,_,_,_,rfl,(fun _ h=>nomatch h),hb2,rfl⟩ (by
   rintro pre d post e Γ ⟨rows,b3,o6,o7,o8,o9,hl,hr,hb3,rfl⟩
   obtain⟨rfl,hlt⟩:=jH e
   obtain⟨bs,b4,o8',o9',hbl,hb4,e4⟩:=K1 cf ht hb3 (pots:=pots) (way:=way) (size:=size) (at_:=pre.length) ps (by omega) (o4:=some (.d (.list (ps.map fun p=>.tuple [.int p.1,.int p.2])))) (o5:=some (.l (rows.map fun r=>.d (zL r)))) (o8:=o8) (o9:=o9)
   refine⟨_,[some b4,some (.d (.int pots)),some (.d (.int size)),some (.d (.int way)),some (.d (.list (ps.map fun p=>.tuple [.int p.1,.int p.2]))),some (.l ((rows++ [bs]).map fun r=>.d (zL r))),some (.d (.int pre.length)),some (.d (zL bs)),o8',o9'],by simp[tgF];rfl,?_,rows++ [bs],b4,_,_,_,_,by simp[hl],?_,hb4,rfl⟩
   ·have hz:rows.length<1000000:=by omega
    simp![b_law_lacks_3,OV.view,OV.views,zx,ixN,atI]
    rw[e4]
    simp![hz,yc,zL,OV.view,OV.views,zx,ixN,atI]
   ·intro r h
    rcases xJ.mp h with h | h
    ·exact hr r h
    ·have:r=bs:=by simpa using h
     subst this;rw[hbl,hpl])
 rw[zk]at hl
 refine⟨rows,b3,hl,hr,hb3,?_⟩
 have hp1: -1000000<=(pots:Int)/\(pots:Int)<=1000000:=by omega
 have hs1: -1000000<=(size:Int)/\(size:Int)<=1000000:=by omega
 have hp2:pots<=1000000:=by omega
 simp![Zr,e1,e2,e3,hp1,hs1,hp2,zk,OV.view,OV.views,zx,ixN,atI]
noncomputable def zd(xs:List Int):PyData:=.tuple (xs.map .int)
noncomputable def qt(st:List Int)(w:Bool)(wi:List Int):PyData:=.tuple [zd st,.bool w,zd wi]
noncomputable def In9(xs:List Int):Prop:=∀ x∈xs,0<=x/\x<=9
structure jv(pots:Nat)(st wi:List Int):Prop where
 sl:st.length=pots
 wl:wi.length=pots
 sn:In9 st
 wn:In9 wi
theorem In9.snoc{xs:List Int}{x:Int}(h:In9 xs)(h1:0<=x)(h2:x<=9):In9 (xs++ [x]):=by
 intro y hy
 rcases xJ.mp hy with hy | hy
 ·exact h y hy
 ·have:y=x:=by simpa using hy
  subst this;exact⟨h1,h2⟩
theorem JB(xs:List Int):leaves (xs.map fun x=>.d (.int x))=some (xs.map .int):=by
 induction xs with
 |nil=>rfl
 |cons x xs ih=>simp[leaves,ih]
noncomputable def kv (cf:CF):Prop:=∀ b,zH b->∀ (pots size:Nat),pots<=1000->size<=1000->k9 pots size (cf "_law_lacks" [b,.d (.int pots),.d (.int size)])
structure Cl where
 st:List Int
 w:Bool
 wi:List Int
noncomputable def Cl.D(c:Cl):PyData:=qt c.st c.w c.wi
end Wx
set_option maxHeartbeats 4000000
namespace Wx
open PySem L2 L3
theorem zl(n:Nat)(i:Int):lay n (.int i)=true:=by cases n<;>rfl
theorem zbn(n:Nat)(i:Bool):lay n (.bool i)=true:=by cases n<;>rfl
theorem zbo(n:Nat):lay n .none=true:=by cases n<;>rfl
theorem yi{n:Nat}{xs:List PyData}(h:∀ x∈xs,lay n x=true):lay (n+1) (.list xs)=true:=by rw[lay];exact xA.mpr h
theorem wf{n:Nat}{xs:List PyData}(h:∀ x∈xs,lay n x=true):lay (n+1) (.tuple xs)=true:=by rw[lay];exact xA.mpr h
theorem jc(n:Nat)(xs:List Nat):lay (n+1) (.list (xs.map fun (i:Nat)=>.int (i:Int)))=true:=yi fun x h=>by
 obtain⟨i,_,rfl⟩:=xn.mp h
 exact zl _ _
theorem zcH(n:Nat)(c:Cl):lay (n+2) c.D=true:=wf fun x h=>by
 have:x=zd c.st∨x=.bool c.w∨x=zd c.wi:=by simpa using h
 rcases this with rfl | rfl | rfl
 ·exact wf fun x h=>by obtain⟨i,_,rfl⟩:=xn.mp h;exact zl _ _
 ·exact zbn _ _
 ·exact wf fun x h=>by obtain⟨i,_,rfl⟩:=xn.mp h;exact zl _ _
theorem zb4(n:Nat)(cs:List Cl):lay (n+3) (.list (cs.map Cl.D))=true:=yi fun x h=>by
 obtain⟨c,_,rfl⟩:=xn.mp h
 exact zcH _ _
theorem JV{n:Nat}{d:PyData}(h:lay n d=true):PyData.eqv d d=true:=PySem.SeqAt.eqv_refl d (qT n d h).1
theorem zD(i j:Int):PyData.eqv (.int i) (.int j)=(i==j):=rfl
noncomputable def lk(cs:List Cl)(d i:Nat):Bool:=match cs[i]? with
 |some c=>decide (c.st.getD d 0<c.wi.getD d 0)
 |none=>false
noncomputable def zc(cs:List Cl)(d:Nat):List Nat:=(List.range cs.length).filter (lk cs d)
noncomputable def za(xs:List Nat):List PyData:=xs.map fun (i:Nat)=>.int (i:Int)
noncomputable def zh(xs:List Nat):OV:=.l (xs.map fun (i:Nat)=>.d (.int (i:Int)))
noncomputable def zb(cs:List Cl):PyData:=.list (cs.map Cl.D)
noncomputable def Bolt(pots:Nat)(cs:List Cl):Prop:=cs.length<=1000/\∀ c∈cs,jv pots c.st c.wi
theorem qP{xs:List Int}{d:Nat}(h:d<xs.length):atI (xs.map PyData.int) (d:Int)=some (.int (xs.getD d 0)):=by
 have e:(xs.map PyData.int)[d]?=some (.int (xs.getD d 0)):=by rw[xh,xb h,List.getD_eq_getElem?_getD,xb h];rfl
 unfold atI ixN
 rw[if_pos (by omega),if_pos (by rw[xi];omega)]
 simpa using e
theorem zck{α:Type}(a b c:α):atI [a,b,c] 0=some a:=rfl
theorem ze6{α:Type}(a b c:α):atI [a,b,c] 1=some b:=rfl
theorem zcF{α:Type}(a b c:α):atI [a,b,c] 2=some c:=rfl
theorem vk(xs:List Nat):(xs.map fun (i:Nat)=>PyData.int (i:Int)).map OV.d=xs.map fun (i:Nat)=>OV.d (.int (i:Int)):=by rw[List.map_map];rfl
theorem wb{xs pre post:List PyData}{d:PyData}(e:qx xs=pre++d::post):∃ x,xs[pre.length]?=some x/\d=.tuple [.int pre.length,x]:=Jb (by rw[e];simp)
theorem YN(cf:CF){pots:Nat}{cs:List Cl}(hb:Bolt pots cs){d:Nat}(hd:d<pots):runI 2 [false,false] [] Ji cf [.d (zb cs),.d (.int d)]=.ok (zh (zc cs d)) [none,none]:=by
 obtain⟨ys,Γ',e,rfl,rfl⟩:=qi (k:=4) (t:=.tp (.cons (.nm 0 2) (.cons (.tp (.cons (.nm 1 3) (.cons (.nm 2 4) (.cons (.nm 3 5) .nil)))) .nil))) (cond:=p_lacking_1.ev cf) (elt:=(p_lacking_2.ev cf).1) (ds:=qx (cs.map Cl.D)) (Γ:= [some (.d (zb cs)),some (.d (.int d))])
  (fun pre ys Γ=>ys=((List.range pre.length).filter (lk cs d)).map (fun (i:Nat)=>PyData.int (i:Int))/\Γ= [some (.d (zb cs)),some (.d (.int d))]) ⟨rfl,rfl⟩ (by
   rintro pre x post e ys Γ ⟨rfl,rfl⟩
   obtain⟨y,hy,rfl⟩:=wb e
   rw[xh]at hy
   cases hc:cs[pre.length]? with
   |none=>rw[hc]at hy;cases hy
   |some c=>
    rw[hc]at hy
    have:y=c.D:=by simpa using hy.symm
    subst this
    have ok:=hb.2 c (xN hc)
    have a1:=qP (xs:=c.st) (d:=d) (by rw[ok.sl];exact hd)
    have a2:=qP (xs:=c.wi) (d:=d) (by rw[ok.wl];exact hd)
    have hlk:lk cs d pre.length=decide (c.st.getD d 0<c.wi.getD d 0):=by unfold lk;rw[hc]
    refine⟨_,lk cs d pre.length,[some (.d (zb cs)),some (.d (.int d)),some (.d (.int pre.length)),some (.d (zd c.st)),some (.d (.bool c.w)),some (.d (zd c.wi))],by simp[tgF,tgFs,Cl.D,qt];rfl,?_,fun h=>⟨.dat (.int pre.length),[some (.d (zb cs)),some (.d (.int d)),some (.d (.int pre.length)),some (.d (zd c.st)),some (.d (.bool c.w)),some (.d (zd c.wi))],.int pre.length,by simp![p_lacking_2,OV.view,OV.views,zx,ixN,atI],rfl,?_,by simp⟩,fun h=>⟨?_,by simp⟩⟩
    ·rw[hlk];simp![p_lacking_1,zd,a1,a2,OV.view,OV.views,zx]
    ·simp[xR,xO,h]
    ·simp[xR,xO,h])
 have hz:cs.length<=1000000:=by have:=hb.1;omega
 simp only[qu,xi]at e
 simp![Ji,zb,hz,qu,OV.view,OV.views,zx,ixN,atI]
 simp only[zb]at e
 rw[e]
 simp[zh,zc,vk,outs]
theorem zeb(cf:CF){pots:Nat}{cs:List Cl}(hb:Bolt pots cs){d:Nat}(hd:d<pots):runI 2 [false,false] [] ZY cf [.d (zb cs),.d (.int d)]=.ok (zh (zc cs d)) [none,none]:=by
 obtain⟨ys,Γ',e,rfl,rfl⟩:=qi (k:=1) (t:=.nm 0 2) (cond:=b_law_lack_1.ev cf) (elt:=(b_law_lack_2.ev cf).1) (ds:=zq cs.length) (Γ:= [some (.d (zb cs)),some (.d (.int d))])
  (fun pre ys Γ=>ys=((List.range pre.length).filter (lk cs d)).map (fun (i:Nat)=>PyData.int (i:Int))/\Γ= [some (.d (zb cs)),some (.d (.int d))]) ⟨rfl,rfl⟩ (by
   rintro pre x post e ys Γ ⟨rfl,rfl⟩
   obtain⟨rfl,hlt⟩:=jH e
   have hc:cs[pre.length]?=some cs[pre.length]:=xb hlt
   generalize cs[pre.length]=c at hc
   have ok:=hb.2 c (xN hc)
   have a1:=qP (xs:=c.st) (d:=d) (by rw[ok.sl];exact hd)
   have a2:=qP (xs:=c.wi) (d:=d) (by rw[ok.wl];exact hd)
   have a0:atI (cs.map Cl.D) (pre.length:Int)=some c.D:=qO (by rw[xh,hc];rfl)
   have hlk:lk cs d pre.length=decide (c.st.getD d 0<c.wi.getD d 0):=by unfold lk;rw[hc]
   refine⟨_,lk cs d pre.length,[some (.d (zb cs)),some (.d (.int d)),some (.d (.int pre.length))],by simp[tgF];rfl,?_,fun h=>⟨.dat (.int pre.length),[some (.d (zb cs)),some (.d (.int d)),some (.d (.int pre.length))],.int pre.length,by simp![b_law_lack_2,OV.view,OV.views,zx,ixN,atI],rfl,?_,by simp⟩,fun h=>⟨?_,by simp⟩⟩
   ·rw[hlk];simp![b_law_lack_1,zb,a0,OV.view,OV.views,zx,zck,zcF,Cl.D,qt,zd,a1,a2]
   ·simp[xR,xO,h]
   ·simp[xR,xO,h])
 have hz:cs.length<=1000000:=by have:=hb.1;omega
 have hz1: -1000000<=(cs.length:Int)/\(cs.length:Int)<=1000000:=by omega
 simp only[zk]at e
 simp![ZY,zb,hz,hz1,zk,OV.view,OV.views,zx,ixN,atI]
 simp only[zb]at e
 rw[e]
 simp[zh,zc,vk,outs]
noncomputable def qE(x:Str)(cf:CF):Prop:=∀ (pots:Nat) (cs:List Cl),Bolt pots cs->∀ d:Nat,d<pots->cf x [.d (zb cs),.d (.int d)]=.ok (zh (zc cs d)) [none,none]
noncomputable def zi(cs:List Cl)(pots:Nat):List Nat:=(List.range pots).filter fun d=> !(zc cs d).isEmpty
theorem zn(xs:List Nat):(zh xs).view=.list (za xs):=by
 unfold zh za
 rw[OV.view,OV.views_map,List.map_map];rfl
theorem Zf(xs:List Nat):(za xs).isEmpty=xs.isEmpty:=by cases xs<;>rfl
theorem zt(xs:List Nat):(za xs).length=xs.length:=by simp[za]
theorem zaF (cf:CF) (hl:qE "lacking" cf){pots:Nat}(hp:pots<=1000){cs:List Cl}(hb:Bolt pots cs):runI 2 [false] [] Qe cf [.d (zb cs)]=.ok (zh (if cs.isEmpty then [] else zi cs pots)) [none]:=by
 cases cs with
 |nil=>simp![Qe,zb,zh,OV.view,OV.views,zx,ixN,atI]
 |cons c cs=>
  have e:=zC (k:=1) (t:=.nm 0 2) (cond:=p_needed_1.ev cf) (elt:=(p_needed_2.ev cf).1) (ds:=zq pots) (Γ:= [some (.d (zb (c::cs))),some (.d (.int pots))])
   (fun x=>match x with | .int i=> !(zc (c::cs) i.toNat).isEmpty | _=>false) id (by
    intro x hx
    obtain⟨i,hi,rfl⟩:∃ i,i<pots/\x=.int (i:Nat):=by
     obtain⟨i,hi,rfl⟩:=xn.mp hx
     exact⟨i,by simpa using hi,rfl⟩
    have el:=hl pots (c::cs) hb i hi
    refine⟨_,[some (.d (zb (c::cs))),some (.d (.int pots)),some (.d (.int i))],by simp[tgF];rfl,?_,by simp,fun _=>⟨.dat (.int i),[some (.d (zb (c::cs))),some (.d (.int pots)),some (.d (.int i))],by simp![p_needed_2,OV.view,OV.views,zx,ixN,atI],rfl,by simp⟩⟩
    simp![p_needed_1,el,zx,ixN,atI,zn,Zf])
  have hc:=(hb.2 c (by simp)).sl
  have hz1: -1000000<=(pots:Int)/\(pots:Int)<=1000000:=by omega
  have hz:pots<=1000000:=by omega
  have ef:(zq pots).filter (fun x=>match x with | .int i=> !(zc (c::cs) i.toNat).isEmpty | _=>false)=za (zi (c::cs) pots):=by
   unfold zq zi za
   rw[uN]
   rfl
  rw[ef,List.map_id]at e
  simp only[zb,xI]at e
  simp![Qe,zb,Cl.D,qt,zd,hc,OV.view,OV.views,zx,ixN,atI,hz1,hz,zk]
  simp only[Cl.D,qt,zd]at e
  rw[e]
  simp[zh,za,outs]
theorem zd1 (cf:CF) (hl:qE "_law_lack" cf){pots:Nat}(hp:pots<=1000){cs:List Cl}(hb:Bolt pots cs):runI 2 [false,false] [] ZT cf [.d (zb cs),.d (.int pots)]=.ok (zh (zi cs pots)) [none,none]:=by
 have e:=zC (k:=1) (t:=.nm 0 2) (cond:=b_law_need_1.ev cf) (elt:=(b_law_need_2.ev cf).1) (ds:=zq pots) (Γ:= [some (.d (zb cs)),some (.d (.int pots))])
   (fun x=>match x with | .int i=> !(zc cs i.toNat).isEmpty | _=>false) id (by
    intro x hx
    obtain⟨i,hi,rfl⟩:∃ i,i<pots/\x=.int (i:Nat):=by
     obtain⟨i,hi,rfl⟩:=xn.mp hx
     exact⟨i,by simpa using hi,rfl⟩
    have el:=hl pots cs hb i hi
    refine⟨_,[some (.d (zb cs)),some (.d (.int pots)),some (.d (.int i))],by simp[tgF];rfl,?_,by simp,fun _=>⟨.dat (.int i),[some (.d (zb cs)),some (.d (.int pots)),some (.d (.int i))],by simp![b_law_need_2,OV.view,OV.views,zx,ixN,atI],rfl,by simp⟩⟩
    have hem:decide (0<((zc cs i).length:Int))= !(zc cs i).isEmpty:=by
     cases zc cs i with
     |nil=>rfl
     |cons a l=>simp
    simp only[Int.toNat_natCast,<- hem]
    simp![b_law_need_1,el,zx,ixN,atI,zn,zt])
 have hz1: -1000000<=(pots:Int)/\(pots:Int)<=1000000:=by omega
 have hz:pots<=1000000:=by omega
 have ef:(zq pots).filter (fun x=>match x with | .int i=> !(zc cs i.toNat).isEmpty | _=>false)=za (zi cs pots):=by
  unfold zq zi za
  rw[uN]
  rfl
 rw[ef,List.map_id]at e
 simp only[zb]at e
 simp![ZT,zb,hz1,hz,zk,OV.view,OV.views,zx,ixN,atI]
 rw[e]
 simp[zh,za,outs]
theorem zT{α:Type}(l:List α):l.filter (fun _=>true)=l:=List.filter_eq_self.mpr fun _ _=>rfl
theorem zbD(cf:CF)(i:Int):runI 1 [false] [] j9 cf [.d (.int i)]=.ok (.d (.bool true)) [none]:=by
 simp![j9,OV.view,OV.views,zx,ixN,atI]
noncomputable def vG (cf:CF):Prop:=∀ i:Int,cf "_law_whole" [.d (.int i)]=.ok (.d (.bool true)) [none]
theorem zaM(cf:CF)(hw:vG cf){xs:List Nat}(hl:xs.length<=1000):runI 1 [false] [] j5 cf [.d (.list (za xs))]=.ok (.d (.bool true)) [none]:=by
 have e:=zC (k:=1) (t:=.nm 0 1) (cond:=fYes) (elt:=(b_law_wholes_1.ev cf).1) (ds:=za xs) (Γ:= [some (.d (.list (za xs)))]) (fun _=>true) (fun _=>.bool true) (by
  intro x hx
  obtain⟨i,_,rfl⟩:=xn.mp hx
  refine⟨_,_,by simp[tgF];rfl,rfl,by simp,fun _=>⟨.dat (.bool true),[some (.d (.list (za xs))),some (.d (.int i))],?_,rfl,by simp⟩⟩
  simp![b_law_wholes_1,hw (i:Int),OV.view,OV.views,zx,ixN,atI])
 have hz:xs.length<=1000000:=by omega
 have hb:qg (List.map (fun _=>PyData.bool true) (List.filter (fun _=>true) (za xs)))=some ((za xs).map fun _=>true):=by
  rw[zT,<- qf,List.map_map];rfl
 have ha:((za xs).map fun _=>true).all id=true:=by simp
 simp![j5,zt,hz,OV.view,OV.views,zx,ixN,atI]
 rw[e]
 simp only[uW,gAll,hb,um,ha,outs];rfl
noncomputable def Kk (cf:CF):Prop:=∀ b,zH b->∃ (p n:Int) (b':OV),0<=p/\p<=12/\0<=n/\n<=40/\zH b'/\cf "_law_sizes" [b]=.ok (.d (.tuple [.int p,.int n])) [some b']
noncomputable def wv (cf:CF):Prop:=∀ xs:List Nat,xs.length<=1000->cf "_law_wholes" [.d (.list (za xs))]=.ok (.d (.bool true)) [none]
theorem qF(cs:List Cl):OV.view (.l (cs.map fun c=>.d c.D))=zb cs:=by
 rw[OV.view,OV.views_map,List.map_map];rfl
end Wx
set_option maxHeartbeats 4000000
namespace Wx
open PySem L2 L3
theorem JF:∀ xs ys:List Nat,PyData.eqvAll (za xs) (za ys)=decide (xs=ys)
 |[],[]=>rfl
 |[],y::ys=>by simp[za,PyData.eqvAll]
 |x::xs,[]=>by simp[za,PyData.eqvAll]
 |x::xs,y::ys=>by
  have ih:=JF xs ys
  unfold za at ih |-
  rw[xI,xI,PyData.eqvAll,zD,ih]
  by_cases h:x=y
  ·subst h;simp
  ·have:((x:Int)==(y:Int))=false:=by simp;omega
   simp[this,h]
theorem QV(xs ys:List Nat):PyData.eqv (.list (za xs)) (.list (za ys))=decide (xs=ys):=by
 rw[PyData.eqv];exact JF xs ys
theorem qG(xs:List Nat):qk (za xs)=some (xs.map fun (i:Nat)=>(i:Int)):=by
 have:=w6 (xs.map fun (i:Nat)=>(i:Int))
 rw[List.map_map]at this
 exact this
theorem zat(xs ys:List Nat):(((Za (xs.map fun (i:Nat)=>(i:Int)) (ys.map fun (i:Nat)=>(i:Int)):Nat):Int)==0)=xs.all fun x=>ys.contains x:=by
 have hc:∀ x:Nat,(ys.map fun (i:Nat)=>(i:Int)).contains (x:Int)=ys.contains x:=fun x=>by
  rw[xP];simp
  constructor
  ·rintro⟨a,h,e⟩
   have:a=x:=by omega
   exact this ▸ h
  ·intro h;exact⟨x,h,rfl⟩
 have hz:Za (xs.map fun (i:Nat)=>(i:Int)) (ys.map fun (i:Nat)=>(i:Int))=0↔∀ x∈xs,ys.contains x=true:=by
  unfold Za
  rw[uP]
  constructor
  ·intro h x hx
   cases e:ys.contains x with
   |true=>rfl
   |false=>
    have:(x:Int)∈Tab.dedup ((xs.map fun (i:Nat)=>(i:Int)).filter fun k=> !(ys.map fun (i:Nat)=>(i:Int)).contains k):=by
     rw[<- Qz,Tab.any_dedup,xr]
     exact⟨xn.mpr ⟨x,hx,rfl⟩,by rw[hc,e];rfl⟩
    rw[h]at this;cases this
  ·intro h
   cases e:Tab.dedup ((xs.map fun (i:Nat)=>(i:Int)).filter fun k=> !(ys.map fun (i:Nat)=>(i:Int)).contains k) with
   |nil=>rfl
   |cons k l=>
    have:k∈Tab.dedup ((xs.map fun (i:Nat)=>(i:Int)).filter fun k=> !(ys.map fun (i:Nat)=>(i:Int)).contains k):=by rw[e];simp
    rw[<- Qz,Tab.any_dedup,xr]at this
    obtain⟨h1,h2⟩:=this
    obtain⟨x,hx,rfl⟩:=xn.mp h1
    rw[hc,h x hx]at h2;cases h2
 rw[xP,beq_iff_eq,xA,<- hz]
 omega
noncomputable def j7(a b:Nat)(xs ys:List Nat):Bool:=if xs=ys then decide (b<a) else xs.all fun x=>ys.contains x
theorem zb7(cf:CF)(a b:Nat){xs ys:List Nat}(hx:xs.length<=60)(hy:ys.length<=60):runI 6 [false,false] [] jQ cf [.d (.tuple [.int a,.list (za xs)]),.d (.tuple [.int b,.list (za ys)])]=.ok (.d (.bool (j7 a b xs ys))) [none,none]:=by
 have l1:lay 20 (.list (za xs))=true:=jc 19 _
 have l2:lay 20 (.list (za ys))=true:=jc 19 _
 have hz:=zat xs ys
 by_cases he:xs=ys
 ·simp![jQ,j7,he,l2,QV,OV.view,OV.views,zx,ixN,atI]
 ·simp![jQ,j7,he,l1,l2,QV,kN,qG,hx,hy,zl,zD,hz,OV.view,OV.views,zx,ixN,atI]
noncomputable def ju(cs:List Cl)(i:Nat):Bool:=match cs[i]? with
 |some c=>c.w
 |none=>false
theorem zcZ{cs:List Cl}{i:Nat}(h:i<cs.length):atI (cs.map Cl.D) (i:Int)=some (qt cs[i].st (ju cs i) cs[i].wi):=by
 refine qO ?_
 rw[xh,xb h]
 unfold ju
 rw[xb h];rfl
theorem yA{cs:List Cl}{d i:Nat}(h:i∈zc cs d):i<cs.length:=xE.mp (xr.mp h).1
theorem JA(xs:List Nat)(q:Nat->Bool):(za xs).filter (fun x=>match x with | .int i=>q i.toNat | _=>false)=za (xs.filter q):=by
 unfold za
 rw[uN];rfl
theorem zg0 (cf:CF) (hl:qE "lacking" cf){pots:Nat}{cs:List Cl}(hb:Bolt pots cs){d:Nat}(hd:d<pots):runI 2 [false,false] [] qz cf [.d (zb cs),.d (.int d)]=.ok (zh ((zc cs d).filter (ju cs))) [none,none]:=by
 have el:=hl pots cs hb d hd
 have e:=zC (k:=1) (t:=.nm 0 2) (cond:=p_lacking_under_wax_1.ev cf) (elt:=(p_lacking_under_wax_2.ev cf).1) (ds:=za (zc cs d)) (Γ:= [some (.d (zb cs)),some (.d (.int d))])
  (fun x=>match x with | .int i=>ju cs i.toNat | _=>false) id (by
   intro x hx
   obtain⟨i,hi,rfl⟩:=xn.mp hx
   have hw:=zcZ (yA hi)
   refine⟨_,[some (.d (zb cs)),some (.d (.int d)),some (.d (.int i))],by simp[tgF];rfl,?_,by simp,fun _=>⟨.dat (.int i),[some (.d (zb cs)),some (.d (.int d)),some (.d (.int i))],by simp![p_lacking_under_wax_2,OV.view,OV.views,zx,ixN,atI],rfl,by simp⟩⟩
   simp![p_lacking_under_wax_1,zb,hw,OV.view,OV.views,zx,qt,ze6])
 rw[JA,List.map_id]at e
 have hz:(zc cs d).length<=1000000:=by
  have h1:=xS (lk cs d) (List.range cs.length)
  rw[xK]at h1
  have:=hb.1
  unfold zc;omega
 simp![qz,el,zn,zt,hz,zx,ixN,atI]
 rw[e]
 simp[zh,za,outs]
noncomputable def ub(cs:List Cl)(a b:Nat):Bool:=if a=b∨a=12 then false else if b=12 then !(zc cs a).any (ju cs) else j7 a b (zc cs a) (zc cs b)
theorem QT(cs:List Cl)(d:Nat):(zc cs d).length<=cs.length:=by
 have:=xS (lk cs d) (List.range cs.length)
 rw[xK]at this;exact this
noncomputable def JR (cf:CF):Prop:=∀ (a b:Nat) (xs ys:List Nat),xs.length<=60->ys.length<=60->cf "is_lower" [.d (.tuple [.int a,.list (za xs)]),.d (.tuple [.int b,.list (za ys)])]=.ok (.d (.bool (j7 a b xs ys))) [none,none]
noncomputable def zbQ (cf:CF):Prop:=∀ (pots:Nat) (cs:List Cl),Bolt pots cs->∀ d:Nat,d<pots->cf "lacking_under_wax" [.d (zb cs),.d (.int d)]=.ok (zh ((zc cs d).filter (ju cs))) [none,none]
noncomputable def Mem(pots a:Nat):Prop:=a<pots∨a=12
theorem Yk(xs:List Nat)(q:Nat->Bool):(!(za (xs.filter q)).isEmpty)=xs.any q:=by
 rw[Zf]
 induction xs with
 |nil=>rfl
 |cons x xs ih=>
  rw[uX,uF]
  cases q x with
  |true=>simp
  |false=>simpa using ih
theorem jZ(xs:List Nat)(i:Nat):inD (.int (i:Int)) (za xs)=xs.contains i:=by
 unfold inD za
 rw[uS,xP,uY]
 constructor
 ·rintro⟨x,hx,e⟩
  have e2:((x:Int)==(i:Int))=true:=e
  have e3:(x:Int)=(i:Int):=by simpa using e2
  have:x=i:=by omega
  subst this;simpa using hx
 ·intro h
  refine⟨i,by simpa using h,?_⟩
  show ((i:Int)==(i:Int))=true
  simp
theorem jR(xs:List Nat):(za xs).all (lay 20)=true:=by
 rw[xA]
 intro x hx
 obtain⟨i,_,rfl⟩:=xn.mp hx
 exact zl _ _
theorem zcz (cf:CF) (hl:qE "_law_lack" cf){pots:Nat}(hp:pots<=12){cs:List Cl}(hb:Bolt pots cs){a b:Nat}(ha:Mem pots a) (hbm:Mem pots b) :
  runI 5 [false,false,false] [] qp cf [.d (zb cs),.d (.int a),.d (.int b)]=.ok (.d (.bool (ub cs a b))) [none,none,none]:=by
 by_cases h0:a=b
 ·subst h0
  simp![qp,ub,zl,zD,OV.view,OV.views,zx,ixN,atI]
 ·have n0:((a:Int)==(b:Int))=false:=by simp;omega
  by_cases h1:a=12
  ·subst h1
   simp![qp,ub,n0,zl,zD,OV.view,OV.views,zx,ixN,atI]
  ·have ha':a<pots:=ha.resolve_right h1
   have n1:((a:Int)==12)=false:=by simp;omega
   have e1:=hl pots cs hb a ha'
   have v1:=zn (zc cs a)
   have hz:(zc cs a).length<=1000000:=by have:=QT cs a;have:=hb.1;omega
   simp only[zh]at e1 v1
   by_cases h2:b=12
   ·subst h2
    have e:=zC (k:=1) (t:=.nm 0 5) (cond:=fYes) (elt:=(b_law_under_1.ev cf).1) (ds:=za (zc cs a)) (Γ:= [some (.d (zb cs)),some (.d (.int a)),some (.d (.int 12)),some (.d (.list (za (zc cs a)))),none])
     (fun _=>true) (fun x=>match x with | .int i=>.bool (ju cs i.toNat) | _=>.none) (by
      intro x hx
      obtain⟨i,hi,rfl⟩:=xn.mp hx
      have hw:=zcZ (yA hi)
      refine⟨_,_,by simp[tgF];rfl,rfl,by simp,fun _=>⟨.dat (.bool (ju cs i)),[some (.d (zb cs)),some (.d (.int a)),some (.d (.int 12)),some (.d (.list (za (zc cs a)))),none,some (.d (.int i))],?_,rfl,by simp⟩⟩
      simp![b_law_under_1,zb,hw,OV.view,OV.views,zx,qt,ze6])
    have em:((za (zc cs a)).filter fun _=>true).map (fun x=>match x with | .int i=>PyData.bool (ju cs i.toNat) | _=>.none)=((zc cs a).map (ju cs)).map .bool:=by
     rw[zT];unfold za;rw[List.map_map,List.map_map];rfl
    rw[em]at e
    have hba:=qf ((zc cs a).map (ju cs))
    have hany:((zc cs a).map (ju cs)).any id=(zc cs a).any (ju cs):=by rw[uS];rfl
    simp![qp,ub,h1,n0,n1,zl,zD,e1,v1,zt,hz,zx,ixN,atI]
    rw[e]
    simp only[uW,gAny,hba,um,hany,truD,outs]
    rfl
   ·have hb':b<pots:=hbm.resolve_right h2
    have n2:((b:Int)==12)=false:=by simp;omega
    have e2:=hl pots cs hb b hb'
    have v2:=zn (zc cs b)
    have l1:lay 20 (.list (za (zc cs a)))=true:=jc 19 _
    have l2:lay 20 (.list (za (zc cs b)))=true:=jc 19 _
    simp only[zh]at e2 v2
    by_cases he:zc cs a=zc cs b
    ·have hu:ub cs a b=decide (b<a):=by unfold ub j7;simp[h0,h1,h2,he]
     have v1':=v1
     rw[he]at e1 v1'
     simp![qp,hu,n0,n1,n2,zl,zD,e1,e2,v2,l2,QV,zx,ixN,atI]
    ·have e:=zC (k:=1) (t:=.nm 0 5) (cond:=fYes) (elt:=(b_law_under_2.ev cf).1) (ds:=za (zc cs a)) (Γ:= [some (.d (zb cs)),some (.d (.int a)),some (.d (.int b)),some (.d (.list (za (zc cs a)))),some (.d (.list (za (zc cs b))))])
      (fun _=>true) (fun x=>match x with | .int i=>.bool ((zc cs b).contains i.toNat) | _=>.none) (by
       intro x hx
       obtain⟨i,hi,rfl⟩:=xn.mp hx
       have hin:=jZ (zc cs b) i
       have hal:=jR (zc cs b)
       refine⟨_,_,by simp[tgF];rfl,rfl,by simp,fun _=>⟨.dat (.bool ((zc cs b).contains i)),[some (.d (zb cs)),some (.d (.int a)),some (.d (.int b)),some (.d (.list (za (zc cs a)))),some (.d (.list (za (zc cs b)))),some (.d (.int i))],?_,rfl,by simp⟩⟩
       generalize (zc cs b).contains i=z at *
       generalize za (zc cs b)=ds at *
       have hal':∀ x∈ds,lay 20 x=true:=xA.mp hal
       simp![b_law_under_2,hin,zl,OV.view,OV.views,zx,ixN,atI]
       rw[if_pos hal'])
     have em:((za (zc cs a)).filter fun _=>true).map (fun x=>match x with | .int i=>PyData.bool ((zc cs b).contains i.toNat) | _=>.none)=((zc cs a).map fun i=>(zc cs b).contains i).map .bool:=by
      rw[zT];unfold za;rw[List.map_map,List.map_map];rfl
     rw[em]at e
     have hba:=qf ((zc cs a).map fun i=>(zc cs b).contains i)
     have hall:((zc cs a).map fun i=>(zc cs b).contains i).all id=(zc cs a).all fun i=>(zc cs b).contains i:=by rw[List.all_map];rfl
     have hu:ub cs a b=(zc cs a).all fun i=>(zc cs b).contains i:=by unfold ub j7;simp[h0,h1,h2,he]
     have he':PyData.eqv (.list (za (zc cs a))) (.list (za (zc cs b)))=false:=by rw[QV];simp[he]
     rw[hu]
     generalize hzz:(zc cs a).all (fun i=>(zc cs b).contains i)=zz at *
     simp![qp,n0,n1,n2,zl,zD,e1,v1,e2,v2,l1,l2,he',zt,hz,zx,ixN,atI]
     rw[e]
     simp only[uW,gAll,hba,um,hall,outs]
     rfl
end Wx
namespace Ku
noncomputable abbrev FL:=List (Option Nat)
noncomputable def fat(F:FL)(p:Nat):Option Nat:=(F[p]?).getD none
theorem qU{F:FL}{p:Nat}{s:Option Nat}(h:p<F.length):fat (F.set p s) p=s:=by unfold fat;rw[xt h];rfl
theorem qc{F:FL}{p q:Nat}{s:Option Nat}(h:p≠q):fat (F.set p s) q=fat F q:=by unfold fat;rw[xv h]
theorem zfw{F:FL}{p s:Nat}(h:fat F p=some s):p<F.length:=by
 by_cases hp:p<F.length
 ·exact hp
 ·unfold fat at h;rw[xj (by omega)]at h;cases h
theorem nodup_len:∀ {l T:List Nat},l.Nodup->(∀ x∈l,x∈T)->l.length<=T.length
 |[],T,_,_=>ui _
 |a::l,T,h,hs=>by
  have ha:a∈T:=hs a (by simp)
  have hn:=xC.mp h
  have:=nodup_len (l:=l) (T:=T.erase a) hn.2 (fun x hx=>by
   have hxa:x≠a:=fun e=>hn.1 (e ▸ hx)
   exact (List.mem_erase_of_ne hxa).mpr (hs x (xl _ hx)))
  rw[List.length_erase_of_mem ha]at this
  have hp:=List.length_pos_of_mem ha
  simp only[xk]
  omega
theorem Wh{T:List Nat}{N:Nat}(h:T.Nodup)(hl:∀ p∈T,p<N):T.length<=N:=by
 have:=nodup_len (T:=List.range N) h fun x hx=>xE.mpr (hl x hx)
 rwa [xK]at this
theorem jN{α:Type}(l:List α)(q:α->Bool):(l.filter q).length+(l.filter fun x=> !q x).length=l.length:=by
 induction l with
 |nil=>rfl
 |cons a l ih=>
  rw[uX,uX]
  cases q a<;>simp<;>omega
theorem ke{M T:List Nat}(hM:M.Nodup):M.length<=(M.filter fun x=> !T.contains x).length+T.length:=by
 have h1:=jN M fun x=>T.contains x
 have h2:(M.filter fun x=>T.contains x).length<=T.length:=nodup_len (hM.filter _) fun x hx=>by simpa using (xr.mp hx).2
 omega
theorem zhF:∀ {Ss:List (List Nat)}{A:List Nat},A.Nodup->(∀ a∈A,∃ S∈Ss,a∈S)->(∀ S∈Ss,∀ x∈A,∀ y∈A,x∈S->y∈S->x=y)->A.length<=Ss.length
 |[],A,_,hc,_=>by
  cases A with
  |nil=>simp
  |cons a A=>obtain⟨S,h,_⟩:=hc a (by simp);cases h
 |S::Ss,A,hn,hc,h1=>by
  have ih:=zhF (Ss:=Ss) (A:=A.filter fun x=> !S.contains x) (hn.filter _) (fun a ha=>by
   have ha':=xr.mp ha
   obtain⟨S',hS,hin⟩:=hc a ha'.1
   rcases xo.mp hS with rfl | hS
   ·have:=ha'.2
    simp[hin]at this
   ·exact⟨S',hS,hin⟩) (fun S' hS x hx y hy=>h1 S' (xl _ hS) x (xr.mp hx).1 y (xr.mp hy).1)
  have h2:=jN A fun x=>S.contains x
  have h3:(A.filter fun x=>S.contains x).length<=1:=by
   cases e:A.filter fun x=>S.contains x with
   |nil=>simp
   |cons a l=>
    cases l with
    |nil=>simp
    |cons b l=>
     have hnd:=hn.filter fun x=>S.contains x
     rw[e]at hnd
     have ha:a∈A.filter fun x=>S.contains x:=by rw[e];simp
     have hb:b∈A.filter fun x=>S.contains x:=by rw[e];simp
     have ha':=xr.mp ha
     have hb':=xr.mp hb
     have:a=b:=h1 S (by simp) a ha'.1 b hb'.1 (by simpa using ha'.2) (by simpa using hb'.2)
     subst this
     simp at hnd
  simp only[xk]
  omega
noncomputable abbrev RT:=Bool×FL×List Nat
noncomputable def zY(rec:Nat->FL->List Nat->RT)(a:Nat):List Nat->FL->List Nat->RT
 |[],F,T=>(false,F,T)
 |p::ps,F,T=>if T.contains p then zY rec a ps F T else
  match fat F p with
  |none=>(true,F.set p (some a),T++ [p])
  |some s=>match rec s F (T++ [p]) with
   | (true,F',T')=>(true,F'.set p (some a),T')
   | (false,F',T')=>zY rec a ps F' T'
noncomputable def up(ab:List (List Nat))(a:Nat):List Nat:=(ab[a]?).getD []
noncomputable def zm(ab:List (List Nat)):Nat->Nat->FL->List Nat->RT
 |0,_,F,T=>(false,F,T)
 |n+1,a,F,T=>zY (zm ab n) a (up ab a) F T
structure Val(ab:List (List Nat))(N:Nat)(F:FL)(T:List Nat):Prop where
 len:F.length=N
 edge:∀ p s,fat F p=some s->s<N/\p∈up ab s
 inj:∀ p q s,p∉T->q∉T->fat F p=some s->fat F q=some s->p=q
structure TOk(N:Nat)(T:List Nat):Prop where
 nd:T.Nodup
 lt:∀ p∈T,p<N
theorem TOk.snoc{N:Nat}{T:List Nat}{p:Nat}(h:TOk N T)(hp:p∉T)(hl:p<N):TOk N (T++ [p]):=by
 refine⟨?_,fun q hq=>?_⟩
 ·rw[uk]
  refine⟨h.nd,by simp,fun a ha b hb=>?_⟩
  have:b=p:=by simpa using hb
  subst this
  exact fun e=>hp (e ▸ ha)
 ·rcases xJ.mp hq with hq | hq
  ·exact h.lt q hq
  ·have:q=p:=by simpa using hq
   omega
structure zdJ(ab:List (List Nat))(N:Nat)(F:FL)(T:List Nat)(a:Nat)(F':FL):Prop where
 val:Val ab N F' T
 keep:∀ p∈T,fat F' p=fat F p
 vals:∀ p s,p∉T->fat F' p=some s->s=a∨∃ q,q∉T/\fat F q=some s
 has:∃ p,p∉T/\fat F' p=some a
 old:∀ q s,q∉T->fat F q=some s->∃ p,p∉T/\fat F' p=some s
structure Spec(ab:List (List Nat))(N:Nat)(F:FL)(T:List Nat)(a:Nat)(ps:List Nat)(r:RT):Prop where
 tok:TOk N r.2.2
 sub:∀ p∈T,p∈r.2.2
 same:r.1=false->r.2.1=F
 all:r.1=false->∀ p∈ps,p∈r.2.2
 dead:r.1=false->∀ p∈r.2.2,p∉T->∃ s,fat F p=some s/\∀ q∈up ab s,q∈r.2.2
 succ:r.1=true->zdJ ab N F T a r.2.1
section
variable {ab:List (List Nat)} {N:Nat} (hab:∀ a p,p∈up ab a->p<N)
include hab
theorem zar{F:FL}{T:List Nat}{a p:Nat}(v:Val ab N F T)(ha:a<N)(hna:∀ p,p∉T->fat F p≠some a)(hp:p∈up ab a)(hpT:p∉T)(hF:fat F p=none):zdJ ab N F T a (F.set p (some a)):=by
 have hpl:p<F.length:=by rw[v.len];exact hab a p hp
 have get:∀ q s,fat (F.set p (some a)) q=some s->(q=p/\s=a)∨(q≠p/\fat F q=some s):=fun q s e=>by
  by_cases hq:q=p
  ·subst hq;rw[qU hpl]at e;cases e;exact .inl ⟨rfl,rfl⟩
  ·rw[qc (Ne.symm hq)]at e;exact .inr ⟨hq,e⟩
 refine⟨⟨by rw[ul];exact v.len,fun q s e=>?_,fun q q' s h1 h2 e1 e2=>?_⟩,fun q hq=>qc fun e=>hpT (e ▸ hq),fun q s hq e=>?_,⟨p,hpT,qU hpl⟩,fun q s hq e=>⟨q,hq,?_⟩⟩
 ·rcases get q s e with ⟨rfl,rfl⟩ | ⟨_,e⟩
  ·exact⟨ha,hp⟩
  ·exact v.edge q s e
 ·rcases get q s e1 with ⟨a1,b1⟩ | ⟨_,f1⟩
  ·rcases get q' s e2 with ⟨a2,b2⟩ | ⟨_,f2⟩
   ·rw[a1,a2]
   ·rw[b1]at f2;exact absurd f2 (hna q' h2)
  ·rcases get q' s e2 with ⟨a2,b2⟩ | ⟨_,f2⟩
   ·rw[b2]at f1;exact absurd f1 (hna q h1)
   ·exact v.inj q q' s h1 h2 f1 f2
 ·rcases get q s e with ⟨rfl,rfl⟩ | ⟨_,e⟩
  ·exact .inl rfl
  ·exact .inr ⟨q,hq,e⟩
 ·rw[qc];exact e
  intro z;subst z;rw[hF]at e;cases e
theorem zaC{F F1:FL}{T0 T:List Nat}{a p s:Nat}(v:Val ab N F T0)(hT:∀ q∈T0,q∈T)(ha:a<N)(hna:∀ p,p∉T0->fat F p≠some a)(hp:p∈up ab a)(hpT:p∉T)(hF:fat F p=some s)
  (h1:zdJ ab N F (T++ [p]) s F1):zdJ ab N F T0 a (F1.set p (some a)):=by
 have hpl:p<F1.length:=by rw[h1.val.len];exact hab a p hp
 have hp0:p∉T0:=fun h=>hpT (hT p h)
 have mem:∀ q,q∉T++ [p]->q∉T/\q≠p:=fun q h=>⟨fun z=>h (xq _ z),fun z=>h (by simp[z])⟩
 have mem':∀ q,q∉T->q≠p->q∉T++ [p]:=fun q h h' z=>by
  rcases xJ.mp z with z | z
  ·exact h z
  ·exact h' (by simpa using z)
 have get:∀ q x,fat (F1.set p (some a)) q=some x->(q=p/\x=a)∨(q≠p/\fat F1 q=some x):=fun q s e=>by
  by_cases hq:q=p
  ·subst hq;rw[qU hpl]at e;cases e;exact .inl ⟨rfl,rfl⟩
  ·rw[qc (Ne.symm hq)]at e;exact .inr ⟨hq,e⟩
 have noa:∀ q,q∉T0->q≠p->fat F1 q≠some a:=fun q hq hqp e=>by
  by_cases hqT:q∈T
  ·rw[h1.keep q (xq _ hqT)]at e;exact hna q hq e
  ·rcases h1.vals q a (mem' q hqT hqp) e with e' | ⟨z,hz,e'⟩
   ·rw[<- e']at hF;exact hna p hp0 hF
   ·exact hna z (fun w=>(mem z hz).1 (hT z w)) e'
 refine⟨⟨by rw[ul];exact h1.val.len,fun q x e=>?_,fun q q' x g1 g2 e1 e2=>?_⟩,fun q hq=>?_,fun q x hq e=>?_,⟨p,hp0,qU hpl⟩,fun q x hq e=>?_⟩
 ·rcases get q x e with ⟨rfl,rfl⟩ | ⟨_,e⟩
  ·exact⟨ha,hp⟩
  ·exact h1.val.edge q x e
 ·rcases get q x e1 with ⟨a1,b1⟩ | ⟨n1,f1⟩
  ·rcases get q' x e2 with ⟨a2,b2⟩ | ⟨n2,f2⟩
   ·rw[a1,a2]
   ·rw[b1]at f2;exact absurd f2 (noa q' g2 n2)
  ·rcases get q' x e2 with ⟨a2,b2⟩ | ⟨n2,f2⟩
   ·rw[b2]at f1;exact absurd f1 (noa q g1 n1)
   ·have cross:∀ q q',q∉T0->q≠p->q'≠p->q∈T->q'∉T->fat F1 q=some x->fat F1 q'=some x->False:=fun q q' g1 n1 n2 t1 t2 e1 e2=>by
     rw[h1.keep q (xq _ t1)]at e1
     rcases h1.vals q' x (mem' q' t2 n2) e2 with rfl | ⟨z,hz,e'⟩
     ·exact n1 (v.inj q p x g1 hp0 e1 hF)
     ·have:=v.inj q z x g1 (fun w=>(mem z hz).1 (hT z w)) e1 e'
      subst this
      exact (mem q hz).1 t1
    by_cases t1:q∈T
    ·by_cases t2:q'∈T
     ·rw[h1.keep q (xq _ t1)]at f1
      rw[h1.keep q' (xq _ t2)]at f2
      exact v.inj q q' x g1 g2 f1 f2
     ·exact (cross q q' g1 n1 n2 t1 t2 f1 f2).elim
    ·by_cases t2:q'∈T
     ·exact (cross q' q g2 n2 n1 t2 t1 f2 f1).elim
     ·exact h1.val.inj q q' x (mem' q t1 n1) (mem' q' t2 n2) f1 f2
 ·have hqp:p≠q:=fun e=>hp0 (e ▸ hq)
  rw[qc hqp,h1.keep q (xq _ (hT q hq))]
 ·rcases get q x e with ⟨rfl,rfl⟩ | ⟨n1,e⟩
  ·exact .inl rfl
  ·by_cases t1:q∈T
   ·rw[h1.keep q (xq _ t1)]at e
    exact .inr ⟨q,hq,e⟩
   ·rcases h1.vals q x (mem' q t1 n1) e with rfl | ⟨z,hz,e'⟩
    ·exact .inr ⟨p,hp0,hF⟩
    ·exact .inr ⟨z,fun w=>(mem z hz).1 (hT z w),e'⟩
 ·by_cases hqp:q=p
  ·subst hqp
   rw[hF]at e;cases e
   obtain⟨z,hz,e'⟩:=h1.has
   exact⟨z,fun w=>(mem z hz).1 (hT z w),by rw[qc (Ne.symm (mem z hz).2)];exact e'⟩
  ·by_cases t1:q∈T
   ·exact⟨q,hq,by rw[qc (Ne.symm hqp),h1.keep q (xq _ t1)];exact e⟩
   ·obtain⟨z,hz,e'⟩:=h1.old q x (mem' q t1 hqp) e
    exact⟨z,fun w=>(mem z hz).1 (hT z w),by rw[qc (Ne.symm (mem z hz).2)];exact e'⟩
noncomputable abbrev zhD(ab:List (List Nat))(N n:Nat)(rec:Nat->FL->List Nat->RT):Prop:=∀ (a:Nat) (F:FL) (T:List Nat),Val ab N F T->TOk N T->N<n+T.length->a<N->(∀ p,p∉T->fat F p≠some a)->Spec ab N F T a (up ab a) (rec a F T)
theorem Je{n:Nat}{rec:Nat->FL->List Nat->RT}(hrec:zhD ab N n rec){F:FL}{T0:List Nat}{a:Nat}(v:Val ab N F T0)(ha:a<N)(hna:∀ p,p∉T0->fat F p≠some a) :
  ∀ (ps T:List Nat),(∀ p∈ps,p∈up ab a)->TOk N T->N<n+1+T.length->(∀ q∈T0,q∈T)->(∀ p∈T,p∉T0->∃ s,fat F p=some s/\∀ q∈up ab s,q∈T) ->
   Spec ab N F T0 a ps (zY rec a ps F T)/\∀ q∈T,q∈(zY rec a ps F T).2.2
 |[],T,hps,tk,hl,hT,hd=>⟨⟨tk,hT,fun _=>rfl,(fun _ p h=>nomatch h),fun _=>hd,(fun h=>nomatch h)⟩,fun q h=>h⟩
 |p::ps,T,hps,tk,hl,hT,hd=>by
  have hp:p∈up ab a:=hps p (by simp)
  have hps':∀ p∈ps,p∈up ab a:=fun q h=>hps q (xl _ h)
  rw[zY]
  by_cases hc:p∈T
  ·rw[if_pos (by simpa using hc)]
   obtain⟨ih,ih2⟩:=Je hrec v ha hna ps T hps' tk hl hT hd
   refine⟨⟨ih.tok,ih.sub,ih.same,fun h q hq=>?_,ih.dead,ih.succ⟩,ih2⟩
   rcases xo.mp hq with rfl | hq
   ·exact ih2 q hc
   ·exact ih.all h q hq
  ·rw[if_neg (by simpa using hc)]
   have tk':=tk.snoc hc (hab a p hp)
   cases hF:fat F p with
   |none=>
    refine⟨⟨tk',fun q hq=>xq _ (hT q hq),(fun h=>nomatch h),(fun h=>nomatch h),(fun h=>nomatch h),fun _=>?_⟩,fun q h=>xq _ h⟩
    exact zar hab v ha hna hp (fun h=>hc (hT p h)) hF
   |some s=>
    have hs:=(v.edge p s hF).1
    have v':Val ab N F (T++ [p]):=⟨v.len,v.edge,fun q q' x h1 h2=>v.inj q q' x (fun z=>h1 (xq _ (hT q z))) (fun z=>h2 (xq _ (hT q' z)))⟩
    have h1:=hrec s F (T++ [p]) v' tk' (by simp;omega) hs (fun q hq e=>by
     have hq':q∉T:=fun z=>hq (xq _ z)
     have:=v.inj q p s (fun z=>hq' (hT q z)) (fun z=>hc (hT p z)) e hF
     subst this
     exact hq (by simp))
    show Spec ab N F T0 a (p::ps) (match rec s F (T++ [p]) with
     | (true,F',T')=>(true,F'.set p (some a),T')
     | (false,F',T')=>zY rec a ps F' T')/\∀ q∈T,q∈(match rec s F (T++ [p]) with
     | (true,F',T')=>(true,F'.set p (some a),T')
     | (false,F',T')=>zY rec a ps F' T').2.2
    generalize rec s F (T++ [p])=r at h1
    obtain⟨b,F',T'⟩:=r
    cases b with
    |true=>
     have sc:=zaC hab v hT ha hna hp hc hF (h1.succ rfl)
     exact⟨⟨h1.tok,fun q hq=>h1.sub q (xq _ (hT q hq)),(fun h=>nomatch h),(fun h=>nomatch h),(fun h=>nomatch h),fun _=>sc⟩,fun q hq=>h1.sub q (xq _ hq)⟩
    |false=>
     have e1:F'=F:=h1.same rfl
     subst e1
     have hsub:∀ q∈T,q∈T':=fun q hq=>h1.sub q (xq _ hq)
     have hpT':p∈T':=h1.sub p (by simp)
     have hlen:T.length+1<=T'.length:=by
      have:=nodup_len tk'.nd h1.sub
      simpa using this
     obtain⟨ih,ih2⟩:=Je hrec v ha hna ps T' hps' h1.tok (by omega) (fun q hq=>hsub q (hT q hq)) (fun q hq hq0=>by
      by_cases hqT:q∈T
      ·obtain⟨x,ex,hx⟩:=hd q hqT hq0
       exact⟨x,ex,fun z hz=>hsub z (hx z hz)⟩
      ·by_cases hqp:q=p
       ·subst hqp
        exact⟨s,hF,fun z hz=>h1.all rfl z hz⟩
       ·refine h1.dead rfl q hq fun z=>?_
        rcases xJ.mp z with z | z
        ·exact hqT z
        ·exact hqp (by simpa using z))
     refine⟨⟨ih.tok,ih.sub,ih.same,fun h q hq=>?_,ih.dead,ih.succ⟩,fun q hq=>ih2 q (hsub q hq)⟩
     rcases xo.mp hq with rfl | hq
     ·exact ih2 q hpT'
     ·exact ih.all h q hq
theorem jp:∀ n,zhD ab N n (zm ab n)
 |0,a,F,T,v,tk,hl,ha,hna=>by have:=Wh tk.nd tk.lt;omega
 |n+1,a,F,T,v,tk,hl,ha,hna=>(Je hab (jp n) v ha hna (up ab a) T (fun _ h=>h) tk hl (fun _ h=>h) (fun p h h'=>absurd h h')).1
end
noncomputable def zc8(ab:List (List Nat))(F:FL)(Z:Nat->Prop):Prop:=∀ p,Z p->∃ s,fat F p=some s/\∀ q∈up ab s,Z q
section
variable {ab:List (List Nat)}
theorem Q8{rec:Nat->FL->List Nat->RT}(hrec:∀ a F T,(rec a F T).1=false->(rec a F T).2.1=F)(a:Nat):∀ ps F T,(zY rec a ps F T).1=false->(zY rec a ps F T).2.1=F
 |[],F,T,h=>rfl
 |p::ps,F,T,h=>by
  rw[zY]at h |-
  split at h
  ·rw[if_pos (by assumption)];exact Q8 hrec a ps F T h
  ·rw[if_neg (by assumption)]
   cases hF:fat F p with
   |none=>rw[hF]at h;cases h
   |some s=>
    rw[hF]at h
    simp only at h |-
    have h1:=hrec s F (T++ [p])
    generalize rec s F (T++ [p])=r at h h1
    obtain⟨b,F',T'⟩:=r
    cases b with
    |true=>cases h
    |false=>
     have:F'=F:=h1 rfl
     subst this
     exact Q8 hrec a ps F' T' h
theorem Zo:∀ n a F T,(zm ab n a F T).1=false->(zm ab n a F T).2.1=F
 |0,_,_,_,_=>rfl
 |n+1,a,F,T,h=>Q8 (Zo n) a (up ab a) F T h
theorem Ju{F:FL}{Z:Nat->Prop}(hZ:zc8 ab F Z){rec:Nat->FL->List Nat->RT}(hs:∀ a F T,(rec a F T).1=false->(rec a F T).2.1=F)(hrec:∀ a T,(∀ q∈up ab a,Z q)->(rec a F T).1=false)(a:Nat):∀ ps T,(∀ q∈ps,Z q)->(zY rec a ps F T).1=false
 |[],T,_=>rfl
 |p::ps,T,hz=>by
  rw[zY]
  have hz':∀ q∈ps,Z q:=fun q h=>hz q (xl _ h)
  split
  ·exact Ju hZ hs hrec a ps T hz'
  ·obtain⟨s,e,hq⟩:=hZ p (hz p (by simp))
   rw[e]
   simp only
   have h1:=hrec s (T++ [p]) hq
   have h2:=hs s F (T++ [p]) h1
   generalize rec s F (T++ [p])=r at h1 h2
   obtain⟨b,F',T'⟩:=r
   cases h1
   have:F'=F:=h2
   subst this
   exact Ju hZ hs hrec a ps T' hz'
theorem Zh{F:FL}{Z:Nat->Prop}(hZ:zc8 ab F Z):∀ n a T,(∀ q∈up ab a,Z q)->(zm ab n a F T).1=false
 |0,_,_,_=>rfl
 |n+1,a,T,h=>Ju hZ (Zo n) (fun a T h=>Zh hZ n a T h) a (up ab a) T h
theorem Jm{F:FL}{Z:Nat->Prop}(hZ:zc8 ab F Z){rec:Nat->FL->List Nat->RT}(hs:∀ a F T,(rec a F T).1=false->(rec a F T).2.1=F)(hd:∀ a T,(∀ q∈up ab a,Z q)->(rec a F T).1=false)(hk:∀ a T,∀ p,Z p->fat (rec a F T).2.1 p=fat F p)(a:Nat):∀ ps T,∀ p,Z p->fat (zY rec a ps F T).2.1 p=fat F p
 |[],T,_,_=>rfl
 |p::ps,T,q,hq=>by
  rw[zY]
  split
  ·exact Jm hZ hs hd hk a ps T q hq
  ·cases hF:fat F p with
   |none=>
    refine qc fun e=>?_
    subst e
    obtain⟨s,e,_⟩:=hZ p hq
    rw[hF]at e;cases e
   |some s=>
    simp only
    have h1:=hk s (T++ [p]) q hq
    have h2:=hs s F (T++ [p])
    have h3:=hd s (T++ [p])
    generalize rec s F (T++ [p])=r at h1 h2 h3
    obtain⟨b,F',T'⟩:=r
    cases b with
    |true=>
     show fat (F'.set p (some a)) q=fat F q
     rw[qc]
     ·exact h1
     ·intro e
      subst e
      obtain⟨s',e,hz⟩:=hZ p hq
      rw[hF]at e;cases e
      exact absurd (h3 hz) (by simp)
    |false=>
     have:F'=F:=h2 rfl
     subst this
     exact Jm hZ hs hd hk a ps T' q hq
theorem JG{F:FL}{Z:Nat->Prop}(hZ:zc8 ab F Z):∀ n a T,∀ p,Z p->fat (zm ab n a F T).2.1 p=fat F p
 |0,_,_,_,_=>rfl
 |n+1,a,T,p,h=>Jm hZ (Zo n) (fun a T h=>Zh hZ n a T h) (fun a T p h=>JG hZ n a T p h) a (up ab a) T p h
end
structure Inv(ab:List (List Nat))(N k:Nat)(F:FL):Prop where
 val:Val ab N F []
 lt:∀ p s,fat F p=some s->s<k
 dead:∃ Z,zc8 ab F Z/\∀ a,a<k->(∀ p,fat F p≠some a)->∀ q∈up ab a,Z q
theorem wU(N p:Nat):fat (List.replicate N none) p=none:=by
 unfold fat
 rw[xQ]
 split<;>rfl
theorem zbO(ab:List (List Nat))(N:Nat):Inv ab N 0 (List.replicate N none) :=
 ⟨⟨by simp,fun p s e=>by rw[wU]at e;(cases e),fun p q s _ _ e=>by rw[wU]at e;(cases e)⟩,fun p s e=>by rw[wU]at e;(cases e),fun _=>False,fun _ h=>h.elim,fun a h=>by omega⟩
theorem zbA{ab:List (List Nat)}{N:Nat}(hab:∀ a p,p∈up ab a->p<N){k m:Nat}(hk:k<N)(hm:N<m){F:FL}(h:Inv ab N k F):Inv ab N (k+1) (zm ab m k F []).2.1:=by
 have hna:∀ p,p∉ []->fat F p≠some k:=fun p _ e=>by have:=h.lt p k e;omega
 have sp:=jp hab m k F [] h.val ⟨.nil,(fun _ h=>nomatch h)⟩ (by simpa using hm) hk hna
 obtain⟨Z,hZ,hz⟩:=h.dead
 have kp:=JG hZ m k []
 generalize zm ab m k F []=r at sp kp
 obtain⟨b,F',T'⟩:=r
 cases b with
 |false=>
  have:F'=F:=sp.same rfl
  subst this
  refine⟨h.val,fun p s e=>uR (h.lt p s e),fun p=>Z p∨p∈T',fun p hp=>?_,fun a ha hn q hq=>?_⟩
  ·rcases hp with hp | hp
   ·obtain⟨s,e,g⟩:=hZ p hp
    exact⟨s,e,fun q hq=>.inl (g q hq)⟩
   ·obtain⟨s,e,g⟩:=sp.dead rfl p hp (fun h=>nomatch h)
    exact⟨s,e,fun q hq=>.inr (g q hq)⟩
  ·by_cases hak:a<k
   ·exact .inl (hz a hak hn q hq)
   ·have:a=k:=by omega
    subst this
    exact .inr (sp.all rfl q hq)
 |true=>
  have sc:=sp.succ rfl
  refine⟨sc.val,fun p s e=>?_,Z,fun p hp=>?_,fun a ha hn q hq=>?_⟩
  ·rcases sc.vals p s (fun h=>nomatch h) e with rfl | ⟨q,_,e'⟩
   ·exact uU _
   ·exact uR (h.lt q s e')
  ·obtain⟨s,e,g⟩:=hZ p hp
   exact⟨s,by rw[kp p hp];exact e,g⟩
  ·by_cases hak:a<k
   ·refine hz a hak (fun p e=>?_) q hq
    obtain⟨p',_,e'⟩:=sc.old p a (fun h=>nomatch h) e
    exact hn p' e'
   ·have:a=k:=by omega
    subst this
    obtain⟨p,_,e⟩:=sc.has
    exact absurd e (hn p)
noncomputable def Zi(ab:List (List Nat))(m:Nat):Nat->FL->FL
 |0,F=>F
 |k+1,F=>(zm ab m k (Zi ab m k F) []).2.1
theorem wF{ab:List (List Nat)}{N:Nat}(hab:∀ a p,p∈up ab a->p<N){m:Nat}(hm:N<m):∀ k,k<=N->Inv ab N k (Zi ab m k (List.replicate N none))
 |0,_=>zbO ab N
 |k+1,h=>zbA hab (by omega) hm (wF hab hm k (by omega))
end Ku
set_option maxHeartbeats 4000000
namespace Wx
open PySem L2 L3
theorem QQ(cs:List Cl)(p:Nat):(zi cs p).length<=p:=by
 have:=xS (fun d=> !(zc cs d).isEmpty) (List.range p)
 rw[xK]at this;exact this
theorem zeB(cs:List Cl)(p:Nat):(if cs.isEmpty then [] else zi cs p)=zi cs p:=by
 cases cs with
 |nil=>
  have:zi [] p= []:=by
   unfold zi
   rw[List.filter_eq_nil_iff]
   intro d _
   simp[zc]
  simp[this]
 |cons c cs=>simp
theorem KQ(Γ:Gv)(cs:List Cl):zx Γ (.dat (zb cs))=some (cs.map Cl.D):=rfl
theorem zax(cs:List Cl):PyData.list (cs.map Cl.D)=zb cs:=rfl
theorem zQ(x:PyData):(OV.d x).view=x:=rfl
theorem jP(xs:List PyData):(OV.l (xs.map .d)).view=.list xs:=by rw[OV.view,OV.views_d]
noncomputable def zU(c:Cl)(d:Nat):Bool:=decide (c.st.getD d 0<c.wi.getD d 0)
theorem zhm(cs:List Cl)(d i:Nat):lk cs d i=true↔∃ c,cs[i]?=some c/\zU c d=true:=by
 unfold lk zU
 cases cs[i]? with
 |none=>simp
 |some c=>simp
theorem qv(cs:List Cl)(d i:Nat):i∈zc cs d↔∃ c,cs[i]?=some c/\zU c d=true:=by
 unfold zc
 rw[xr,xE,zhm]
 constructor
 ·exact fun h=>h.2
 ·rintro⟨c,h1,h2⟩
  exact⟨(xc.mp h1).1,c,h1,h2⟩
theorem Jr(cs:List Cl)(a b:Nat):(∀ i∈zc cs a,i∈zc cs b)↔∀ c∈cs,zU c a=true->zU c b=true:=by
 constructor
 ·intro h c hc hl
  obtain⟨i,hi⟩:=ut hc
  obtain⟨c',h1,h2⟩:=(qv cs b i).mp (h i ((qv cs a i).mpr ⟨c,hi,hl⟩))
  rw[hi]at h1;cases h1;exact h2
 ·intro h i hi
  obtain⟨c,h1,h2⟩:=(qv cs a i).mp hi
  exact (qv cs b i).mpr ⟨c,h1,h c (xN h1) h2⟩
theorem yn(cs:List Cl)(a b:Nat):zc cs a=zc cs b↔(∀ c∈cs,zU c a=true->zU c b=true)/\∀ c∈cs,zU c b=true->zU c a=true:=by
 rw[<- Jr,<- Jr]
 constructor
 ·intro h;rw[h];exact⟨fun _ h=>h,fun _ h=>h⟩
 ·rintro⟨h1,h2⟩
  unfold zc at h1 h2 |-
  refine List.filter_congr fun i hi=>?_
  rw[xP]
  exact⟨fun h=>(xr.mp (h1 i (xr.mpr ⟨hi,h⟩))).2,fun h=>(xr.mp (h2 i (xr.mpr ⟨hi,h⟩))).2⟩
theorem zeL(cs:List Cl)(a:Nat):(zc cs a).any (ju cs)=true↔∃ c∈cs,zU c a=true/\c.w=true:=by
 rw[uY]
 constructor
 ·rintro⟨i,hi,hw⟩
  obtain⟨c,h1,h2⟩:=(qv cs a i).mp hi
  unfold ju at hw
  rw[h1]at hw
  exact⟨c,xN h1,h2,hw⟩
 ·rintro⟨c,hc,h1,h2⟩
  obtain⟨i,hi⟩:=ut hc
  exact⟨i,(qv cs a i).mpr ⟨c,hi,h1⟩,by unfold ju;rw[hi];exact h2⟩
noncomputable def Und(cs:List Cl)(a b:Nat):Prop:=a≠b/\a≠12/\(b=12->∀ c∈cs,zU c a=true->c.w=false)/\(b≠12->(∀ c∈cs,zU c a=true->zU c b=true)/\((∀ c∈cs,zU c b=true->zU c a=true)->b<a))
theorem Jw(cs:List Cl)(a b:Nat):ub cs a b=true↔Und cs a b:=by
 unfold ub Und
 by_cases h0:a=b
 ·simp[h0]
 by_cases h1:a=12
 ·simp[h1]
 rw[if_neg (by simp[h0,h1])]
 by_cases h2:b=12
 ·subst h2
  rw[if_pos rfl]
  have:=zeL cs a
  constructor
  ·intro h
   refine⟨h0,h1,fun _ c hc hl=>?_,fun h=>absurd rfl h⟩
   cases hw:c.w with
   |false=>rfl
   |true=>
    rw[this.mpr ⟨c,hc,hl,hw⟩]at h;cases h
  ·rintro⟨_,_,h,_⟩
   cases e:(zc cs a).any (ju cs) with
   |false=>rfl
   |true=>
    obtain⟨c,hc,hl,hw⟩:=this.mp e
    rw[h rfl c hc hl]at hw;cases hw
 ·rw[if_neg h2]
  unfold j7
  by_cases h3:zc cs a=zc cs b
  ·rw[if_pos h3]
   have h4:=(yn cs a b).mp h3
   simp only[decide_eq_true_eq]
   exact⟨fun h=>⟨h0,h1,fun h=>absurd h h2,fun _=>⟨h4.1,fun _=>h⟩⟩,fun h=>(h.2.2.2 h2).2 h4.2⟩
  ·rw[if_neg h3]
   have:((zc cs a).all fun x=>(zc cs b).contains x)=true↔∀ i∈zc cs a,i∈zc cs b:=by simp[xA]
   rw[this,Jr]
   exact⟨fun h=>⟨h0,h1,fun h=>absurd h h2,fun _=>⟨h,fun h'=>absurd ((yn cs a b).mpr ⟨h,h'⟩) h3⟩⟩,fun h=>(h.2.2.2 h2).1⟩
theorem zg5(cs:List Cl)(a:Nat):ub cs a a=false:=by unfold ub;simp
theorem zaZ(cs:List Cl)(a:Nat):ub cs 12 a=false:=by unfold ub;simp
theorem zaP{cs:List Cl}{a b c:Nat}(h:Und cs a b)(h':Und cs b c):Und cs a c:=by
 obtain⟨h1,h2,h3,h4⟩:=h
 obtain⟨g1,g2,g3,g4⟩:=h'
 have hb:=h4 g2
 by_cases hc:c=12
 ·subst hc
  exact⟨h2,h2,fun _ x hx hl=>g3 rfl x hx (hb.1 x hx hl),fun h=>absurd rfl h⟩
 ·have hg:=g4 hc
  have key:(∀ x∈cs,zU x c=true->zU x a=true)->c<a:=fun h=>by
   have:=hb.2 fun x hx hl=>h x hx (hg.1 x hx hl)
   have:=hg.2 fun x hx hl=>hb.1 x hx (h x hx hl)
   omega
  refine⟨fun e=>?_,h2,fun h=>absurd h hc,fun _=>⟨fun x hx hl=>hg.1 x hx (hb.1 x hx hl),key⟩⟩
  subst e
  have:=key fun _ _ h=>h
  omega
theorem zcb(cs:List Cl)(a b c:Nat)(h:ub cs a b=true)(h':ub cs b c=true):ub cs a c=true :=
 (Jw cs a c).mpr (zaP ((Jw cs a b).mp h) ((Jw cs b c).mp h'))
theorem Jp(cs:List Cl)(p d:Nat):d∈zi cs p↔d<p/\∃ c∈cs,zU c d=true:=by
 unfold zi
 rw[xr,xE]
 refine and_congr_right fun _=>?_
 constructor
 ·intro h
  cases e:zc cs d with
  |nil=>rw[e]at h;cases h
  |cons i l=>
   obtain⟨c,h1,h2⟩:=(qv cs d i).mp (by rw[e];simp)
   exact⟨c,xN h1,h2⟩
 ·rintro⟨c,hc,hl⟩
  obtain⟨i,hi⟩:=ut hc
  have:=(qv cs d i).mpr ⟨c,hi,hl⟩
  cases e:zc cs d with
  |nil=>rw[e]at this;cases this
  |cons i l=>rfl
theorem WZ:∀ p,(List.range p).Pairwise (·<·):=fun p=>List.pairwise_lt_range
theorem vb(cs:List Cl)(p:Nat):(zi cs p).Pairwise (·<·):=(WZ p).filter _
theorem yg(cs:List Cl)(p:Nat):(zi cs p).Nodup:=(vb cs p).imp fun h=>xu h
theorem wV{cs:List Cl}{p d:Nat}(h:d∈zi cs p):d<p:=((Jp cs p d).mp h).1
end Wx
set_option maxHeartbeats 4000000
namespace Wx
open PySem L2 L3 Ku
noncomputable def qZ:Option Nat->PyData
 |none=>.none
 |some n=>.int (n:Int)
noncomputable def flD(F:Ku.FL):List PyData:=F.map qZ
noncomputable def flO(F:Ku.FL):OV:=.l (F.map fun o=>.d (qZ o))
noncomputable def zS(ab:List (List Nat)):PyData:=.list (ab.map fun r=>.list (za r))
theorem wE(F:Ku.FL):(flO F).view=.list (flD F):=by
 unfold flO flD
 rw[OV.view,OV.views_map,List.map_map];rfl
theorem zef(n:Nat)(o:Option Nat):lay n (qZ o)=true:=by cases o<;>cases n<;>rfl
theorem ZO(F:Ku.FL):(flD F).all (lay 20)=true:=by
 rw[xA]
 intro x hx
 obtain⟨o,_,rfl⟩:=xn.mp hx
 exact zef _ _
theorem zhU{ab:List (List Nat)}{a:Nat}(h:a<ab.length):atI (ab.map fun r=>PyData.list (za r)) (a:Int)=some (.list (za (up ab a))) :=
 qO (by rw[xh,up,xb h];rfl)
theorem Yu{F:Ku.FL}{p:Nat}(h:p<F.length):atI (F.map fun o=>OV.d (qZ o)) (p:Int)=some (.d (qZ (fat F p))) :=
 qO (by rw[xh,fat,xb h];rfl)
theorem kX{F:Ku.FL}{p:Nat}(h:p<F.length):atI (flD F) (p:Int)=some (qZ (fat F p)) :=
 qO (by rw[flD,xh,fat,xb h];rfl)
theorem Kl{n p:Nat}(h:p<n):ixN n (p:Int)=some p:=by
 unfold ixN
 rw[if_pos (by omega),if_pos (by omega)];simp
theorem ZM(T:List Nat)(p:Nat):OV.l ((T.map fun (i:Nat)=>OV.d (.int (i:Int)))++ [.d (.int (p:Int))])=zh (T++ [p]):=by simp[zh]
theorem k8(F:Ku.FL)(p a:Nat):OV.l ((F.map fun o=>OV.d (qZ o)).set p (.d (.int (a:Int))))=flO (F.set p (some a)):=by
 unfold flO
 rw[List.map_set];rfl
noncomputable def jA(m N:Nat)(ab:List (List Nat))(cf:CF):Prop:=∀ (a:Nat) (F:Ku.FL) (T:List Nat),Val ab N F T->TOk N T->N<m+T.length->a<N->(∀ p,p∉T->fat F p≠some a) ->
 cf "settle" [.d (.int a),.d (zS ab),flO F,zh T]=.ok (.d (.bool (zm ab m a F T).1)) [none,none,some (flO (zm ab m a F T).2.1),some (zh (zm ab m a F T).2.2)]
theorem Yb(cf:CF){a p:Nat}{ab:List (List Nat)}{F:Ku.FL}{T:List Nat}(h:p∈T) :
  p_settle_1.ex cf [2,3] [some (.d (.int a)),some (.d (zS ab)),some (flO F),some (zh T),some (.d (.int p))]=.ok (.next,[some (.d (.int a)),some (.d (zS ab)),some (flO F),some (zh T),some (.d (.int p))]):=by
 have h1:=jZ T p
 have h2:(∀ x∈za T,lay 20 x=true)=True:=eq_true (xA.mp (jR T))
 have h3:T.contains p=true:=by simpa using h
 have v:=zn T
 rw[h3]at h1
 unfold zh at v |-
 simp![p_settle_1,zl,v,h1,h2,isN,zQ,zx,ixN,atI]
theorem yU(cf:CF){a p:Nat}{ab:List (List Nat)}{F:Ku.FL}{T:List Nat}(h:p∉T)(hp:p<F.length)(hT:T.length<1000)(hF:fat F p=none) :
  p_settle_1.ex cf [2,3] [some (.d (.int a)),some (.d (zS ab)),some (flO F),some (zh T),some (.d (.int p))]=.ok (.ret (.d (.bool true)),[some (.d (.int a)),some (.d (zS ab)),some (flO (F.set p (some a))),some (zh (T++ [p])),some (.d (.int p))]):=by
 have h1:=jZ T p
 have h2:(∀ x∈za T,lay 20 x=true)=True:=eq_true (xA.mp (jR T))
 have h3:T.contains p=false:=by simpa using h
 have v:=zn T
 have hz:T.length<1000000:=by omega
 have ha:=Yu (F:=F) hp
 have hi:=Kl hp
 have hg:(F.map fun o=>OV.d (qZ o))[p]?=some (.d (qZ (fat F p))):=by rw[xh,fat,xb hp];rfl
 rw[hF]at ha hg
 rw[show qZ none=PyData.none from rfl]at ha hg
 rw[h3]at h1
 rw[<- k8,<- ZM]
 unfold zh at v |-
 unfold flO
 simp![p_settle_1,zl,v,h1,h2,isN,zQ,hz,ha,hi,hg]
theorem V9(cf:CF){a p s:Nat}{ab:List (List Nat)}{F F':Ku.FL}{T T':List Nat}{b:Bool}(h:p∉T)(hp:p<F.length)(hp':p<F'.length)(hT:T.length<1000)(hF:fat F p=some s)
  (hc:cf "settle" [.d (.int s),.d (zS ab),flO F,zh (T++ [p])]=.ok (.d (.bool b)) [none,none,some (flO F'),some (zh T')]) :
  p_settle_1.ex cf [2,3] [some (.d (.int a)),some (.d (zS ab)),some (flO F),some (zh T),some (.d (.int p))]=if b then .ok (.ret (.d (.bool true)),[some (.d (.int a)),some (.d (zS ab)),some (flO (F'.set p (some a))),some (zh T'),some (.d (.int p))])
   else .ok (.next,[some (.d (.int a)),some (.d (zS ab)),some (flO F'),some (zh T'),some (.d (.int p))]):=by
 have h1:=jZ T p
 have h2:(∀ x∈za T,lay 20 x=true)=True:=eq_true (xA.mp (jR T))
 have h3:T.contains p=false:=by simpa using h
 have v:=zn T
 have hz:T.length<1000000:=by omega
 have ha:=Yu (F:=F) hp
 have hi:=Kl hp'
 have hg:(F'.map fun o=>OV.d (qZ o))[p]?=some (.d (qZ (fat F' p))):=by rw[xh,fat,xb hp'];rfl
 rw[hF]at ha
 rw[show qZ (some s)=PyData.int (s:Int) from rfl]at ha
 rw[h3]at h1
 rw[<- ZM]at hc
 rw[<- k8]
 unfold zh at v hc |-
 unfold flO at hc |-
 cases b
 ·simp![p_settle_1,zl,v,h1,h2,isN,zQ,hz,ha,hc]
 ·simp![p_settle_1,zl,v,h1,h2,isN,zQ,hz,ha,hi,hg,hc]
theorem Zd{m N:Nat}{ab:List (List Nat)}(hab:∀ a p,p∈up ab a->p<N)(hN:N<1000)(cf:CF)(hcf:jA m N ab cf){F:Ku.FL}{T0:List Nat}{a:Nat}(v:Val ab N F T0)(ha:a<N)(hna:∀ p,p∉T0->fat F p≠some a) :
  ∀ (ps T:List Nat) (o4:Option OV),(∀ p∈ps,p∈up ab a)->TOk N T->N<m+1+T.length->(∀ q∈T0,q∈T) ->
   ∃ o4',qb (.nm 4 4) (p_settle_1.ex cf [2,3]) (za ps) [some (.d (.int a)),some (.d (zS ab)),some (flO F),some (zh T),o4] =
    .ok (if (zY (zm ab m) a ps F T).1 then .ret (.d (.bool true)) else .next,[some (.d (.int a)),some (.d (zS ab)),some (flO (zY (zm ab m) a ps F T).2.1),some (zh (zY (zm ab m) a ps F T).2.2),o4'])
 |[],T,o4,hps,tk,hl,hT=>⟨o4,rfl⟩
 |p::ps,T,o4,hps,tk,hl,hT=>by
  have hp:p∈up ab a:=hps p (by simp)
  have hps':∀ p∈ps,p∈up ab a:=fun q h=>hps q (xl _ h)
  have hpN:=hab a p hp
  have hpF:p<F.length:=by rw[v.len];exact hpN
  have hTl:=Wh tk.nd tk.lt
  show ∃ o4',qb (.nm 4 4) (p_settle_1.ex cf [2,3]) (.int p::za ps) _=_
  rw[qb]
  simp only[tgF,xk,uf]
  rw[if_pos (by decide)]
  simp only[List.set_cons_succ,List.set_cons_zero]
  by_cases hc:p∈T
  ·have hw:zY (zm ab m) a (p::ps) F T=zY (zm ab m) a ps F T:=by rw[zY,if_pos (by simpa using hc)]
   rw[hw,Yb cf hc]
   exact Zd hab hN cf hcf v ha hna ps T _ hps' tk hl hT
  ·cases hF:fat F p with
   |none=>
    have hw:zY (zm ab m) a (p::ps) F T=(true,F.set p (some a),T++ [p]):=by rw[zY,if_neg (by simpa using hc),hF]
    rw[hw,yU cf hc hpF (by omega) hF]
    exact⟨_,rfl⟩
   |some s=>
    have hs:=(v.edge p s hF).1
    have tk':=tk.snoc hc hpN
    have v':Val ab N F (T++ [p]):=⟨v.len,v.edge,fun q q' x h1 h2=>v.inj q q' x (fun z=>h1 (xq _ (hT q z))) (fun z=>h2 (xq _ (hT q' z)))⟩
    have hn':∀ q,q∉T++ [p]->fat F q≠some s:=fun q hq e=>by
     have hq':q∉T:=fun z=>hq (xq _ z)
     have:=v.inj q p s (fun z=>hq' (hT q z)) (fun z=>hc (hT p z)) e hF
     subst this
     exact hq (by simp)
    have h1:=jp hab m s F (T++ [p]) v' tk' (by simp;omega) hs hn'
    have e1:=hcf s F (T++ [p]) v' tk' (by simp;omega) hs hn'
    have hw:zY (zm ab m) a (p::ps) F T=(match zm ab m s F (T++ [p]) with
     | (true,F',T')=>(true,F'.set p (some a),T')
     | (false,F',T')=>zY (zm ab m) a ps F' T'):=by rw[zY,if_neg (by simpa using hc),hF]<;>rfl
    rw[hw]
    clear hw
    generalize zm ab m s F (T++ [p])=r at h1 e1
    obtain⟨b,F',T'⟩:=r
    have hl':F'.length=N:=by
     cases b with
     |true=>exact (h1.succ rfl).val.len
     |false=>have:F'=F:=h1.same rfl;rw[this];exact v.len
    have hpF':p<F'.length:=by rw[hl'];exact hpN
    rw[V9 cf hc hpF hpF' (by omega) hF e1]
    cases b with
    |true=>exact⟨_,rfl⟩
    |false=>
     have:F'=F:=h1.same rfl
     subst this
     have hsub:∀ q∈T,q∈T':=fun q hq=>h1.sub q (xq _ hq)
     have hlen:T.length+1<=T'.length:=by
      have:=nodup_len tk'.nd h1.sub
      simpa using this
     exact Zd hab hN cf hcf v ha hna ps T' _ hps' h1.tok (by omega) (fun q hq=>hsub q (hT q hq))
theorem zan{m N:Nat}{ab:List (List Nat)}(hab:∀ a p,p∈up ab a->p<N)(hN:N<1000)(hl:ab.length=N)(cf:CF)(hcf:jA m N ab cf)(a:Nat)(F:Ku.FL)(T:List Nat)(v:Val ab N F T)(tk:TOk N T)(hm:N<m+1+T.length)(ha:a<N)(hna:∀ p,p∉T->fat F p≠some a) :
  runI 5 [false,false,true,true] [2,3] Ze cf [.d (.int a),.d (zS ab),flO F,zh T]=.ok (.d (.bool (zm ab (m+1) a F T).1)) [none,none,some (flO (zm ab (m+1) a F T).2.1),some (zh (zm ab (m+1) a F T).2.2)]:=by
 obtain⟨o4,e⟩:=Zd hab hN cf hcf v ha hna (up ab a) T none (fun _ h=>h) tk hm (fun _ h=>h)
 have hu:=zhU (ab:=ab) (a:=a) (by omega)
 show _=RF.ok (.d (.bool (zY (zm ab m) a (up ab a) F T).1)) _
 rw[show zm ab (m+1) a F T=zY (zm ab m) a (up ab a) F T from rfl]
 unfold zS at e |-
 generalize zY (zm ab m) a (up ab a) F T=r at e
 obtain⟨b,F',T'⟩:=r
 cases b<;>simp![Ze,hu,e]
end Wx
namespace Ku
noncomputable def zK(F:FL):Nat->Nat->List Nat
 |0,_=> []
 |n+1,p=>match fat F p with
  |none=> []
  |some s=>s::zK F n s
noncomputable def WA(F:FL):Nat->Nat->Prop
 |0,p=>fat F p=none
 |n+1,p=>match fat F p with
  |none=>True
  |some s=>WA F n s
theorem jY(F:FL)(a:Nat):F.contains (some a)=true↔∃ p,fat F p=some a:=by
 rw[xZ]
 constructor
 ·intro h
  obtain⟨p,hp⟩:=ut h
  exact⟨p,by unfold fat;rw[hp];rfl⟩
 ·rintro⟨p,h⟩
  have hl:=zfw h
  unfold fat at h
  rw[xb hl]at h
  have e:F[p]=some a:=h
  rw[<- e];exact xT hl
noncomputable def zj(N:Nat)(F:FL):List Nat:=(List.range N).filter fun a=> !F.contains (some a)
theorem qh(N:Nat)(F:FL)(a:Nat):a∈zj N F↔a<N/\∀ p,fat F p≠some a:=by
 unfold zj
 rw[xr,xE]
 refine and_congr_right fun _=>?_
 have:=jY F a
 constructor
 ·intro h p e
  rw[this.mpr ⟨p,e⟩]at h;cases h
 ·intro h
  cases e:F.contains (some a) with
  |false=>rfl
  |true=>
   obtain⟨p,e⟩:=this.mp e
   exact absurd e (h p)
theorem nodup_range(N:Nat):(List.range N).Nodup:=List.pairwise_lt_range.imp fun h=>xu h
theorem vw(N:Nat)(F:FL):(zj N F).Nodup:=(nodup_range N).filter _
theorem YJ(F:FL):F.countP (fun o=>o.isNone)+(F.filterMap id).length=F.length:=by
 induction F with
 |nil=>rfl
 |cons o F ih=>
  cases o with
  |none=>simp at ih |-;omega
  |some a=>simp at ih |-;omega
theorem wT:∀ (F:FL),(∀ p q s,fat F p=some s->fat F q=some s->p=q)->(F.filterMap id).Nodup
 |[],_=>.nil
 |none::F,h=>by
  have:=wT F fun p q s e1 e2=>by
   have:=h (p+1) (q+1) s (by simpa [fat] using e1) (by simpa [fat] using e2)
   omega
  simpa using this
 |some a::F,h=>by
  have ih:=wT F fun p q s e1 e2=>by
   have:=h (p+1) (q+1) s (by simpa [fat] using e1) (by simpa [fat] using e2)
   omega
  have hn:a∉F.filterMap id:=fun hm=>by
   obtain⟨o,ho,e⟩:=uA.mp hm
   have e:o=some a:=e
   subst e
   obtain⟨p,hp⟩:=ut ho
   have:=h 0 (p+1) a (by simp[fat]) (by simp[fat,hp])
   omega
  simpa using xC.mpr ⟨hn,ih⟩
theorem zge(F:FL)(a:Nat):a∈F.filterMap id↔∃ p,fat F p=some a:=by
 rw[<- jY,xZ,uA]
 constructor
 ·rintro⟨o,ho,e⟩
  have e:o=some a:=e
  exact e ▸ ho
 ·exact fun h=>⟨_,h,rfl⟩
section
variable {ab:List (List Nat)} {N:Nat} {F:FL}
theorem Yo(v:Val ab N F []):(zj N F).length=F.countP (fun o=>o.isNone):=by
 have h1:=YJ F
 have h2:=jN (List.range N) fun a=>F.contains (some a)
 have nd:=wT F fun p q s=>v.inj p q s (fun h=>nomatch h) (fun h=>nomatch h)
 have h3:(F.filterMap id).length=((List.range N).filter fun a=>F.contains (some a)).length:=by
  refine List.Perm.length_eq ((List.perm_ext_iff_of_nodup nd ((nodup_range N).filter _)).mpr fun a=>?_)
  rw[zge,xr,xE,jY]
  constructor
  ·rintro⟨p,e⟩
   exact⟨(v.edge p a e).1,p,e⟩
  ·exact fun h=>h.2
 rw[xK]at h2
 have:=v.len
 unfold zj
 omega
variable (hab:∀ a p,p∈up ab a->p<N) (irr:∀ a,a∉up ab a) (tr:∀ a b c,b∈up ab a->c∈up ab b->c∈up ab a)
noncomputable def hgt(ab:List (List Nat))(N x:Nat):Nat:=((List.range N).filter fun y=>(up ab x).contains y).length
theorem zfx(x:Nat):hgt ab N x<=N:=by
 have:=xS (fun y=>(up ab x).contains y) (List.range N)
 rwa [xK]at this
include hab irr tr in
theorem Jh{s p:Nat}(h:p∈up ab s):hgt ab N p<hgt ab N s:=by
 have hp:p∉(List.range N).filter fun y=>(up ab p).contains y:=fun z=>irr p (by simpa using (xr.mp z).2)
 have hn:(p::(List.range N).filter fun y=>(up ab p).contains y).Nodup:=xC.mpr ⟨hp,(nodup_range N).filter _⟩
 have:=nodup_len (T:=(List.range N).filter fun y=>(up ab s).contains y) hn fun x hx=>by
  rcases xo.mp hx with rfl | hx
  ·exact xr.mpr ⟨xE.mpr (hab s x h),by simpa using h⟩
  ·have hx':=xr.mp hx
   exact xr.mpr ⟨hx'.1,by have:=tr s p x h (by simpa using hx'.2);simpa using this⟩
 show _+1<=_
 simpa [hgt] using this
variable (v:Val ab N F [])
include hab irr tr v in
theorem vO:∀ n p,N<=hgt ab N p+n->WA F n p
 |0,p,h=>by
  show fat F p=none
  cases e:fat F p with
  |none=>rfl
  |some s=>
   have:=Jh hab irr tr (v.edge p s e).2
   have:=zfx (ab:=ab) (N:=N) s
   omega
 |n+1,p,h=>by
  show (match fat F p with
   |none=>True
   |some s=>WA F n s)
  cases e:fat F p with
  |none=>trivial
  |some s=>
   have:=Jh hab irr tr (v.edge p s e).2
   exact vO n s (by omega)
theorem Wl:∀ n p,WA F n p->zK F (n+1) p=zK F n p
 |0,p,h=>by
  have h:fat F p=none:=h
  show (match fat F p with
   |none=> []
   |some s=>s::zK F 0 s)= []
  rw[h]
 |n+1,p,h=>by
  have h:(match fat F p with
   |none=>True
   |some s=>WA F n s):=h
  rw[zK,zK]
  cases e:fat F p with
  |none=>rfl
  |some s=>
   rw[e]at h
   show s::zK F (n+1) s=s::zK F n s
   rw[Wl n s h]
theorem yk{x y:Nat}(e:fat F y=some x):∀ n p,y∈zK F n p->x∈zK F (n+1) p
 |0,p,h=>by cases h
 |n+1,p,h=>by
  rw[zK]at h |-
  cases e1:fat F p with
  |none=>rw[e1]at h;cases h
  |some s=>
   rw[e1]at h
   show x∈s::zK F (n+1) s
   rcases xo.mp h with rfl | h
   ·refine xl _ ?_
    rw[zK,e];exact xz
   ·exact xl _ (yk e n s h)
theorem V0:∀ n p x,x∈zK F n p->∃ q,fat F q=some x/\(q=p∨q∈zK F n p)
 |0,p,x,h=>by cases h
 |n+1,p,x,h=>by
  rw[zK]at h |-
  cases e1:fat F p with
  |none=>rw[e1]at h;cases h
  |some s=>
   rw[e1]at h
   rcases xo.mp h with rfl | h
   ·exact⟨p,e1,.inl rfl⟩
   ·obtain⟨q,e,hq⟩:=V0 n s x h
    refine⟨q,e,.inr ?_⟩
    show q∈s::zK F n s
    rcases hq with rfl | hq
    ·exact xz
    ·exact xl _ hq
include tr v in
theorem YI:∀ n p x,x∈zK F n p->p∈up ab x
 |0,p,x,h=>by cases h
 |n+1,p,x,h=>by
  rw[zK]at h
  cases e1:fat F p with
  |none=>rw[e1]at h;cases h
  |some s=>
   rw[e1]at h
   rcases xo.mp h with rfl | h
   ·exact (v.edge p x e1).2
   ·exact tr x s p (YI n s x h) (v.edge p s e1).2
include tr v in
theorem Jt:∀ n p,(zK F n p).Pairwise fun x y=>x∈up ab y
 |0,p=>.nil
 |n+1,p=>by
  rw[zK]
  cases e1:fat F p with
  |none=>exact .nil
  |some s=>exact .cons (fun y hy=>YI tr v n s y hy) (Jt n s)
noncomputable def QY(N:Nat)(F:FL)(f:Nat):List Nat:=f::zK F N f
include tr v in
theorem jW(f:Nat):(QY N F f).Pairwise fun x y=>x∈up ab y:=.cons (fun y hy=>YI tr v N f y hy) (Jt tr v N f)
include hab irr tr v in
theorem KE{f x y:Nat}(hy:y∈QY N F f)(e:fat F y=some x):x∈QY N F f:=by
 have st:=Wl (F:=F) N f (vO hab irr tr v N f (by omega))
 refine xl _ ?_
 rw[<- st]
 rcases xo.mp hy with rfl | hy
 ·rw[zK,e];exact xz
 ·exact yk e N f hy
include hab irr tr v in
theorem ze2:∀ (k x:Nat),hgt ab N x<=k->x<N->∃ f∈zj N F,x∈QY N F f:=by
 intro k
 induction k with
 |zero=>
  intro x hk hx
  refine⟨x,(qh N F x).mpr ⟨hx,fun p e=>?_⟩,xz⟩
  have:=Jh hab irr tr (v.edge p x e).2
  omega
 |succ k ih=>
  intro x hk hx
  by_cases h:∃ p,fat F p=some x
  ·obtain⟨p,e⟩:=h
   have hp:=v.edge p x e
   have:=Jh hab irr tr hp.2
   obtain⟨f,hf,hm⟩:=ih p (by omega) (hab x p hp.2)
   exact⟨f,hf,KE hab irr tr v hm e⟩
  ·exact⟨x,(qh N F x).mpr ⟨hx,fun p e=>h ⟨p,e⟩⟩,xz⟩
include hab irr tr v in
theorem apart:∀ (k x f g:Nat),hgt ab N x<=k->f∈zj N F->g∈zj N F->x∈QY N F f->x∈QY N F g->f=g:=by
 have val:∀ {f x:Nat},x∈zK F N f->∃ q,fat F q=some x/\q∈QY N F f:=fun {f x} h=>by
  obtain⟨q,e,hq⟩:=V0 N f x h
  refine⟨q,e,?_⟩
  rcases hq with rfl | hq
  ·exact xz
  ·exact xl _ hq
 intro k
 induction k with
 |zero=>
  intro x f g hk hf hg h1 h2
  have no:∀ {f:Nat},f∈zj N F->x∈QY N F f->x=f:=fun {f} hf h=>by
   rcases xo.mp h with e | h
   ·exact e
   ·obtain⟨q,e,_⟩:=val h
    have:=Jh hab irr tr (v.edge q x e).2
    omega
  rw[<- no hf h1,<- no hg h2]
 |succ k ih=>
  intro x f g hk hf hg h1 h2
  rcases xo.mp h1 with e1 | h1
  ·rcases xo.mp h2 with e2 | h2
   ·rw[<- e1,<- e2]
   ·obtain⟨q,e,_⟩:=val h2
    rw[e1]at e
    exact absurd e (((qh N F f).mp hf).2 q)
  ·rcases xo.mp h2 with e2 | h2
   ·obtain⟨q,e,_⟩:=val h1
    rw[e2]at e
    exact absurd e (((qh N F g).mp hg).2 q)
   ·obtain⟨q,e,hq⟩:=val h1
    obtain⟨q',e',hq'⟩:=val h2
    have:q=q':=v.inj q q' x (fun h=>nomatch h) (fun h=>nomatch h) e e'
    subst this
    have:=Jh hab irr tr (v.edge q x e).2
    exact ih q f g (by omega) hf hg hq hq'
include irr tr v in
theorem wW(f:Nat):(QY N F f).Nodup:=(jW tr v f).imp fun {x y}(h:x∈up ab y) (e:x=y)=>irr y (by rw[e]at h;exact h)
include hab irr tr v in
/-- no more members of which no two are in order than rows -/
theorem zd0{A:List Nat}(hA:A.Nodup)(hl:∀ a∈A,a<N)(hc:∀ x∈A,∀ y∈A,x≠y->y∉up ab x):A.length<=(zj N F).length:=by
 have:=zhF (Ss:=(zj N F).map (QY N F)) hA (fun a ha=>by
  obtain⟨f,hf,hm⟩:=ze2 hab irr tr v _ a (xm _) (hl a ha)
  exact⟨_,xn.mpr ⟨f,hf,rfl⟩,hm⟩) (fun S hS x hx y hy h1 h2=>by
  obtain⟨f,hf,rfl⟩:=xn.mp hS
  by_cases e:x=y
  ·exact e
  ·have ch:=jW tr v f
   obtain⟨i,hi,ei⟩:=uh h1
   obtain⟨j,hj,ej⟩:=uh h2
   have pw:=uj.mp ch
   rcases uQ i j with h | h | h
   ·have:=pw i j hi hj h
    rw[ei,ej]at this
    exact absurd this (hc y hy x hx (Ne.symm e))
   ·subst h;rw[<- ei,<- ej]
   ·have:=pw j i hj hi h
    rw[ei,ej]at this
    exact absurd this (hc x hx y hy e))
 simpa using this
noncomputable def jm(ab:List (List Nat))(m:Nat)(F:FL):List Nat->List Nat->List Nat
 |[],T=>T
 |a::as,T=>jm ab m F as (zm ab m a F T).2.2
structure HT(ab:List (List Nat))(N:Nat)(F:FL)(T:List Nat):Prop where
 tk:TOk N T
 cl:∀ p∈T,∃ s,fat F p=some s/\∀ q∈up ab s,q∈T
include hab in
theorem WQ(I:Inv ab N N F){m:Nat}(hm:N<m){a:Nat}(ha:a∈zj N F){T:List Nat}(h:HT ab N F T) :
  (zm ab m a F T).1=false/\(zm ab m a F T).2.1=F/\HT ab N F (zm ab m a F T).2.2/\(∀ p∈T,p∈(zm ab m a F T).2.2)/\∀ q∈up ab a,q∈(zm ab m a F T).2.2:=by
 have hf:=(qh N F a).mp ha
 obtain⟨Z,hZ,hz⟩:=I.dead
 have h1:=Zh hZ m a T (hz a hf.1 hf.2)
 have v':Val ab N F T:=⟨I.val.len,I.val.edge,fun p q s _ _=>I.val.inj p q s (fun h=>nomatch h) (fun h=>nomatch h)⟩
 have sp:=jp hab m a F T v' h.tk (by omega) hf.1 fun p _=>hf.2 p
 refine⟨h1,sp.same h1,⟨sp.tok,fun p hp=>?_⟩,sp.sub,sp.all h1⟩
 by_cases hT:p∈T
 ·obtain⟨s,e,g⟩:=h.cl p hT
  exact⟨s,e,fun q hq=>sp.sub q (g q hq)⟩
 ·exact sp.dead h1 p hp hT
include hab in
theorem Wb(I:Inv ab N N F){m:Nat}(hm:N<m):∀ (fs T:List Nat),(∀ a∈fs,a∈zj N F)->HT ab N F T->HT ab N F (jm ab m F fs T)/\(∀ p∈T,p∈jm ab m F fs T)/\∀ a∈fs,∀ q∈up ab a,q∈jm ab m F fs T
 |[],T,_,h=>⟨h,fun _ h=>h,fun _ h=>nomatch h⟩
 |a::fs,T,hf,h=>by
  obtain⟨h1,h2,h3,h4,h5⟩:=WQ hab I hm (hf a (by simp)) h
  obtain⟨g1,g2,g3⟩:=Wb I hm fs _ (fun a h=>hf a (xl _ h)) h3
  refine⟨g1,fun p hp=>g2 p (h4 p hp),fun b hb q hq=>?_⟩
  rcases xo.mp hb with rfl | hb
  ·exact g2 q (h5 q hq)
  ·exact g3 b hb q hq
noncomputable def qA(N:Nat)(F:FL)(T:List Nat):List Nat:=zj N F++T.map fun p=>(fat F p).getD 0
noncomputable def wJ(N:Nat)(F:FL)(T:List Nat):List Nat:=(qA N F T).filter fun a=> !T.contains a
theorem Qo(v:Val ab N F []){T:List Nat}(h:HT ab N F T):(qA N F T).Nodup:=by
 unfold qA
 rw[uk]
 refine⟨vw N F,?_,fun a ha b hb=>?_⟩
 ·have key:∀ (l:List Nat),l.Nodup->(∀ p∈l,∃ s,fat F p=some s)->(l.map fun p=>(fat F p).getD 0).Nodup:=by
   intro l
   induction l with
   |nil=>intro _ _;exact .nil
   |cons p l ih2=>
    intro hl hc
    have hn:=xC.mp hl
    refine xC.mpr ⟨fun z=>?_,ih2 hn.2 fun q hq=>hc q (xl _ hq)⟩
    obtain⟨q,hq,e⟩:=xn.mp z
    obtain⟨s,es⟩:=hc p (by simp)
    obtain⟨s',es'⟩:=hc q (xl _ hq)
    have e:(fat F q).getD 0=(fat F p).getD 0:=e
    rw[es,es']at e
    have e:s'=s:=e
    subst e
    have:=v.inj p q s' (fun h=>nomatch h) (fun h=>nomatch h) es es'
    subst this
    exact hn.1 hq
  exact key T h.tk.nd fun q hq=>by
   obtain⟨s,es,_⟩:=h.cl q hq
   exact⟨s,es⟩
 ·obtain⟨q,hq,rfl⟩:=xn.mp hb
  obtain⟨s,es,_⟩:=h.cl q hq
  rw[es]
  intro e
  have e:a=s:=e
  subst e
  exact ((qh N F a).mp ha).2 q es
theorem KZ{T:List Nat}(h:HT ab N F T)(hf:∀ a∈zj N F,∀ q∈up ab a,q∈T){x:Nat}(hx:x∈qA N F T):∀ q∈up ab x,q∈T:=by
 rcases xJ.mp hx with hx | hx
 ·exact hf x hx
 ·obtain⟨p,hp,rfl⟩:=xn.mp hx
  obtain⟨s,es,g⟩:=h.cl p hp
  rw[es];exact g
theorem Q3(v:Val ab N F []){T:List Nat}(h:HT ab N F T){x:Nat}(hx:x∈qA N F T):x<N:=by
 rcases xJ.mp hx with hx | hx
 ·exact ((qh N F x).mp hx).1
 ·obtain⟨p,hp,rfl⟩:=xn.mp hx
  obtain⟨s,es,g⟩:=h.cl p hp
  rw[es];exact (v.edge p s es).1
theorem wR{T:List Nat}(h:HT ab N F T)(hf:∀ a∈zj N F,∀ q∈up ab a,q∈T):∀ x∈wJ N F T,∀ y∈wJ N F T,y∉up ab x:=fun x hx y hy hu=>by
 have h1:=KZ h hf (xr.mp hx).1 y hu
 have h2:=(xr.mp hy).2
 simp[h1]at h2
theorem JE(v:Val ab N F []){T:List Nat}(h:HT ab N F T):(wJ N F T).Nodup:=(Qo v h).filter _
include hab irr tr v in
theorem KH{T:List Nat}(h:HT ab N F T)(hf:∀ a∈zj N F,∀ q∈up ab a,q∈T):(wJ N F T).length=(zj N F).length:=by
 have h1:=zd0 hab irr tr v (JE v h) (fun a ha=>Q3 v h (xr.mp ha).1) (fun x hx y hy _=>wR h hf x hx y hy)
 have h2:=ke (T:=T) (Qo v h)
 have h3:(qA N F T).length=(zj N F).length+T.length:=by simp[qA]
 unfold wJ at h1 |-
 omega
end
end Ku
set_option maxHeartbeats 4000000
namespace Wx
open PySem L2 L3 Ku
theorem zad(ab:List (List Nat)):(ab.map fun r=>PyData.list (za r)).length=ab.length:=by simp
theorem zc1(N:Nat):(List.replicate N (none:Option Nat)).map (fun o=>OV.d (qZ o))=List.replicate N (OV.d .none):=by simp[qZ]
theorem zba(ab:List (List Nat)):(ab.map fun r=>PyData.list (za r)).map (fun _=>PyData.none)=List.replicate ab.length .none:=by
 induction ab with
 |nil=>rfl
 |cons a ab ih=>rw[xI,xI,ih];rfl
theorem VP{m N:Nat}{ab:List (List Nat)}(hab:∀ a p,p∈up ab a->p<N)(hN:N<1000)(hl:ab.length=N)(hm:N<m)(cf:CF)(hcf:jA m N ab cf) :
  runI 3 [false] [] jq cf [.d (zS ab)]=.ok (flO (Zi ab m N (List.replicate N none))) [none]:=by
 have e:=zC (k:=1) (t:=.nm 0 3) (cond:=fYes) (elt:=(p_followers_1.ev cf).1) (ds:=ab.map fun r=>PyData.list (za r)) (Γ:= [some (.d (zS ab)),none,none]) (fun _=>true) (fun _=>.none) (by
  intro x hx
  refine⟨_,_,by simp[tgF];rfl,rfl,by simp,fun _=>⟨.dat .none,[some (.d (zS ab)),none,none,some (.d x)],?_,rfl,by simp⟩⟩
  simp![p_followers_1,OV.view,OV.views,zx,ixN,atI])
 have em:((ab.map fun r=>PyData.list (za r)).filter fun _=>true).map (fun _=>PyData.none)=List.replicate N .none:=by rw[zT,zba,hl]
 rw[em]at e
 have hz:ab.length<=1000000:=by omega
 have hz1: -1000000<=(ab.length:Int)/\(ab.length:Int)<=1000000:=by omega
 have hrl:=zad ab
 obtain⟨Γ',e2,⟨o2,rfl⟩⟩:=qC (t:=.nm 2 2) (body:=p_followers_2.ex cf []) (ds:=zq N) (Γ:= [some (.d (zS ab)),some (flO (List.replicate N none)),none])
  (fun pre Γ=>∃ o2:Option OV,Γ= [some (.d (zS ab)),some (flO (Zi ab m pre.length (List.replicate N none))),o2]) ⟨_,rfl⟩ (by
   rintro pre x post e Γ ⟨o2,rfl⟩
   obtain⟨rfl,hlt⟩:=jH e
   have I:=wF hab hm pre.length (by omega)
   have ec:=hcf pre.length (Zi ab m pre.length (List.replicate N none)) [] I.val ⟨.nil,(fun _ h=>nomatch h)⟩ (by simpa using hm) hlt (fun p _ h=>by have:=I.lt p _ h;omega)
   refine⟨_,[some (.d (zS ab)),some (flO (Zi ab m (pre.length+1) (List.replicate N none))),some (.d (.int pre.length))],by simp[tgF];rfl,?_,some (.d (.int pre.length)),by simp⟩
   rw[show Zi ab m (pre.length+1) (List.replicate N none)=(zm ab m pre.length (Zi ab m pre.length (List.replicate N none)) []).2.1 from rfl]
   generalize zm ab m pre.length (Zi ab m pre.length (List.replicate N none)) []=r at ec
   obtain⟨b,F',T'⟩:=r
   have ec':cf "settle" [.d (.int pre.length),.d (zS ab),flO (Zi ab m pre.length (List.replicate N none)),.l []]=.ok (.d (.bool b)) [none,none,some (flO F'),some (zh T')]:=ec
   unfold flO at ec' |-
   simp![p_followers_2,ec',zfS,zQ])
 rw[zk]at e2
 have hfl:(OV.l (List.replicate N (OV.d .none)))=flO (List.replicate N none):=by unfold flO;rw[zc1]
 have hr:List.length (ab.map fun r=>PyData.list (za r))=N:=by rw[hrl,hl]
 subst hl
 unfold zS at e e2 |-
 simp only[flO,List.map_replicate]at hfl e2
 simp![jq,hz,hz1,e,hfl,e2,flO]
noncomputable def zI(D:List Nat)(ps:List Nat):List Nat:=ps.map fun p=>D.getD p 0
theorem J7{D:List Nat}{p:Nat}(h:p<D.length):atI (za D) (p:Int)=some (.int ((D.getD p 0:Nat):Int)) :=
 qO (by unfold za;rw[xh,xb h,List.getD_eq_getElem?_getD,xb h];rfl)
theorem yz(cf:CF){D:List Nat}{F:Ku.FL}(hF:∀ p s,fat F p=some s->s<D.length/\s<F.length):∀ (n k p:Nat) (acc:List Nat),WA F n p->n<k->acc.length+n<=1000 ->
  Qn (fCmp (cmpD .IsNot) (fVar 2) (fC .none)) (p_row_behind_1.ex cf []) k [some (.d (.list (za D))),some (.d (.list (flD F))),some (.d (qZ (fat F p))),some (zh acc)]
   = .ok (.next,[some (.d (.list (za D))),some (.d (.list (flD F))),some (.d .none),some (zh (acc++zI D (zK F n p)))])
 |n,0,p,acc,he,hk,ha=>by omega
 |0,k+1,p,acc,he,hk,ha=>by
  have he:fat F p=none:=he
  rw[Qn,he]
  simp![zK,zI,qZ,isN]
 |n+1,k+1,p,acc,he,hk,ha=>by
  have he:(match fat F p with
   |none=>True
   |some s=>WA F n s):=he
  rw[Qn]
  cases e:fat F p with
  |none=>
   simp![zK,e,zI,qZ,isN]
  |some s=>
   rw[e]at he
   obtain⟨h1,h2⟩:=hF p s e
   have a1:=J7 h1
   have a2:=kX h2
   have hz:acc.length<1000000:=by omega
   have ih:=yz cf hF n k s (acc++ [D.getD s 0]) he (by omega) (by simp;omega)
   rw[<- ZM]at ih
   have e1:zK F (n+1) p=s::zK F n s:=by rw[zK,e]
   rw[e1]
   have e2:acc++zI D (s::zK F n s)=acc++ [D.getD s 0]++zI D (zK F n s):=by simp[zI]
   rw[e2,<- ih]
   simp only[zh]
   simp![qZ,isN,p_row_behind_1,a1,a2,hz]
theorem zgD(cf:CF){D:List Nat}{F:Ku.FL}(hF:∀ p s,fat F p=some s->s<D.length/\s<F.length){n p:Nat}(he:WA F n p)(hn:n<=1000)(hp:p<F.length) :
  runI 4 [false,false,false] [] j3 cf [.d (.list (za D)),.d (.list (flD F)),.d (.int p)]=.ok (zh (zI D (zK F n p))) [none,none,none]:=by
 have a2:=kX hp
 have e:kg 1000000 (fCmp (cmpD .IsNot) (fVar 2) (fC .none)) (p_row_behind_1.ex cf []) [some (.d (.list (za D))),some (.d (.list (flD F))),some (.d (qZ (fat F p))),some (.l [])]=_:=yz cf hF n 1000000 p [] he (by omega) (by simpa using hn)
 rw[uD]at e
 simp only[zh]at e |-
 simp![j3,a2]
 rw[e]
 simp[outs]
end Wx
set_option maxHeartbeats 4000000
namespace Wx
open PySem L2 L3 Ku
structure Dys(pots:Nat)(D:List Nat):Prop where
 inc:D.Pairwise (·<·)
 lt:∀ d∈D,d<pots
theorem Dys.nodup{pots:Nat}{D:List Nat}(h:Dys pots D):D.Nodup:=h.inc.imp fun h=>xu h
theorem Dys.len{pots:Nat}{D:List Nat}(h:Dys pots D):D.length<=pots:=Wh h.nodup h.lt
theorem zR(cs:List Cl)(p:Nat):Dys p (zi cs p):=⟨vb cs p,fun _ h=>wV h⟩
theorem Dys.filter{pots:Nat}{D:List Nat}(h:Dys pots D)(q:Nat->Bool):Dys pots (D.filter q):=⟨h.inc.filter _,fun d hd=>h.lt d (xr.mp hd).1⟩
theorem vo{D:List Nat}(h:D.Pairwise (·<=·)):Qk (D.map fun (i:Nat)=>(i:Int))=D.map fun (i:Nat)=>(i:Int):=by
 refine (wN (List.Perm.refl _) ?_).symm
 rw[uu]
 exact h.imp fun h=>by omega
theorem Dys.le{pots:Nat}{D:List Nat}(h:Dys pots D):D.Pairwise (·<=·):=h.inc.imp fun h=>uq h
theorem jV(D:List Nat):(D.map fun (i:Nat)=>(i:Int)).map PyData.int=za D:=by rw[List.map_map];rfl
noncomputable def zF(cs:List Cl)(d:Nat):PyData:=.tuple [.int (d:Int),.list (za (zc cs d))]
theorem za0 (cf:CF) (hl:qE "lacking" cf){pots:Nat}(hp:pots<=12){cs:List Cl}(hb:Bolt pots cs){D:List Nat}(hD:Dys pots D):runI 2 [false,false] [] jS cf [.d (zb cs),.d (.list (za D))]=.ok (.l ((D.map (zF cs)).map .d)) [none,none]:=by
 have hn:=hD.len
 have e:=zC (k:=1) (t:=.nm 0 2) (cond:=fYes) (elt:=(p_with_cells_1.ev cf).1) (ds:=za D) (Γ:= [some (.d (zb cs)),some (.d (.list (za D)))]) (fun _=>true) (fun x=>match x with | .int i=>zF cs i.toNat | _=>.none) (by
  intro x hx
  obtain⟨i,hi,rfl⟩:=xn.mp hx
  have el:=hl pots cs hb i (hD.lt i hi)
  have v:=zn (zc cs i)
  refine⟨_,_,by simp[tgF];rfl,rfl,by simp,fun _=>⟨.dat (zF cs i),[some (.d (zb cs)),some (.d (.list (za D))),some (.d (.int i))],?_,rfl,by simp⟩⟩
  simp only[zh]at el v
  simp![p_with_cells_1,el,v,zF])
 have em:((za D).filter fun _=>true).map (fun x=>match x with | .int i=>zF cs i.toNat | _=>.none)=D.map (zF cs):=by
  rw[zT];unfold za;rw[List.map_map];rfl
 rw[em]at e
 have hi:=qG D
 have hs:=vo hD.le
 have hs2:=jV D
 have h64:D.length<64:=by omega
 have hz:D.length<=1000000:=by omega
 simp![jS,wS,hi,h64,hs,hs2,zt,hz]
 rw[e]
 simp[outs]
noncomputable def ZJ(cs:List Cl)(D:List Nat)(d:Nat):List Nat:=((List.range D.length).filter fun j=>j7 d (D.getD j 0) (zc cs d) (zc cs (D.getD j 0)))++(if (zc cs d).any (ju cs) then [] else [D.length])
noncomputable def abv(cs:List Cl)(D:List Nat):List (List Nat):=D.map (ZJ cs D)++ [[]]
theorem YQ{cs:List Cl}{D:List Nat}{pre post:List PyData}{x:PyData}(e:qx (D.map (zF cs))=pre++x::post):pre.length<D.length/\x=.tuple [.int pre.length,zF cs (D.getD pre.length 0)]:=by
 obtain⟨y,hy,rfl⟩:=wb e
 rw[xh]at hy
 cases hc:D[pre.length]? with
 |none=>rw[hc]at hy;cases hy
 |some d=>
  rw[hc]at hy
  have:y=zF cs d:=by simpa using hy.symm
  subst this
  refine⟨(xc.mp hc).1,?_⟩
  rw[List.getD_eq_getElem?_getD,hc];rfl
theorem yT(cf:CF)(hlo:JR cf){cs:List Cl}(hcl:cs.length<=60){D:List Nat}{d:Nat}{o0 o1 o3 o5:Option OV} :
  qr 2 (.tp (.cons (.nm 0 6) (.cons (.nm 1 7) .nil))) (p_places_above_1.ev cf) (p_places_above_2.ev cf).1 (qx (D.map (zF cs))) [] [o0,o1,some (.d (.list (D.map (zF cs)))),o3,some (.d (zF cs d)),o5]
   = .ok (za ((List.range D.length).filter fun j=>j7 d (D.getD j 0) (zc cs d) (zc cs (D.getD j 0))),[o0,o1,some (.d (.list (D.map (zF cs)))),o3,some (.d (zF cs d)),o5]):=by
 obtain⟨ys,Γ',e,rfl,rfl⟩:=qi (k:=2) (t:=.tp (.cons (.nm 0 6) (.cons (.nm 1 7) .nil))) (cond:=p_places_above_1.ev cf) (elt:=(p_places_above_2.ev cf).1) (ds:=qx (D.map (zF cs))) (Γ:= [o0,o1,some (.d (.list (D.map (zF cs)))),o3,some (.d (zF cs d)),o5])
  (fun pre ys Γ=>ys=za ((List.range pre.length).filter fun j=>j7 d (D.getD j 0) (zc cs d) (zc cs (D.getD j 0)))/\Γ= [o0,o1,some (.d (.list (D.map (zF cs)))),o3,some (.d (zF cs d)),o5]) ⟨rfl,rfl⟩ (by
   rintro pre x post e ys Γ ⟨rfl,rfl⟩
   obtain⟨hlt,rfl⟩:=YQ e
   generalize hj:D.getD pre.length 0=dj
   have ec:=hlo d dj (zc cs d) (zc cs dj) (xM (QT cs d) hcl) (xM (QT cs dj) hcl)
   refine⟨_,j7 d dj (zc cs d) (zc cs dj),[o0,o1,some (.d (.list (D.map (zF cs)))),o3,some (.d (zF cs d)),o5,some (.d (.int pre.length)),some (.d (zF cs dj))],by simp[tgF,tgFs];rfl,?_,fun h=>⟨.dat (.int pre.length),[o0,o1,some (.d (.list (D.map (zF cs)))),o3,some (.d (zF cs d)),o5,some (.d (.int pre.length)),some (.d (zF cs dj))],.int pre.length,by simp![p_places_above_2],rfl,?_,by simp⟩,fun h=>⟨?_,by simp⟩⟩
   ·have ec':cf "is_lower" [.d (zF cs d),.d (zF cs dj)]=.ok (.d (.bool (j7 d dj (zc cs d) (zc cs dj)))) [none,none]:=ec
    simp![p_places_above_1,ec',zQ]
   ·simp[xR,xO,hj,h,za,-List.getD_eq_getElem?_getD]
   ·simp[xR,xO,hj,h,za,-List.getD_eq_getElem?_getD])
 rw[qu,xi]at e
 exact e
theorem zbd(cs:List Cl)(d:Nat):atI [PyData.int (d:Int),PyData.list (za (zc cs d))] 0=some (PyData.int (d:Int)):=rfl
theorem YV(cf:CF)(hlo:JR cf)(hw:zbQ cf){pots:Nat}(hp:pots<=12){cs:List Cl}(hb:Bolt pots cs)(hcl:cs.length<=60){D:List Nat}(hD:Dys pots D){d:Nat}(hd:d∈D){told:List PyData}(hz:told.length<1000){o5:Option OV} :
  p_places_above_3.ex cf [] [some (.d (zb cs)),some (.d (.list (za D))),some (.d (.list (D.map (zF cs)))),some (.l (told.map .d)),some (.d (zF cs d)),o5]
   = .ok (.next,[some (.d (zb cs)),some (.d (.list (za D))),some (.d (.list (D.map (zF cs)))),some (.l ((told++ [PyData.list (za (ZJ cs D d))]).map .d)),some (.d (zF cs d)),some (.d (.list (za (ZJ cs D d))))]):=by
 have hn:=hD.len
 have e:=yT cf hlo hcl (D:=D) (d:=d) (o0:=some (.d (zb cs))) (o1:=some (.d (.list (za D)))) (o3:=some (.l (told.map .d))) (o5:=o5)
 have e1:=hw pots cs hb d (hD.lt d hd)
 have hv:=zn ((zc cs d).filter (ju cs))
 have hf:=Yk (zc cs d) (ju cs)
 have hz1:D.length<=1000000:=by omega
 have hz2:told.length<1000000:=by omega
 have hz4:((List.range D.length).filter fun j=>j7 d (D.getD j 0) (zc cs d) (zc cs (D.getD j 0))).length<1000000:=by
  have:=xS (fun j=>j7 d (D.getD j 0) (zc cs d) (zc cs (D.getD j 0))) (List.range D.length)
  rw[xK]at this;omega
 have a0:=zbd cs d
 simp only[zh]at e1 hv
 unfold ZJ
 generalize hR:((List.range D.length).filter fun j=>j7 d (D.getD j 0) (zc cs d) (zc cs (D.getD j 0)))=rw0 at *
 have hz5:(za rw0).length<1000000:=by rw[zt];exact hz4
 cases hwt:(zc cs d).any (ju cs) with
 |true=>
  rw[hwt]at hf
  have hvw:(OV.l ((za rw0).map .d)).view=.list (za rw0):=jP _
  simp only[zF]at e |-
  simp![p_places_above_3,hz1,hz2,qu,e,a0,e1,hv,hf,hvw]
 |false=>
  rw[hwt]at hf
  have hvw:(OV.l ((za rw0).map .d++ [.d (.int (D.length:Int))])).view=.list (za (rw0++ [D.length])):=by
   have:=jP (za (rw0++ [D.length]))
   simpa [za] using this
  simp only[zF]at e |-
  simp![p_places_above_3,hz1,hz2,hz5,qu,e,a0,e1,hv,hf,hvw]
theorem KF (cf:CF) (hc:∀ (pots:Nat) (cs:List Cl) (D:List Nat),pots<=12->Bolt pots cs->Dys pots D->cf "with_cells" [.d (zb cs),.d (.list (za D))]=.ok (.l ((D.map (zF cs)).map .d)) [none,none])
  (hlo:JR cf) (hw:zbQ cf) {pots:Nat} (hp:pots<=12) {cs:List Cl} (hb:Bolt pots cs) (hcl:cs.length<=60) {D:List Nat} (hD:Dys pots D) :
  runI 6 [false,false] [] jd cf [.d (zb cs),.d (.list (za D))]=.ok (.l ((abv cs D).map fun r=>.d (.list (za r)))) [none,none]:=by
 have hn:=hD.len
 have e1:=hc pots cs D hp hb hD
 have v1:=jP (D.map (zF cs))
 obtain⟨Γ',e2,⟨o4,o5,rfl⟩⟩:=qC (t:=.nm 4 4) (body:=p_places_above_3.ex cf []) (ds:=D.map (zF cs)) (Γ:= [some (.d (zb cs)),some (.d (.list (za D))),some (.d (.list (D.map (zF cs)))),some (.l []),none,none])
  (fun pre Γ=>∃ o4 o5:Option OV,Γ= [some (.d (zb cs)),some (.d (.list (za D))),some (.d (.list (D.map (zF cs)))),some (.l (((D.take pre.length).map fun d=>PyData.list (za (ZJ cs D d))).map .d)),o4,o5]) ⟨_,_,rfl⟩ (by
   rintro pre x post e Γ ⟨o4,o5,rfl⟩
   have hlt:=Zv e
   rw[xi]at hlt
   have hx:x=zF cs D[pre.length]:=by
    have:(D.map (zF cs))[pre.length]?=some x:=by rw[e];simp
    rw[xh,xb hlt]at this
    simpa using this.symm
   subst hx
   have er:=YV cf hlo hw hp hb hcl hD (xT hlt) (told:=(D.take pre.length).map fun d=>PyData.list (za (ZJ cs D d))) (by simp;omega) (o5:=o5)
   refine⟨_,_,by simp[tgF],er,some (.d (zF cs D[pre.length])),some (.d (.list (za (ZJ cs D D[pre.length])))),?_⟩
   simp only[xw,xk,uf,ue,uH,xb hlt,xV,Option.toList_some,xI,List.map_nil])
 rw[xi,uw]at e2
 have hz1:D.length<=1000000:=by omega
 have hz2:D.length+1<=1000000:=by omega
 have hlv:=zbG (D.map fun d=>PyData.list (za (ZJ cs D d)))
 simp only[List.map_map]at e1 e2 hlv v1
 simp![jd,e1,v1,e2,hlv,Y2,hz2]
 simp[abv,za,outs]
end Wx
set_option maxHeartbeats 4000000
namespace Wx
open PySem L2 L3 Ku
noncomputable def num(D:List Nat)(i:Nat):Nat:=(D++ [12]).getD i 0
theorem Q4{D:List Nat}{i:Nat}(h:i<D.length):num D i=D.getD i 0:=by
 unfold num
 rw[List.getD_eq_getElem?_getD,xf h,List.getD_eq_getElem?_getD]
theorem yK(D:List Nat):num D D.length=12:=by
 unfold num
 rw[List.getD_eq_getElem?_getD,xg (xm _)];simp
theorem zeS{D:List Nat}{i:Nat}(h:i<=D.length):num D i∈D++ [12]:=by
 unfold num
 have hl:i<(D++ [12]).length:=by simp;omega
 rw[List.getD_eq_getElem?_getD,xb hl]
 exact xT hl
theorem Dys.getD{pots:Nat}{D:List Nat}(h:Dys pots D){i:Nat}(hi:i<D.length):D.getD i 0<pots:=by
 refine h.lt _ ?_
 rw[List.getD_eq_getElem?_getD,xb hi]
 exact xT hi
section
variable {pots:Nat} (hp:pots<=12) {D:List Nat} (hD:Dys pots D) (cs:List Cl)
include hp hD in
theorem KD:(D++ [12]).Nodup:=by
 rw[uk]
 refine⟨hD.nodup,by simp,fun a ha b hb=>?_⟩
 have:b=12:=by simpa using hb
 have:=hD.lt a ha
 omega
include hp hD in
theorem zev{i j:Nat}(hi:i<=D.length)(hj:j<=D.length)(h:num D i=num D j):i=j:=by
 have hl:(D++ [12]).length=D.length+1:=by simp
 have h1:i<(D++ [12]).length:=by omega
 have h2:j<(D++ [12]).length:=by omega
 unfold num at h
 rw[List.getD_eq_getElem?_getD,xb h1,List.getD_eq_getElem?_getD,xb h2]at h
 have pw:=uj.mp (KD hp hD)
 rcases uQ i j with h3 | h3 | h3
 ·exact absurd h (pw i j h1 h2 h3)
 ·exact h3
 ·exact absurd h.symm (pw j i h2 h1 h3)
theorem ZB:(abv cs D).length=D.length+1:=by simp[abv]
include hp hD in
theorem zcf{i j:Nat}(hi:i<D.length)(hj:j<D.length):j7 (D.getD i 0) (D.getD j 0) (zc cs (D.getD i 0)) (zc cs (D.getD j 0))=ub cs (D.getD i 0) (D.getD j 0):=by
 have h1:=hD.getD hi
 have h2:=hD.getD hj
 generalize D.getD i 0=a at *
 generalize D.getD j 0=b at *
 unfold ub
 by_cases e:a=b
 ·subst e;simp[j7]
 ·rw[if_neg (by omega),if_neg (by omega)]
include hp hD in
theorem Zj(i j:Nat):j∈up (abv cs D) i↔i<=D.length/\j<=D.length/\ub cs (num D i) (num D j)=true:=by
 unfold up abv
 by_cases hi:i<D.length
 ·rw[xf (by simpa using hi),xh,xb hi]
  show j∈ZJ cs D D[i]↔_
  have hd:D[i]=D.getD i 0:=by rw[List.getD_eq_getElem?_getD,xb hi];rfl
  rw[hd,Q4 hi]
  unfold ZJ
  have hlt:=hD.getD hi
  rw[xJ,xr,xE]
  constructor
  ·rintro (⟨h1,h2⟩ | h)
   ·rw[zcf hp hD cs hi h1]at h2
    exact⟨by omega,by omega,by rw[Q4 h1];exact h2⟩
   ·split at h
    ·cases h
    ·rename_i hw
     have:j=D.length:=by simpa using h
     subst this
     refine⟨by omega,xm _,?_⟩
     rw[yK]
     unfold ub
     rw[if_neg (by omega),if_pos rfl]
     simpa using hw
  ·rintro⟨_,h2,h3⟩
   by_cases hj:j<D.length
   ·rw[Q4 hj]at h3
    exact .inl ⟨hj,by rw[zcf hp hD cs hi hj];exact h3⟩
   ·have:j=D.length:=by omega
    subst this
    rw[yK]at h3
    unfold ub at h3
    rw[if_neg (by omega),if_pos rfl]at h3
    right
    rw[if_neg (by simpa using h3)]
    simp
 ·rw[xg (by simpa using Nat.le_of_not_lt hi)]
  constructor
  ·intro h
   by_cases he:i=D.length
   ·subst he;simp at h
   ·rw[xj (by simp;omega)]at h;cases h
  ·rintro⟨h1,h2,h3⟩
   have:i=D.length:=by omega
   subst this
   rw[yK,zaZ]at h3;cases h3
include hp hD in
theorem JK:∀ a p,p∈up (abv cs D) a->p<D.length+1:=fun a p h=>by
 have:=((Zj hp hD cs a p).mp h).2.1;omega
include hp hD in
theorem YL:∀ a,a∉up (abv cs D) a:=fun a h=>by
 have:=((Zj hp hD cs a a).mp h).2.2
 rw[zg5]at this;cases this
include hp hD in
theorem yh:∀ a b c,b∈up (abv cs D) a->c∈up (abv cs D) b->c∈up (abv cs D) a:=fun a b c h1 h2=>by
 have g1:=(Zj hp hD cs a b).mp h1
 have g2:=(Zj hp hD cs b c).mp h2
 exact (Zj hp hD cs a c).mpr ⟨g1.1,g2.2.1,zcb cs _ _ _ g1.2.2 g2.2.2⟩
noncomputable def FF(cs:List Cl)(D:List Nat):Ku.FL:=Zi (abv cs D) 14 (D.length+1) (List.replicate (D.length+1) none)
include hp hD in
theorem jw:Ku.Inv (abv cs D) (D.length+1) (D.length+1) (FF cs D):=wF (JK hp hD cs) (by have:=hD.len;omega) _ (xm _)
noncomputable def wid(cs:List Cl)(D:List Nat):Nat:=(zj (D.length+1) (FF cs D)).length
noncomputable def Apt(cs:List Cl)(A:List Nat):Prop:=∀ x∈A,∀ y∈A,x≠y->ub cs x y=false
noncomputable def TT(cs:List Cl)(D:List Nat):List Nat:=jm (abv cs D) 14 (FF cs D) (zj (D.length+1) (FF cs D)) []
noncomputable def qK(cs:List Cl)(D:List Nat):List Nat:=(wJ (D.length+1) (FF cs D) (TT cs D)).map (num D)
include hp hD in
theorem zfo:HT (abv cs D) (D.length+1) (FF cs D) (TT cs D)/\∀ a∈zj (D.length+1) (FF cs D),∀ q∈up (abv cs D) a,q∈TT cs D:=by
 have:=Wb (JK hp hD cs) (jw hp hD cs) (m:=14) (by have:=hD.len;omega) (zj (D.length+1) (FF cs D)) [] (fun _ h=>h) ⟨⟨.nil,(fun _ h=>nomatch h)⟩,(fun _ h=>nomatch h)⟩
 exact⟨this.1,this.2.2⟩
include hp hD in
theorem vg:(qK cs D).Nodup/\(∀ x∈qK cs D,x∈D++ [12])/\Apt cs (qK cs D)/\(qK cs D).length=wid cs D:=by
 have I:=jw hp hD cs
 obtain⟨h1,h2⟩:=zfo hp hD cs
 have hlt:∀ i∈wJ (D.length+1) (FF cs D) (TT cs D),i<=D.length:=fun i hi=>by
  have:=Q3 I.val h1 (xr.mp hi).1;omega
 refine⟨?_,fun x hx=>?_,fun x hx y hy hne=>?_,?_⟩
 ·refine uu.mpr (List.Pairwise.imp_of_mem (fun {i j} hi hj hne e=>?_) (JE I.val h1))
  exact hne (zev hp hD (hlt i hi) (hlt j hj) e)
 ·obtain⟨i,hi,rfl⟩:=xn.mp hx
  exact zeS (hlt i hi)
 ·obtain⟨i,hi,rfl⟩:=xn.mp hx
  obtain⟨j,hj,rfl⟩:=xn.mp hy
  cases e:ub cs (num D i) (num D j) with
  |false=>rfl
  |true=>exact absurd ((Zj hp hD cs i j).mpr ⟨hlt i hi,hlt j hj,e⟩) (wR h1 h2 i hi j hj)
 ·have:=KH (JK hp hD cs) (YL hp hD cs) (yh hp hD cs) I.val h1 h2
  simpa [qK,wid] using this
end
noncomputable def Qr (cf:CF):Prop:=∀ (pots:Nat) (cs:List Cl) (D:List Nat),pots<=12->Bolt pots cs->cs.length<=60->Dys pots D->cf "places_above" [.d (zb cs),.d (.list (za D))]=.ok (.l ((abv cs D).map fun r=>.d (.list (za r)))) [none,none]
noncomputable def vR (cf:CF):Prop:=∀ (pots:Nat) (cs:List Cl) (D:List Nat),pots<=12->Dys pots D->cf "followers" [.d (zS (abv cs D))]=.ok (flO (FF cs D)) [none]
theorem zeW{pots:Nat}(hp:pots<=12){D:List Nat}(hD:Dys pots D)(cs:List Cl)(cf:CF)(hs:∀ (N:Nat) (ab:List (List Nat)),(∀ a p,p∈up ab a->p<N)->N<1000->ab.length=N->jA 14 N ab cf):runI 3 [false] [] jq cf [.d (zS (abv cs D))]=.ok (flO (FF cs D)) [none]:=by
 have hn:=hD.len
 exact VP (JK hp hD cs) (by omega) (ZB cs) (by omega) cf (hs _ _ (JK hp hD cs) (by omega) (ZB cs))
theorem Jd(ab:List (List Nat)):(OV.l (ab.map fun r=>OV.d (.list (za r)))).view=zS ab:=by
 unfold zS
 rw[OV.view,OV.views_map,List.map_map];rfl
theorem zbt(F:Ku.FL):ZR .none (flD F)=F.countP fun o=>o.isNone:=by
 unfold ZR flD
 rw[List.countP_map]
 refine List.countP_congr fun o _=>?_
 cases o<;>simp[qZ,PyData.eqv]
theorem V6(cf:CF)(hpl:Qr cf)(hf:vR cf){pots:Nat}(hp:pots<=12){cs:List Cl}(hb:Bolt pots cs)(hcl:cs.length<=60){D:List Nat}(hD:Dys pots D) :
  runI 3 [false,false] [] ja cf [.d (zb cs),.d (.list (za D))]=.ok (.d (.int ((wid cs D:Int)-1))) [none,none]:=by
 have e1:=hpl pots cs D hp hb hcl hD
 have e2:=hf pots cs D hp hD
 have v1:=Jd (abv cs D)
 have v2:=wE (FF cs D)
 have hc:=zbt (FF cs D)
 have hw:wid cs D=(FF cs D).countP fun o=>o.isNone:=Yo (jw hp hD cs).val
 have hal:(∀ x∈flD (FF cs D),lay 20 x=true)=True:=eq_true (xA.mp (ZO (FF cs D)))
 rw[<- hw]at hc
 simp only[flO]at e2 v2
 simp![ja,e1,v1,e2,v2,vM,zbo,hal,hc]
noncomputable def WO (cf:CF):Prop:=∀ (pots:Nat) (cs:List Cl) (D:List Nat),pots<=12->Bolt pots cs->cs.length<=60->Dys pots D->cf "boilings_for" [.d (zb cs),.d (.list (za D))]=.ok (.d (.int ((wid cs D:Int)-1))) [none,none]
noncomputable def QD (cf:CF):Prop:=∀ (pots:Nat) (cs:List Cl),pots<=1000->Bolt pots cs->cf "needed" [.d (zb cs)]=.ok (zh (zi cs pots)) [none]
theorem zeD(cf:CF)(hn:QD cf)(hf:WO cf){pots:Nat}(hp:pots<=12){cs:List Cl}(hb:Bolt pots cs)(hcl:cs.length<=60) :
  runI 1 [false] [] ZV cf [.d (zb cs)]=.ok (.d (.int ((wid cs (zi cs pots):Int)-1))) [none]:=by
 have e1:=hn pots cs (by omega) hb
 have e2:=hf pots cs (zi cs pots) hp hb hcl (zR cs pots)
 have v1:=zn (zi cs pots)
 simp only[zh]at e1 v1
 simp![ZV,e1,v1,e2]
noncomputable def zbN (cf:CF):Prop:=∀ (pots:Nat) (cs:List Cl),pots<=12->Bolt pots cs->cs.length<=60->cf "boilings" [.d (zb cs)]=.ok (.d (.int ((wid cs (zi cs pots):Int)-1))) [none]
end Wx
set_option maxHeartbeats 4000000
namespace Wx
open PySem L2 L3 Ku
noncomputable def SameC(cs cs':List Cl):Prop:=∀ c,(∃ d,zU c d=true)->(c∈cs↔c∈cs')
theorem SameC.symm{cs cs':List Cl}(h:SameC cs cs'):SameC cs' cs:=fun c hc=>(h c hc).symm
noncomputable def Yd(c:Cl):Cl:={ c with w:=false }
end Wx
set_option maxHeartbeats 4000000
namespace Wx
open PySem L2 L3 Ku
theorem QF{D:List Nat}{x:PyData}(hx:x∈za D):∃ i∈D,x=.int (i:Int):=by
 obtain⟨i,hi,rfl⟩:=xn.mp hx
 exact⟨i,hi,rfl⟩
end Wx
set_option maxHeartbeats 4000000
namespace Wx
open PySem L2 L3 Ku
theorem zdb(cf:CF){pots:Nat}{cs:List Cl}(hb:Bolt pots cs):runI 1 [false] [] Z5 cf [.d (zb cs)]=.ok (.l ((cs.map Yd).map fun c=>.d c.D)) [none]:=by
 have hcl:=hb.1
 have e:=zC (k:=1) (t:=.nm 0 1) (cond:=fYes) (elt:=(b_law_boil_1.ev cf).1) (ds:=zq cs.length) (Γ:= [some (.d (zb cs))]) (fun _=>true) (fun x=>match x with | .int i=>(match cs[i.toNat]? with | some c=>(Yd c).D | none=>.none) | _=>.none) (by
  intro x hx
  obtain⟨k,hk,rfl⟩:∃ k,k<cs.length/\x=.int (k:Nat):=by
   obtain⟨i,hi,rfl⟩:=xn.mp hx
   exact⟨i,by simpa using hi,rfl⟩
  have hc:cs[k]?=some cs[k]:=xb hk
  generalize cs[k]=c at hc
  have a0:atI (cs.map Cl.D) (k:Int)=some c.D:=qO (by rw[xh,hc];rfl)
  refine⟨_,_,by simp[tgF];rfl,rfl,by simp,fun _=>⟨.dat (Yd c).D,[some (.d (zb cs)),some (.d (.int k))],?_,?_,by simp⟩⟩
  ·simp![b_law_boil_1,zb,a0,Cl.D,qt,zck,zcF,Yd]
  ·simp[derS,hc])
 have hz:cs.length<=1000000:=by omega
 have hz1: -1000000<=(cs.length:Int)/\(cs.length:Int)<=1000000:=by omega
 have em:((zq cs.length).filter fun _=>true).map (fun x=>match x with | .int i=>(match cs[i.toNat]? with | some c=>(Yd c).D | none=>.none) | _=>.none)=(cs.map Yd).map Cl.D:=by
  rw[zT]
  unfold zq
  rw[List.map_map]
  apply xU
  intro i
  rw[xh,xh,xh]
  by_cases hi:i<cs.length
  ·rw[xY hi,xb hi]
   simp[xb hi]
  ·rw[xj (by simpa using hi),xj (by simpa using hi)];rfl
 rw[em]at e
 unfold zb at e |-
 simp![Z5,hz,hz1,zk]
 rw[e]
 simp[outs]
end Wx
set_option maxHeartbeats 4000000
namespace Wx
open PySem L2 L3 Ku
noncomputable def Y5 (cf:CF):Prop:=∀ (pots:Nat) (cs:List Cl),pots<=1000->Bolt pots cs->cf "_law_need" [.d (zb cs),.d (.int pots)]=.ok (zh (zi cs pots)) [none,none]
noncomputable def kG (cf:CF):Prop:=∀ (pots:Nat) (cs:List Cl) (a b:Nat),pots<=12->Bolt pots cs->Mem pots a->Mem pots b->cf "_law_under" [.d (zb cs),.d (.int a),.d (.int b)]=.ok (.d (.bool (ub cs a b))) [none,none,none]
noncomputable def zd3 (cf:CF):Prop:=∀ (pots:Nat) (cs:List Cl) (D:List Nat),pots<=12->Bolt pots cs->Dys pots D->cf "with_cells" [.d (zb cs),.d (.list (za D))]=.ok (.l ((D.map (zF cs)).map .d)) [none,none]
noncomputable def Jv(cf:CF):Prop:=∀ (N:Nat) (ab:List (List Nat)),(∀ a p,p∈up ab a->p<N)->N<1000->ab.length=N->jA 14 N ab cf
noncomputable def kC (cf:CF):Prop:=∀ (pots:Nat) (cs:List Cl),Bolt pots cs->cf "_law_boil" [.d (zb cs)]=.ok (.l ((cs.map Yd).map fun c=>.d c.D)) [none]
theorem wK (defs:List DefI) (h:∀ k,ze defs (k+1) "settle" =runI 5 [false,false,true,true] [2,3] Ze (ze defs k)){N:Nat}{ab:List (List Nat)}(hab:∀ a p,p∈up ab a->p<N) (hN:N<1000) (hl:ab.length=N) (k:Nat):∀ m,jA m N ab (ze defs (k+m))
 |0=>fun a F T _ tk hm _ _=>by have:=Wh tk.nd tk.lt;omega
 |m+1=>fun a F T v tk hm ha hna=>by
  have:=zan hab hN hl (ze defs (k+m)) (wK defs h hab hN hl k m) a F T v tk hm ha hna
  rw[<- this,<- h (k+m)];rfl
theorem zel (defs:List DefI) (h:∀ k,ze defs (k+1) "settle" =runI 5 [false,false,true,true] [2,3] Ze (ze defs k)) (k:Nat):Jv (ze defs (k+14)):=fun N ab hab hN hl=>wK defs h hab hN hl k 14
end Wx
set_option maxHeartbeats 4000000
namespace Wx
open PySem L2 L3 Ku
theorem ze4(F:Ku.FL)(a:Nat):inD (.int (a:Int)) (flD F)=F.contains (some a):=by
 unfold inD flD
 rw[uS,xP,uY,xZ]
 constructor
 ·rintro⟨o,ho,e⟩
  cases o with
  |none=>simp[qZ,PyData.eqv]at e
  |some b=>
   have e2:((b:Int)==(a:Int))=true:=e
   have e3:(b:Int)=(a:Int):=by simpa using e2
   have:b=a:=by omega
   exact this ▸ ho
 ·intro h
  refine⟨some a,h,?_⟩
  show ((a:Int)==(a:Int))=true
  simp
section
variable {pots:Nat} (hp:pots<=12) {D:List Nat} (hD:Dys pots D) (cs:List Cl)
include hp hD in
theorem kE:∀ p s,fat (FF cs D) p=some s->s<D.length/\s<(FF cs D).length:=fun p s e=>by
 have I:=jw hp hD cs
 have h1:=I.val.edge p s e
 have h2:=(Zj hp hD cs s p).mp h1.2
 have hs:s≠D.length:=fun z=>by
  subst z
  rw[yK,zaZ]at h2
  cases h2.2.2
 have h3:=I.val.len
 omega
include hp hD in
theorem Kg(p:Nat):WA (FF cs D) (D.length+1) p:=vO (JK hp hD cs) (YL hp hD cs) (yh hp hD cs) (jw hp hD cs).val _ p (by omega)
end
noncomputable def ql(cs:List Cl)(D:List Nat):List (List Nat):=zI D (zK (FF cs D) (D.length+1) D.length)::((List.range D.length).filter fun a=> !(FF cs D).contains (some a)).map fun a=>D.getD a 0::zI D (zK (FF cs D) (D.length+1) a)
noncomputable def za8 (cf:CF):Prop:=∀ (D:List Nat) (F:Ku.FL) (n p:Nat),(∀ p s,fat F p=some s->s<D.length/\s<F.length)->WA F n p->n<=1000->p<F.length->cf "row_behind" [.d (.list (za D)),.d (.list (flD F)),.d (.int p)]=.ok (zh (zI D (zK F n p))) [none,none,none]
theorem yD(F:Ku.FL):∀ n p,(zK F n p).length<=n
 |0,_=>xm _
 |n+1,p=>by
  rw[zK]
  cases fat F p with
  |none=>simp
  |some s=>simp;exact yD F n s
theorem vS(cf:CF)(hn:QD cf)(hpl:Qr cf)(hf:vR cf)(hr:za8 cf){pots:Nat}(hp:pots<=12){cs:List Cl}(hb:Bolt pots cs)(hcl:cs.length<=60) :
  runI 4 [false] [] Zq cf [.d (zb cs)]=.ok (.l ((ql cs (zi cs pots)).map fun r=>.d (.list (za r)))) [none]:=by
 have hD:=zR cs pots
 have hln:=hD.len
 have e1:=hn pots cs (by omega) hb
 generalize zi cs pots=D at hD hln e1 |-
 have e2:=hpl pots cs D hp hb hcl hD
 have e3:=hf pots cs D hp hD
 have v1:=zn D
 have v2:=Jd (abv cs D)
 have v3:=wE (FF cs D)
 have I:=jw hp hD cs
 have hFl:=I.val.len
 have e4:=hr D (FF cs D) (D.length+1) D.length (kE hp hD cs) (Kg hp hD cs D.length) (by omega) (by omega)
 have v4:=zn (zI D (zK (FF cs D) (D.length+1) D.length))
 have hz:D.length<=1000000:=by omega
 have hz1: -1000000<=(D.length:Int)/\(D.length:Int)<=1000000:=by omega
 have e:=zC (k:=1) (t:=.nm 0 4) (cond:=p_stretches_1.ev cf) (elt:=(p_stretches_2.ev cf).1) (ds:=zq D.length) (Γ:= [some (.d (zb cs)),some (.d (.list (za D))),some (.d (.list (flD (FF cs D)))),some (.d (.list (za (zI D (zK (FF cs D) (D.length+1) D.length)))))])
  (fun x=>match x with | .int i=> !(FF cs D).contains (some i.toNat) | _=>false) (fun x=>match x with | .int i=>.list (za (D.getD i.toNat 0::zI D (zK (FF cs D) (D.length+1) i.toNat))) | _=>.none) (by
   intro x hx
   obtain⟨a,ha,rfl⟩:∃ a,a<D.length/\x=.int (a:Nat):=by
    obtain⟨i,hi,rfl⟩:=xn.mp hx
    exact⟨i,by simpa using hi,rfl⟩
   have h1:=ze4 (FF cs D) a
   have h2:(∀ x∈flD (FF cs D),lay 20 x=true)=True:=eq_true (xA.mp (ZO (FF cs D)))
   have e5:=hr D (FF cs D) (D.length+1) a (kE hp hD cs) (Kg hp hD cs a) (by omega) (by omega)
   have v5:=zn (zI D (zK (FF cs D) (D.length+1) a))
   have a1:=J7 ha
   have hl5:1+(za (zI D (zK (FF cs D) (D.length+1) a))).length<=1000000:=by
    rw[zt]
    have:=yD (FF cs D) (D.length+1) a
    simp[zI];omega
   have ht:((a:Int)).toNat=a:=by simp
   simp only[ht]
   simp only[zh]at e5 v5
   refine⟨[some (.d (zb cs)),some (.d (.list (za D))),some (.d (.list (flD (FF cs D)))),some (.d (.list (za (zI D (zK (FF cs D) (D.length+1) D.length))))),some (.d (.int a))],[some (.d (zb cs)),some (.d (.list (za D))),some (.d (.list (flD (FF cs D)))),some (.d (.list (za (zI D (zK (FF cs D) (D.length+1) D.length))))),some (.d (.int a))],rfl,?_,by simp,fun _=>⟨.dat (.list (za (D.getD a 0::zI D (zK (FF cs D) (D.length+1) a)))),[some (.d (zb cs)),some (.d (.list (za D))),some (.d (.list (flD (FF cs D)))),some (.d (.list (za (zI D (zK (FF cs D) (D.length+1) D.length))))),some (.d (.int a))],?_,rfl,by simp⟩⟩
   ·simp![p_stretches_1,zl,h1,h2]
   ·generalize zI D (zK (FF cs D) (D.length+1) a)=W at *
    simp![p_stretches_2,a1,e5,v5,Y2,hl5]
    simp[za])
 have em:((zq D.length).filter (fun x=>match x with | .int i=> !(FF cs D).contains (some i.toNat) | _=>false)).map (fun x=>match x with | .int i=>PyData.list (za (D.getD i.toNat 0::zI D (zK (FF cs D) (D.length+1) i.toNat))) | _=>.none)=(((List.range D.length).filter fun a=> !(FF cs D).contains (some a)).map fun a=>D.getD a 0::zI D (zK (FF cs D) (D.length+1) a)).map fun r=>.list (za r):=by
  unfold zq
  rw[uN,List.map_map,List.map_map];rfl
 rw[em]at e
 have hzl:((((List.range D.length).filter fun a=> !(FF cs D).contains (some a)).map fun a=>D.getD a 0::zI D (zK (FF cs D) (D.length+1) a)).map fun r=>PyData.list (za r)).length<=100:=by
  rw[xi,xi]
  have:=xS (fun a=> !(FF cs D).contains (some a)) (List.range D.length)
  rw[xK]at this;omega
 simp only[zh]at e1 v1 e4 v4
 simp only[flO]at e3 v3
 unfold ql
 generalize hS:((((List.range D.length).filter fun a=> !(FF cs D).contains (some a)).map fun a=>D.getD a 0::zI D (zK (FF cs D) (D.length+1) a)))=SL at *
 generalize zI D (zK (FF cs D) (D.length+1) D.length)=W at *
 have hz3:1+SL.length<=1000000:=by simp at hzl;omega
 simp![Zq,e1,v1,e2,v2,e3,v3,zt,e4,v4,hz,hz1,zk,Y2]
 rw[e]
 simp![hz3]
noncomputable def zfa (cf:CF):Prop:=∀ (pots:Nat) (cs:List Cl),pots<=12->Bolt pots cs->cs.length<=60->cf "stretches" [.d (zb cs)]=.ok (.l ((ql cs (zi cs pots)).map fun r=>.d (.list (za r)))) [none]
end Wx
set_option maxHeartbeats 4000000
namespace Wx
open PySem L2 L3 Ku
noncomputable def j6(A:List Nat):List Nat:=A.mergeSort fun a b=>decide (a<=b)
theorem Z3(A:List Nat):(j6 A).Perm A:=List.mergeSort_perm _ _
theorem wy(A:List Nat):(j6 A).Pairwise (·<=·):=by
 have h:=List.pairwise_mergeSort (le:=fun a b:Nat=>decide (a<=b)) (by intro a b c h1 h2;simp at *;omega) (by intro a b;simp;omega) A
 exact h.imp fun {a b} h=>by simpa using h
theorem Z0(A:List Nat):Qk (A.map fun (i:Nat)=>(i:Int))=(j6 A).map fun (i:Nat)=>(i:Int):=by
 refine (wN ((Z3 A).map _) ?_).symm
 rw[uu]
 exact (wy A).imp fun h=>by omega
theorem yr(cf:CF){F:Ku.FL}{N:Nat}{o0 o1 o2 o4 o5 o6 o7 o8:Option OV} :
  qr 1 (.nm 0 9) (p_held_1.ev cf) (p_held_2.ev cf).1 (zq N) [] [o0,o1,o2,some (flO F),o4,o5,o6,o7,o8]=.ok (za (zj N F),[o0,o1,o2,some (flO F),o4,o5,o6,o7,o8]):=by
 have e:=zC (k:=1) (t:=.nm 0 9) (cond:=p_held_1.ev cf) (elt:=(p_held_2.ev cf).1) (ds:=zq N) (Γ:= [o0,o1,o2,some (flO F),o4,o5,o6,o7,o8]) (fun x=>match x with | .int i=> !F.contains (some i.toNat) | _=>false) id (by
  intro x hx
  obtain⟨a,ha,rfl⟩:∃ a,a<N/\x=.int (a:Nat):=by
   obtain⟨i,hi,rfl⟩:=xn.mp hx
   exact⟨i,by simpa using hi,rfl⟩
  have h1:=ze4 F a
  have h2:(∀ x∈flD F,lay 20 x=true)=True:=eq_true (xA.mp (ZO F))
  have v:=wE F
  have ht:((a:Int)).toNat=a:=by simp
  simp only[ht]
  refine⟨[o0,o1,o2,some (flO F),o4,o5,o6,o7,o8,some (.d (.int a))],[o0,o1,o2,some (flO F),o4,o5,o6,o7,o8,some (.d (.int a))],rfl,?_,by simp,fun _=>⟨.dat (.int a),[o0,o1,o2,some (flO F),o4,o5,o6,o7,o8,some (.d (.int a))],by simp![p_held_2],rfl,by simp⟩⟩
  simp only[flO]at v |-
  simp![p_held_1,zl,v,h1,h2])
 have em:(zq N).filter (fun x=>match x with | .int i=> !F.contains (some i.toNat) | _=>false)=za (zj N F):=by
  unfold zq zj za
  rw[uN];rfl
 rw[em,List.map_id]at e
 exact e
theorem KB(cf:CF){ab:List (List Nat)}{N:Nat}{F:Ku.FL}(hFl:F.length=N){T:List Nat}(h:HT ab N F T){o0 o1 o2 o4 o6 o7 o8:Option OV} :
  qr 1 (.nm 0 9) fYes (p_held_4.ev cf).1 (za T) [] [o0,o1,o2,some (flO F),o4,some (.d (.list (za T))),o6,o7,o8]=.ok (za (T.map fun p=>(fat F p).getD 0),[o0,o1,o2,some (flO F),o4,some (.d (.list (za T))),o6,o7,o8]):=by
 have e:=zC (k:=1) (t:=.nm 0 9) (cond:=fYes) (elt:=(p_held_4.ev cf).1) (ds:=za T) (Γ:= [o0,o1,o2,some (flO F),o4,some (.d (.list (za T))),o6,o7,o8]) (fun _=>true) (fun x=>match x with | .int i=>.int (((fat F i.toNat).getD 0:Nat):Int) | _=>.none) (by
  intro x hx
  obtain⟨p,hp,rfl⟩:=QF hx
  obtain⟨s,es,_⟩:=h.cl p hp
  have hpl:=h.tk.lt p hp
  have a1:=Yu (F:=F) (p:=p) (by omega)
  rw[es]at a1
  rw[show qZ (some s)=PyData.int (s:Int) from rfl]at a1
  have ht:((p:Int)).toNat=p:=by simp
  simp only[ht,es]
  refine⟨[o0,o1,o2,some (flO F),o4,some (.d (.list (za T))),o6,o7,o8,some (.d (.int p))],_,rfl,rfl,by simp,fun _=>⟨.dat (.int s),[o0,o1,o2,some (flO F),o4,some (.d (.list (za T))),o6,o7,o8,some (.d (.int p))],?_,rfl,by simp⟩⟩
  simp only[flO]
  simp![p_held_4,a1])
 have em:((za T).filter fun _=>true).map (fun x=>match x with | .int i=>PyData.int (((fat F i.toNat).getD 0:Nat):Int) | _=>.none)=za (T.map fun p=>(fat F p).getD 0):=by
  rw[zT];unfold za;rw[List.map_map,List.map_map];rfl
 rw[em]at e
 exact e
theorem KW(cf:CF){D:List Nat}{M T:List Nat}(hM:∀ a∈M,a<=D.length){o0 o1 o2 o3 o4 o6 o7:Option OV} :
  qr 1 (.nm 0 9) (p_held_5.ev cf) (p_held_6.ev cf).1 (za M) [] [o0,o1,o2,o3,o4,some (.d (.list (za T))),o6,o7,some (.d (.list (za (D++ [12]))))]=.ok (za ((M.filter fun a=> !T.contains a).map (num D)),[o0,o1,o2,o3,o4,some (.d (.list (za T))),o6,o7,some (.d (.list (za (D++ [12]))))]):=by
 have e:=zC (k:=1) (t:=.nm 0 9) (cond:=p_held_5.ev cf) (elt:=(p_held_6.ev cf).1) (ds:=za M) (Γ:= [o0,o1,o2,o3,o4,some (.d (.list (za T))),o6,o7,some (.d (.list (za (D++ [12]))))]) (fun x=>match x with | .int i=> !T.contains i.toNat | _=>false) (fun x=>match x with | .int i=>.int ((num D i.toNat:Nat):Int) | _=>.none) (by
  intro x hx
  obtain⟨a,ha,rfl⟩:=QF hx
  have h1:=jZ T a
  have h2:(∀ x∈za T,lay 20 x=true)=True:=eq_true (xA.mp (jR T))
  have a1:atI (za (D++ [12])) (a:Int)=some (.int ((num D a:Nat):Int)):=J7 (D:=D++ [12]) (by have:=hM a ha;simp;omega)
  have ht:((a:Int)).toNat=a:=by simp
  simp only[ht]
  refine⟨[o0,o1,o2,o3,o4,some (.d (.list (za T))),o6,o7,some (.d (.list (za (D++ [12])))),some (.d (.int a))],[o0,o1,o2,o3,o4,some (.d (.list (za T))),o6,o7,some (.d (.list (za (D++ [12])))),some (.d (.int a))],rfl,?_,by simp,fun _=>⟨.dat (.int (num D a:Nat)),[o0,o1,o2,o3,o4,some (.d (.list (za T))),o6,o7,some (.d (.list (za (D++ [12])))),some (.d (.int a))],by simp![p_held_6,a1],rfl,by simp⟩⟩
  simp![p_held_5,zl,h1,h2])
 have em:((za M).filter (fun x=>match x with | .int i=> !T.contains i.toNat | _=>false)).map (fun x=>match x with | .int i=>PyData.int ((num D i.toNat:Nat):Int) | _=>.none)=za ((M.filter fun a=> !T.contains a).map (num D)):=by
  rw[show (za M).filter (fun x=>match x with | .int i=> !T.contains i.toNat | _=>false)=za (M.filter fun a=> !T.contains a) from JA M fun a=> !T.contains a]
  unfold za
  rw[List.map_map,List.map_map];rfl
 rw[em]at e
 exact e
theorem zd7(cf:CF)(hn:QD cf)(hpl:Qr cf)(hf:vR cf)(hs:Jv cf){pots:Nat}(hp:pots<=12){cs:List Cl}(hb:Bolt pots cs)(hcl:cs.length<=60) :
  runI 9 [false] [] ki cf [.d (zb cs)]=.ok (zh (j6 (qK cs (zi cs pots)))) [none]:=by
 have hD:=zR cs pots
 have hln:=hD.len
 have e1:=hn pots cs (by omega) hb
 generalize zi cs pots=D at hD hln e1 |-
 have e2:=hpl pots cs D hp hb hcl hD
 have e3:=hf pots cs D hp hD
 have v1:=zn D
 have v2:=Jd (abv cs D)
 have I:=jw hp hD cs
 have hFl:=I.val.len
 have hab:=JK hp hD cs
 have e4:=yr cf (F:=FF cs D) (N:=D.length+1) (o0:=some (.d (zb cs))) (o1:=some (.d (.list (za D)))) (o2:=some (.d (zS (abv cs D)))) (o4:=none) (o5:=none) (o6:=none) (o7:=none) (o8:=none)
 obtain⟨t1,t2⟩:=zfo hp hD cs
 have hfl:(zj (D.length+1) (FF cs D)).length<=D.length+1:=by
  have:=xS (fun a=> !(FF cs D).contains (some a)) (List.range (D.length+1))
  rw[xK]at this;exact this
 obtain⟨Γ',e5,⟨o6,rfl⟩⟩:=qC (t:=.nm 6 6) (body:=p_held_3.ex cf []) (ds:=za (zj (D.length+1) (FF cs D))) (Γ:= [some (.d (zb cs)),some (.d (.list (za D))),some (.d (zS (abv cs D))),some (flO (FF cs D)),some (.d (.list (za (zj (D.length+1) (FF cs D))))),some (.l []),none,none,none])
  (fun pre Γ=>∃ o6:Option OV,Γ= [some (.d (zb cs)),some (.d (.list (za D))),some (.d (zS (abv cs D))),some (flO (FF cs D)),some (.d (.list (za (zj (D.length+1) (FF cs D))))),some (zh (jm (abv cs D) 14 (FF cs D) ((zj (D.length+1) (FF cs D)).take pre.length) [])),o6,none,none]) ⟨_,rfl⟩ (by
   rintro pre x post e Γ ⟨o6,rfl⟩
   have hlt:=Zv e
   rw[zt]at hlt
   have hx:x=.int (((zj (D.length+1) (FF cs D))[pre.length]:Nat):Int):=by
    have:(za (zj (D.length+1) (FF cs D)))[pre.length]?=some x:=by rw[e];simp
    unfold za at this
    rw[xh,xb hlt]at this
    simpa using this.symm
   subst hx
   have ham:=xT hlt
   have hT:=(Wb hab I (m:=14) (by omega) ((zj (D.length+1) (FF cs D)).take pre.length) [] (fun a h=>List.mem_of_mem_take h) ⟨⟨.nil,(fun _ h=>nomatch h)⟩,(fun _ h=>nomatch h)⟩).1
   have hst:=WQ hab I (m:=14) (by omega) ham hT
   have hfa:=(qh _ _ _).mp ham
   have v':Val (abv cs D) (D.length+1) (FF cs D) (jm (abv cs D) 14 (FF cs D) ((zj (D.length+1) (FF cs D)).take pre.length) []):=⟨I.val.len,I.val.edge,fun p q s _ _=>I.val.inj p q s (fun h=>nomatch h) (fun h=>nomatch h)⟩
   have ec:=hs (D.length+1) (abv cs D) hab (by omega) (ZB cs) (zj (D.length+1) (FF cs D))[pre.length] (FF cs D) _ v' hT.tk (by omega) hfa.1 (fun p _=>hfa.2 p)
   have hap:jm (abv cs D) 14 (FF cs D) ((zj (D.length+1) (FF cs D)).take (pre.length+1)) []=(zm (abv cs D) 14 (zj (D.length+1) (FF cs D))[pre.length] (FF cs D) (jm (abv cs D) 14 (FF cs D) ((zj (D.length+1) (FF cs D)).take pre.length) [])).2.2:=by
    rw[uH,xb hlt]
    have snoc:∀ (as:List Nat) (a:Nat) (T:List Nat),jm (abv cs D) 14 (FF cs D) (as++ [a]) T=(zm (abv cs D) 14 a (FF cs D) (jm (abv cs D) 14 (FF cs D) as T)).2.2:=by
     intro as
     induction as with
     |nil=>intro a T;rfl
     |cons b as ih=>intro a T;exact ih a _
    exact snoc _ _ _
   refine⟨_,[some (.d (zb cs)),some (.d (.list (za D))),some (.d (zS (abv cs D))),some (flO (FF cs D)),some (.d (.list (za (zj (D.length+1) (FF cs D))))),some (zh (jm (abv cs D) 14 (FF cs D) ((zj (D.length+1) (FF cs D)).take (pre.length+1)) [])),some (.d (.int (((zj (D.length+1) (FF cs D))[pre.length]:Nat):Int))),none,none],by simp[tgF];rfl,?_,some (.d (.int (((zj (D.length+1) (FF cs D))[pre.length]:Nat):Int))),by simp⟩
   rw[hap]
   rw[hst.1,hst.2.1]at ec
   generalize jm (abv cs D) 14 (FF cs D) ((zj (D.length+1) (FF cs D)).take pre.length) []=T at *
   generalize (zj (D.length+1) (FF cs D))[pre.length]=a at *
   generalize (zm (abv cs D) 14 a (FF cs D) T).2.2=T' at *
   simp only[flO,zh]at ec |-
   simp![p_held_3,ec,zQ])
 rw[zt,uw]at e5
 have e6:=KB cf hFl t1 (o0:=some (.d (zb cs))) (o1:=some (.d (.list (za D)))) (o2:=some (.d (zS (abv cs D)))) (o4:=some (.d (.list (za (zj (D.length+1) (FF cs D)))))) (o6:=o6) (o7:=none) (o8:=none)
 have hM:∀ a∈qA (D.length+1) (FF cs D) (TT cs D),a<=D.length:=fun a ha=>by have:=Q3 I.val t1 ha;omega
 have e7:=KW cf (T:=TT cs D) hM (o0:=some (.d (zb cs))) (o1:=some (.d (.list (za D)))) (o2:=some (.d (zS (abv cs D)))) (o3:=some (flO (FF cs D))) (o4:=some (.d (.list (za (zj (D.length+1) (FF cs D)))))) (o6:=o6) (o7:=some (.d (.list (za (qA (D.length+1) (FF cs D) (TT cs D))))))
 have hTl:=Wh t1.tk.nd t1.tk.lt
 have hml:(qA (D.length+1) (FF cs D) (TT cs D)).length<=100:=by simp[qA];omega
 obtain⟨h1,h2,h3,h4⟩:=vg hp hD cs
 have hhl:(qK cs D).length<64:=by
  rw[h4];unfold wid;omega
 have hin:=qG (qK cs D)
 have hso:=Z0 (qK cs D)
 have hz1: -1000000<=((abv cs D).length:Int)/\((abv cs D).length:Int)<=1000000:=by rw[ZB];omega
 have hz2:(abv cs D).length<=1000000:=by rw[ZB];omega
 have habl:=ZB (D:=D) cs
 have e7':qr 1 (.nm 0 9) (p_held_5.ev cf) (p_held_6.ev cf).1 (za (qA (D.length+1) (FF cs D) (TT cs D))) [] _=.ok (za (qK cs D),_):=e7
 have hTT:jm (abv cs D) 14 (FF cs D) (zj (D.length+1) (FF cs D)) []=TT cs D:=rfl
 rw[hTT]at e5
 have hmv:za (zj (D.length+1) (FF cs D))++za ((TT cs D).map fun p=>(fat (FF cs D) p).getD 0)=za (qA (D.length+1) (FF cs D) (TT cs D)):=by unfold qA za;rw[xV]
 have hnb:za D++ [PyData.int 12]=za (D++ [12]):=by simp[za]
 have hz3:(zj (D.length+1) (FF cs D)).length+(TT cs D).length<=1000000:=by omega
 have hz4:D.length+1<=1000000:=by omega
 have hz5:(TT cs D).length<=1000000:=by omega
 have hz6:(qA (D.length+1) (FF cs D) (TT cs D)).length<=1000000:=by omega
 have vT:=zn (TT cs D)
 clear hTT e7
 generalize hA:abv cs D=A at *
 generalize FF cs D=F at *
 generalize TT cs D=T at *
 generalize qK cs D=HL at *
 generalize hFS:zj (D.length+1) F=FS at *
 generalize qA (D.length+1) F T=MV at *
 have hl9:(A.map fun r=>PyData.list (za r)).length=D.length+1:=by rw[xi];exact habl
 unfold zS at v2 e3 e4 e5 e6 e7'
 simp only[zh,flO]at e1 v1 e3 e4 e5 e6 e7' vT |-
 have hz7: -1000000<=((D.length:Int)+1)/\((D.length:Int)+1)<=1000000:=by omega
 simp![ki,e1,v1,e2,v2,e3,habl,hz4,hz7,zk,e4,zt,e5,vT,hz5,e6,Y2,hz3,hmv,hnb,hz6,e7',wS,hin,hhl,hso]
noncomputable def zbw (cf:CF):Prop:=∀ (pots:Nat) (cs:List Cl),pots<=12->Bolt pots cs->cs.length<=60->cf "held" [.d (zb cs)]=.ok (zh (j6 (qK cs (zi cs pots)))) [none]
end Wx
set_option maxHeartbeats 4000000
namespace Wx
open PySem L2 L3 Ku
theorem zbh(xs:List PyData)(k:Nat)(h:k<=xs.length):Kx xs none (some (k:Int))=xs.take k:=by
 unfold Kx
 have h0:HT.sIx xs.length 0 none=0:=rfl
 have h1:HT.sIx xs.length xs.length (some (k:Int))=k:=by
  show (if (k:Int)<0 then ((k:Int)+(xs.length:Int)).toNat else min ((k:Int).toNat) xs.length)=k
  rw[if_neg (by omega)]
  simp;omega
 rw[h0,h1];simp
noncomputable def Chn(cs:List Cl)(rw1:List Nat):Prop:=rw1.Pairwise fun x y=>ub cs y x=true
theorem Chn.at'{cs:List Cl}{rw1:List Nat}(h:Chn cs rw1){k:Nat}(hk:k<rw1.length):((rw1.take k).map fun o=>ub cs (rw1.getD k 0) o).all id=true:=by
 rw[xA]
 intro b hb
 obtain⟨o,ho,rfl⟩:=xn.mp hb
 obtain⟨j,hj,rfl⟩:=uh ho
 have hj':j<k/\j<rw1.length:=by simp at hj;omega
 have:=uj.mp h j k hj'.2 hk hj'.1
 rw[List.getElem_take,List.getD_eq_getElem?_getD,xb hk]
 exact this
section
variable {pots:Nat} (hp:pots<=12) {D:List Nat} (hD:Dys pots D) (cs:List Cl)
include hp hD in
theorem QU{l:List Nat}(hl:∀ x∈l,x<=D.length)(h:l.Pairwise fun x y=>x∈up (abv cs D) y):Chn cs (l.map (num D)) :=
 uu.mpr (h.imp fun {x y} hxy=>((Zj hp hD cs y x).mp hxy).2.2)
theorem wr{l:List Nat}(hl:∀ x∈l,x<D.length):zI D l=l.map (num D):=by
 unfold zI
 exact uv fun x hx=>(Q4 (hl x hx)).symm
include hp hD in
theorem qW{n p x:Nat}(hx:x∈zK (FF cs D) n p):x<D.length:=by
 obtain⟨q,e,_⟩:=V0 n p x hx
 exact (kE hp hD cs q x e).1
noncomputable def zdu(cs:List Cl)(D:List Nat):List (List Nat):=zK (FF cs D) (D.length+1) D.length::((List.range D.length).filter fun a=> !(FF cs D).contains (some a)).map fun a=>QY (D.length+1) (FF cs D) a
include hp hD in
theorem kP:∀ l∈zdu cs D,∀ x∈l,x<D.length:=fun l hl x hx=>by
 rcases xo.mp hl with rfl | hl
 ·exact qW hp hD cs hx
 ·obtain⟨a,ha,rfl⟩:=xn.mp hl
  have ha':=xE.mp (xr.mp ha).1
  rcases xo.mp hx with rfl | hx
  ·exact ha'
  ·exact qW hp hD cs hx
include hp hD in
theorem zbe:ql cs D=(zdu cs D).map fun l=>l.map (num D):=by
 unfold ql zdu
 rw[xI,List.map_map,wr fun x hx=>qW hp hD cs hx]
 congr 1
 refine uv fun a ha=>?_
 have ha':=xE.mp (xr.mp ha).1
 show _=(a::zK (FF cs D) (D.length+1) a).map (num D)
 rw[xI,Q4 ha',wr fun x hx=>qW hp hD cs hx]
include hp hD in
theorem Kh:D.length∈zj (D.length+1) (FF cs D):=(qh _ _ _).mpr ⟨by omega,fun p e=>by
 have:=(kE hp hD cs p D.length e).1;omega⟩
include hp hD in
theorem jK:zj (D.length+1) (FF cs D)=((List.range D.length).filter fun a=> !(FF cs D).contains (some a))++ [D.length]:=by
 have h:=Kh hp hD cs
 unfold zj at h |-
 rw[xR,xO]
 congr 1
 have:=(xr.mp h).2
 rw[uX,if_pos this];rfl
include hp hD in
theorem zbC:(ql cs D).length=wid cs D:=by
 unfold wid ql
 rw[jK hp hD cs]
 simp
include hp hD in
/-- all dyes,each once -/
theorem zai:(zdu cs D).flatten.Perm (List.range D.length):=by
 have v:=(jw hp hD cs).val
 have hab:=JK hp hD cs
 have irr:=YL hp hD cs
 have tr:=yh hp hD cs
 have hn:=Kh hp hD cs
 have hfs:∀ a∈(List.range D.length).filter fun a=> !(FF cs D).contains (some a),a∈zj (D.length+1) (FF cs D):=fun a ha=>by
  rw[jK hp hD cs];exact xq _ ha
 refine (List.perm_ext_iff_of_nodup ?_ (nodup_range _)).mpr fun x=>?_
 ·refine List.pairwise_flatten.mpr ⟨fun l hl=>?_,?_⟩
  ·rcases xo.mp hl with rfl | hl
   ·exact (xC.mp (wW irr tr v D.length)).2
   ·obtain⟨a,_,rfl⟩:=xn.mp hl
    exact wW irr tr v a
  ·refine .cons (fun l hl x hx y hy e=>?_) ?_
   ·obtain⟨a,ha,rfl⟩:=xn.mp hl
    subst e
    have:=apart hab irr tr v _ x D.length a (xm _) hn (hfs a ha) (xl _ hx) hy
    have:=xE.mp (xr.mp ha).1
    omega
   ·refine uu.mpr (List.Pairwise.imp_of_mem (fun {a b} ha hb hne x hx y hy e=>?_) ((nodup_range D.length).filter _))
    subst e
    exact hne (apart hab irr tr v _ x a b (xm _) (hfs a ha) (hfs b hb) hx hy)
 ·rw[List.mem_flatten,xE]
  constructor
  ·rintro⟨l,hl,hx⟩
   exact kP hp hD cs l hl x hx
  ·intro hx
   obtain⟨f,hf,hm⟩:=ze2 hab irr tr v _ x (xm _) (by omega)
   rw[jK hp hD cs]at hf
   rcases xJ.mp hf with hf | hf
   ·exact⟨_,xl _ (xn.mpr ⟨f,hf,rfl⟩),hm⟩
   ·have:f=D.length:=by simpa using hf
    subst this
    rcases xo.mp hm with e | hm
    ·omega
    ·exact⟨_,xz,hm⟩
include hp hD in
theorem ZA:(ql cs D).flatten.Perm D:=by
 rw[zbe hp hD cs,<- List.map_flatten]
 refine ((zai hp hD cs).map (num D)).trans ?_
 have:(List.range D.length).map (num D)=D:=by
  apply xU
  intro i
  rw[xh]
  by_cases hi:i<D.length
  ·rw[xY hi]
   show some (num D i)=_
   rw[Q4 hi,List.getD_eq_getElem?_getD,xb hi];rfl
  ·rw[xj (by simpa using hi),xj (by omega)];rfl
 rw[this]
include hp hD in
theorem YX:∀ l∈ql cs D,Chn cs l:=fun l hl=>by
 have v:=(jw hp hD cs).val
 have tr:=yh hp hD cs
 rw[zbe hp hD cs]at hl
 obtain⟨l',hl',rfl⟩:=xn.mp hl
 have hlt:=kP hp hD cs l' hl'
 refine QU hp hD cs (fun x hx=>by have:=hlt x hx;omega) ?_
 rcases xo.mp hl' with rfl | hl'
 ·exact Jt tr v _ _
 ·obtain⟨a,_,rfl⟩:=xn.mp hl'
  exact jW tr v a
include hp hD in
theorem Qu:∃ P rest,ql cs D=P::rest/\Chn cs (12::P)/\∀ l∈rest,l≠ []:=by
 have v:=(jw hp hD cs).val
 have tr:=yh hp hD cs
 refine⟨_,_,rfl,?_,fun l hl=>?_⟩
 ·have h1:=QU hp hD cs (l:=QY (D.length+1) (FF cs D) D.length) (fun x hx=>by
   rcases xo.mp hx with rfl | hx
   ·exact xm _
   ·have:=qW hp hD cs hx;omega) (jW tr v D.length)
  unfold QY at h1
  rw[xI,yK]at h1
  rw[wr fun x hx=>qW hp hD cs hx]
  exact h1
 ·obtain⟨a,_,rfl⟩:=xn.mp hl
  exact fun h=>nomatch h
end
end Wx
set_option maxHeartbeats 4000000
namespace Wx
open PySem L2 L3 Ku
theorem V5{A D:List Nat}(hp:A.Perm D)(hs:D.Pairwise (·<=·)):j6 A=D :=
 List.Perm.eq_of_pairwise (le:=fun a b:Nat=>a<=b) (fun a b _ _ h1 h2=>Nat.le_antisymm h1 h2) (wy A) hs ((Z3 A).trans hp)
theorem yY{ds:List PyData}:Option.map (fun bs=>PyData.bool (bs.all id)) (qg (ds.map fun _=>PyData.bool true))=some (.bool true):=by
 have:(ds.map fun _=>PyData.bool true)=(ds.map fun _=>true).map .bool:=by rw[List.map_map];rfl
 rw[this,qf]
 simp
theorem ya{L:List (List Nat)}{r:List Nat}(h:r∈L):r.length<=L.flatten.length:=by
 induction L with
 |nil=>cases h
 |cons a L ih=>
  rw[xH,xw]
  rcases xo.mp h with rfl | h
  ·omega
  ·have:=ih h;omega
end Wx
set_option maxHeartbeats 4000000
namespace Wx
open PySem L2 L3
theorem zgU{ds:List PyData}:Option.map (fun bs=>PyData.bool (bs.all id)) (qg (ds.map fun _=>PyData.bool true))=some (.bool true):=by
 have:(ds.map fun _=>PyData.bool true)=(ds.map fun _=>true).map .bool:=by rw[List.map_map];rfl
 rw[this,qf]
 simp
theorem zhW(x:PyData):(OV.d x).view=x:=rfl
noncomputable def Kind(pots:Nat)(cs:List Cl):Prop:=∀ c∈cs,c.st.length=pots/\c.wi.length=pots
theorem Bolt.kind{pots:Nat}{cs:List Cl}(h:Bolt pots cs):Kind pots cs:=fun c hc=>⟨(h.2 c hc).sl,(h.2 c hc).wl⟩
noncomputable def WD(d:Nat)(st:List Int):List Int:=(List.range st.length).map fun k=>st.getD k 0+(if k=d then 1 else 0)
noncomputable def jy(d:Nat)(c:Cl):Cl:=if c.w then c else ⟨WD d c.st,c.w,c.wi⟩
noncomputable def qH(d:Nat)(c:Cl):Bool:= !c.w&&decide (9<=c.st.getD d 0)
theorem yI(d:Nat)(st:List Int):(WD d st).length=st.length:=by unfold WD;simp
theorem KA(bs:List Bool):Option.map (fun bs=>PyData.bool (bs.any id)) (qg (bs.map .bool))=some (.bool (bs.any id)):=by rw[qf];rfl
end Wx
set_option maxHeartbeats 4000000
namespace Wx
open PySem L2 L3
theorem zcr(cf:CF){pots:Nat}{cs:List Cl}(hb:Bolt pots cs){d:Nat}(hd:d<pots) :
  runI 2 [false,false] [] jj cf [.d (zb cs),.d (.int d)]=.ok (.d (.bool (cs.any (qH d)))) [none,none]:=by
 obtain⟨ys,Γ',e,hy,rfl⟩:=qi (k:=1) (t:=.nm 0 2) (cond:=fYes) (elt:=(b_law_full_1.ev cf).1) (ds:=cs.map Cl.D) (Γ:= [some (.d (zb cs)),some (.d (.int d))])
  (fun pre ys Γ=>ys=((cs.take pre.length).map (qH d)).map .bool/\Γ= [some (.d (zb cs)),some (.d (.int d))]) ⟨rfl,rfl⟩ (by
   rintro pre x post e ys Γ ⟨hy,rfl⟩
   have hlt:pre.length<cs.length:=by have:=congrArg List.length e;simp at this;omega
   have hxe:x=(cs[pre.length]).D:=by
    have:(cs.map Cl.D)[pre.length]?=some x:=by rw[e];simp
    rw[xh,xb hlt]at this
    simpa using this.symm
   have hc:=hb.2 _ (xT hlt)
   have hnx:(cs.take (pre.length+1)).map (qH d)=(cs.take pre.length).map (qH d)++ [qH d cs[pre.length]]:=by
    rw[uH,xb hlt,xV];rfl
   generalize cs[pre.length]=c at *
   subst hxe
   have hdl:d<c.st.length:=by rw[hc.sl];exact hd
   have a1:=qP (xs:=c.st) (d:=d) hdl
   have h9:c.st.getD d 0<=9:=by
    rw[List.getD_eq_getElem?_getD,xb hdl]
    exact (hc.sn _ (xT hdl)).2
   have hq:(c.st.getD d 0==9)=decide (9<=c.st.getD d 0):=by
    rw[xP,beq_iff_eq,decide_eq_true_eq];omega
   refine⟨[some (.d (zb cs)),some (.d (.int d)),some (.d c.D)],true,_,rfl,rfl,fun _=>⟨.dat (.bool (qH d c)),[some (.d (zb cs)),some (.d (.int d)),some (.d c.D)],.bool (qH d c),?_,rfl,?_,rfl⟩,fun h=>nomatch h⟩
   ·unfold qH Cl.D qt
    rw[<- hq]
    generalize c.st.getD d 0=g at *
    have a0:atI [zd c.st,PyData.bool c.w,zd c.wi] 0=some (zd c.st):=rfl
    have a2:atI [zd c.st,PyData.bool c.w,zd c.wi] 1=some (.bool c.w):=rfl
    unfold zd at *
    generalize c.st.map PyData.int=X at *
    generalize c.wi.map PyData.int=Y at *
    cases hw:c.w with
    |true=>
     rw[hw]at a0 a2
     simp![b_law_full_1,a0,a2]
    |false=>
     rw[hw]at a0 a2
     simp![b_law_full_1,a0,a2,a1,zl,zD]
   ·rw[hy]
    simp only[xw,xk,uf,ue]
    rw[hnx,xV];rfl)
 have ht:(cs.take (cs.map Cl.D).length)=cs:=by rw[xi,uw]
 rw[ht]at hy
 subst hy
 have hz:cs.length<=1000000:=by have:=hb.1;omega
 have hb1:=KA (cs.map (qH d))
 have ha:(cs.map (qH d)).any id=cs.any (qH d):=by rw[uS];rfl
 rw[ha]at hb1
 have hml:((cs.map (qH d)).map PyData.bool).length<=1000000:=by simpa using hz
 unfold zb at *
 have hxl:(cs.map Cl.D).length<=1000000:=by simpa using hz
 generalize (cs.map (qH d)).map PyData.bool=BB at *
 generalize cs.map Cl.D=X at *
 generalize cs.any (qH d)=b at *
 simp![jj,e,hb1,hxl,hml]
theorem zaD(cf:CF)(d:Int):runI 2 [false,false] [] jj cf [.d (zb []),.d (.int d)]=.ok (.d (.bool false)) [none,none]:=by
 simp![jj,zb,qr,qg]
theorem zej(cf:CF){st:List Int}(hl:st.length<=1000){d:Nat}{o0 o2 o4 o5:Option OV} :
  qr 1 (.nm 0 6) fYes (b_law_dip_1.ev cf).1 (zq st.length) [] [o0,some (.d (.int d)),o2,some (.d (zd st)),o4,o5]=.ok ((WD d st).map .int,[o0,some (.d (.int d)),o2,some (.d (zd st)),o4,o5]):=by
 have e:=zC (k:=1) (t:=.nm 0 6) (cond:=fYes) (elt:=(b_law_dip_1.ev cf).1) (ds:=zq st.length) (Γ:= [o0,some (.d (.int d)),o2,some (.d (zd st)),o4,o5]) (fun _=>true) (fun x=>match x with | .int i=>.int (st.getD i.toNat 0+(if i.toNat=d then 1 else 0)) | _=>.none) (by
  intro x hx
  obtain⟨i,hi,rfl⟩:=xn.mp hx
  have hi':i<st.length:=by simpa using hi
  have a1:=qP (xs:=st) (d:=i) hi'
  refine⟨[o0,some (.d (.int d)),o2,some (.d (zd st)),o4,o5,some (.d (.int i))],_,rfl,rfl,by simp,fun _=>⟨.dat (.int (st.getD i 0+(if i=d then 1 else 0))),[o0,some (.d (.int d)),o2,some (.d (zd st)),o4,o5,some (.d (.int i))],?_,rfl,by simp⟩⟩
  have hq:((i:Int)==(d:Int))=decide (i=d):=by
   rw[xP,beq_iff_eq,decide_eq_true_eq];omega
  unfold zd
  generalize st.getD i 0=g at *
  generalize st.map PyData.int=X at *
  by_cases hid:i=d
  ·subst hid
   simp![b_law_dip_1,a1,zl,zD]
  ·have hn:((i:Int)==(d:Int))=false:=by rw[hq];simpa using hid
   simp![b_law_dip_1,a1,zl,zD,hn,hid])
 rw[e,zT]
 unfold zq WD
 rw[List.map_map,List.map_map]
 rfl
theorem zdv(cf:CF){pots:Nat}(hp:pots<=1000){cs:List Cl}(hb:Bolt pots cs)(d:Nat) :
  runI 6 [false,false] [] jI cf [.d (zb cs),.d (.int d)]=.ok (.l ((cs.map (jy d)).map fun c=>.d c.D)) [none,none]:=by
 obtain⟨Γ',e,⟨o3,o4,o5,rfl⟩⟩:=qC (t:=.tp (.cons (.nm 3 3) (.cons (.nm 4 4) (.cons (.nm 5 5) .nil)))) (body:=b_law_dip_2.ex cf []) (ds:=cs.map Cl.D) (Γ:= [some (.d (zb cs)),some (.d (.int d)),some (.l []),none,none,none])
  (fun pre Γ=>∃ o3 o4 o5:Option OV,Γ= [some (.d (zb cs)),some (.d (.int d)),some (.l (((cs.take pre.length).map (jy d)).map fun c=>.d c.D)),o3,o4,o5]) ⟨_,_,_,rfl⟩ (by
   rintro pre x post e Γ ⟨o3,o4,o5,rfl⟩
   have hlt:pre.length<cs.length:=by have:=congrArg List.length e;simp at this;omega
   have hxe:x=(cs[pre.length]).D:=by
    have:(cs.map Cl.D)[pre.length]?=some x:=by rw[e];simp
    rw[xh,xb hlt]at this
    simpa using this.symm
   have hc:=hb.2 _ (xT hlt)
   have hnx:(cs.take (pre.length+1)).map (jy d)=(cs.take pre.length).map (jy d)++ [jy d cs[pre.length]]:=by
    rw[uH,xb hlt,xV];rfl
   have hz:(((cs.take pre.length).map (jy d)).map fun c=>OV.d c.D).length<1000000:=by
    have:=hb.1
    simp;omega
   generalize cs[pre.length]=c at *
   subst hxe
   have hpl:(pre++ [c.D]).length=pre.length+1:=by simp
   rw[hpl,hnx,xV]
   have e1:=zej cf (st:=c.st) (by rw[hc.sl];exact hp) (d:=d) (o0:=some (.d (zb cs))) (o2:=some (.l (((cs.take pre.length).map (jy d)).map fun c=>.d c.D))) (o4:=some (.d (.bool c.w))) (o5:=some (.d (zd c.wi)))
   have hz1: -1000000<=(c.st.length:Int)/\(c.st.length:Int)<=1000000:=by rw[hc.sl];omega
   have hz2:c.st.length<=1000000:=by rw[hc.sl];omega
   have hz3:((WD d c.st).map PyData.int).length<=1000000:=by simp[yI];rw[hc.sl];omega
   generalize ((cs.take pre.length).map (jy d)).map (fun c=>OV.d c.D)=AA at *
   refine⟨[some (.d (zb cs)),some (.d (.int d)),some (.l AA),some (.d (zd c.st)),some (.d (.bool c.w)),some (.d (zd c.wi))],[some (.d (zb cs)),some (.d (.int d)),some (.l (AA++ [.d (jy d c).D])),some (.d (zd (jy d c).st)),some (.d (.bool c.w)),some (.d (zd c.wi))],rfl,?_,_,_,_,rfl⟩
   unfold jy
   have hl0:(c.st.map PyData.int).length=c.st.length:=by simp
   cases hw:c.w with
   |true=>
    simp![b_law_dip_2,hw,Cl.D,qt,hz]
   |false=>
    rw[hw]at e1
    unfold zd at *
    generalize c.st.map PyData.int=X at *
    generalize hY:(WD d c.st).map PyData.int=Y at *
    generalize hZ:c.wi.map PyData.int=Z at *
    simp![b_law_dip_2,hw,Cl.D,qt,zd,hl0,hz1,hz2,hz3,e1,hz,zk]
    exact⟨⟨hY.symm,hZ.symm⟩,hY.symm⟩)
 have ht:(cs.take (cs.map Cl.D).length)=cs:=by rw[xi,uw]
 rw[ht]at e
 unfold zb at *
 generalize cs.map Cl.D=X at *
 generalize (cs.map (jy d)).map (fun c=>OV.d c.D)=DD at *
 simp![jI,e]
theorem zbZ(cf:CF)(d:Int):runI 6 [false,false] [] jI cf [.d (zb []),.d (.int d)]=.ok (.l []) [none,none]:=by
 simp![jI,zb,qb]
noncomputable def kM (cf:CF):Prop:=(∀ (pots:Nat) (cs:List Cl) (d:Nat),Bolt pots cs->d<pots->cf "_law_full" [.d (zb cs),.d (.int d)]=.ok (.d (.bool (cs.any (qH d)))) [none,none])/\∀ d:Int,cf "_law_full" [.d (zb []),.d (.int d)]=.ok (.d (.bool false)) [none,none]
noncomputable def zcB (cf:CF):Prop:=(∀ (pots:Nat) (cs:List Cl) (d:Nat),pots<=1000->Bolt pots cs->cf "_law_dip" [.d (zb cs),.d (.int d)]=.ok (.l ((cs.map (jy d)).map fun c=>.d c.D)) [none,none])/\∀ d:Int,cf "_law_dip" [.d (zb []),.d (.int d)]=.ok (.l []) [none,none]
end Wx
set_option maxHeartbeats 4000000
namespace Wx
open PySem L2 L3
noncomputable def zc5:Exc:=⟨"NoCell",.none⟩
theorem zfR(cf:CF){cs:List Cl}(hl:cs.length<=1000)(a:Int):runI 2 [false,false] [] jf cf [.d (zb cs),.d (.int a)]=.ok (.d (.bool (decide (0<=a/\a<cs.length)))) [none,none]:=by
 have hxl:(cs.map Cl.D).length=cs.length:=by simp
 unfold zb
 generalize cs.map Cl.D=X at *
 by_cases h1:0<=a
 ·by_cases h2:a<cs.length
  ·have h3:a<(X.length:Int):=by omega
   simp![jf,hxl,h1,h2]
  ·simp![jf,hxl,h1,h2]
 ·simp![jf,hxl,h1]
noncomputable def zfc (cf:CF):Prop:=∀ (cs:List Cl) (a:Int),cs.length<=1000->cf "has_cell" [.d (zb cs),.d (.int a)]=.ok (.d (.bool (decide (0<=a/\a<cs.length)))) [none,none]
end Wx
set_option maxHeartbeats 4000000
namespace Wx
open PySem L2 L3
noncomputable def ze0:Exc:=⟨"Twice",.none⟩
noncomputable def Qa(n:Nat)(i:Int):Bool:=decide (0<=i/\i<(n:Int))
noncomputable def zdC(xs:List Int):Bool:=decide ((Tab.dedup xs).length<xs.length)
noncomputable def Q9(xs:List Int)(i:Nat)(c:Cl):Cl:=⟨c.st,c.w||xs.contains (i:Int),c.wi⟩
noncomputable def Q7(xs:List Int)(cs:List Cl)(k:Nat):List Cl:=(List.range k).filterMap fun i=>(cs[i]?).map (Q9 xs i)
noncomputable def jX(xs:List Int)(cs:List Cl):List Cl:=Q7 xs cs cs.length
theorem Jq(xs:List Int){cs:List Cl}{k:Nat}{c:Cl}(h:cs[k]?=some c):Q7 xs cs (k+1)=Q7 xs cs k++ [Q9 xs k c]:=by
 unfold Q7
 rw[xR,List.filterMap_append]
 congr 1
 rw[xF,h];rfl
theorem zcg(xs:List Int)(cs:List Cl)(k:Nat):(Q7 xs cs k).length<=k:=by
 have:=List.length_filterMap_le (fun i=>(cs[i]?).map (Q9 xs i)) (List.range k)
 rw[xK]at this;exact this
theorem kR(xs:List Int)(i:Int):inD (.int i) (xs.map .int)=xs.contains i:=by
 unfold inD
 rw[uS]
 induction xs with
 |nil=>rfl
 |cons x xs ih=>
  rw[uF,ih,List.contains_cons]
  congr 1
  show PyData.eqv (.int x) (.int i)=(i==x)
  rw[zD,xP,beq_iff_eq,beq_iff_eq]
  exact⟨Eq.symm,Eq.symm⟩
theorem vf(xs:List Int):(∀ x∈xs.map PyData.int,lay 20 x=true)=True:=eq_true fun x hx=>by
 obtain⟨i,_,rfl⟩:=xn.mp hx
 exact zl _ _
noncomputable def zbT(cs:List Cl)(xs:List Int):RF:=if xs.all (Qa cs.length) then (if zdC xs then .exc ze0 [] else .ok (.l ((jX xs cs).map fun c=>.d c.D)) [none,none]) else .exc zc5 []
theorem zdU(cf:CF){cs:List Cl}{xs:List Int} :
  qr 4 (.tp (.cons (.nm 0 2) (.cons (.tp (.cons (.nm 1 3) (.cons (.nm 2 4) (.cons (.nm 3 5) .nil)))) .nil))) fYes (p_with_wax_2.ev cf).1 (qx (cs.map Cl.D)) [] [some (.d (zb cs)),some (.d (zd xs))]=.ok ((jX xs cs).map Cl.D,[some (.d (zb cs)),some (.d (zd xs))]):=by
 obtain⟨ys,Γ',e,hy,rfl⟩:=qi (k:=4) (t:=.tp (.cons (.nm 0 2) (.cons (.tp (.cons (.nm 1 3) (.cons (.nm 2 4) (.cons (.nm 3 5) .nil)))) .nil))) (cond:=fYes) (elt:=(p_with_wax_2.ev cf).1) (ds:=qx (cs.map Cl.D)) (Γ:= [some (.d (zb cs)),some (.d (zd xs))])
  (fun pre ys Γ=>ys=(Q7 xs cs pre.length).map Cl.D/\Γ= [some (.d (zb cs)),some (.d (zd xs))]) ⟨rfl,rfl⟩ (by
   rintro pre x post e ys Γ ⟨hy,rfl⟩
   obtain⟨c,hc,rfl⟩:∃ c,cs[pre.length]?=some c/\x=.tuple [.int (pre.length:Nat),c.D]:=by
    have h1:(qx (cs.map Cl.D))[pre.length]?=some x:=by rw[e];simp
    obtain⟨y,hy1,hy2⟩:=Jb h1
    rw[xh]at hy1
    cases q:cs[pre.length]? with
    |none=>rw[q]at hy1;cases hy1
    |some c=>
     rw[q]at hy1
     cases hy1
     exact⟨c,rfl,hy2⟩
   have hin:=kR xs (pre.length:Int)
   have hal:=vf xs
   have hnx:=Jq xs hc
   refine⟨[some (.d (zb cs)),some (.d (zd xs)),some (.d (.int (pre.length:Nat))),some (.d (zd c.st)),some (.d (.bool c.w)),some (.d (zd c.wi))],true,_,rfl,rfl,fun _=>⟨.dat (Q9 xs pre.length c).D,[some (.d (zb cs)),some (.d (zd xs)),some (.d (.int (pre.length:Nat))),some (.d (zd c.st)),some (.d (.bool c.w)),some (.d (zd c.wi))],(Q9 xs pre.length c).D,?_,rfl,?_,rfl⟩,fun h=>nomatch h⟩
   ·unfold Q9 Cl.D qt
    have hxi:zd xs=.tuple (xs.map .int):=rfl
    rw[hxi]
    generalize zd c.st=A at *
    generalize zd c.wi=B at *
    generalize xs.map PyData.int=X at *
    generalize xs.contains (pre.length:Int)=ci at *
    cases hw:c.w with
    |true=>simp![p_with_wax_2]
    |false=>simp![p_with_wax_2,hin,hal,zl]
   ·rw[hy]
    simp only[xw,xk,uf,ue]
    rw[hnx,xV];rfl)
 rw[e,hy]
 have:(qx (cs.map Cl.D)).length=cs.length:=by simp[qx]
 rw[this];rfl
theorem zdO(cf:CF)(hh:zfc cf){cs:List Cl}(hl:cs.length<=1000){xs:List Int}(hx:xs.length<=60) :
  runI 2 [false,false] [] je cf [.d (zb cs),.d (zd xs)]=zbT cs xs:=by
 have e1:=zC (k:=1) (t:=.nm 0 2) (cond:=fYes) (elt:=(p_with_wax_1.ev cf).1) (ds:=xs.map .int) (Γ:= [some (.d (zb cs)),some (.d (zd xs))]) (fun _=>true) (fun x=>match x with | .int i=>.bool (Qa cs.length i) | _=>.none) (by
  intro x hx
  obtain⟨i,_,rfl⟩:=xn.mp hx
  have e:=hh cs i hl
  refine⟨[some (.d (zb cs)),some (.d (zd xs)),some (.d (.int i))],_,rfl,rfl,by simp,fun _=>⟨.dat (.bool (Qa cs.length i)),[some (.d (zb cs)),some (.d (zd xs)),some (.d (.int i))],?_,rfl,by simp⟩⟩
  unfold Qa
  generalize zb cs=B at *
  simp![p_with_wax_1,e,zhW])
 rw[zT,List.map_map]at e1
 have em:(xs.map ((fun x=>match x with | .int i=>PyData.bool (Qa cs.length i) | _=>.none)∘PyData.int))=(xs.map (Qa cs.length)).map .bool:=by rw[List.map_map];rfl
 rw[em]at e1
 have hb1:=qf (xs.map (Qa cs.length))
 have ha:(xs.map (Qa cs.length)).all id=xs.all (Qa cs.length):=by rw[List.all_map];rfl
 have e2:=zdU cf (cs:=cs) (xs:=xs)
 have hio:=w6 xs
 have hdl:=jB xs
 have hml:(xs.map PyData.int).length=xs.length:=by simp
 have hz:xs.length<=1000000:=by omega
 have hzl:((xs.map (Qa cs.length)).map PyData.bool).length<=1000000:=by simp;omega
 have hel:(qx (cs.map Cl.D)).length<=1000000:=by simp[qx];omega
 have hcl:(cs.map Cl.D).length<=1000000:=by simp;omega
 have hvv:((jX xs cs).map Cl.D).map OV.d=(jX xs cs).map fun c=>OV.d c.D:=by rw[List.map_map];rfl
 unfold zbT zdC
 rw[<- hvv,<- ha]
 unfold zb zd at *
 generalize (jX xs cs).map Cl.D=WW at *
 generalize (xs.map (Qa cs.length)).map PyData.bool=BB at *
 generalize xs.map (Qa cs.length)=B2 at *
 generalize xs.map PyData.int=X at *
 generalize cs.map Cl.D=Y at *
 cases hal:B2.all id with
 |false=>
  simp![je,hml,hz,e1,hb1,hzl,hal,vN,zc5]
 |true=>
  by_cases hd:(Tab.dedup xs).length<xs.length
  ·have hne:(((Tab.dedup xs).length:Int)==(xs.length:Int))=false:=by rw[beq_eq_false_iff_ne];omega
   simp![je,hml,hz,e1,hb1,hzl,hal,yd,hio,hx,hd,zl,zD,hne,vN,ze0]
  ·have hne:(((Tab.dedup xs).length:Int)==(xs.length:Int))=true:=by rw[beq_iff_eq];omega
   have heq:(Tab.dedup xs).length=xs.length:=by omega
   simp![je,hml,hz,e1,hb1,hzl,hal,yd,hio,hx,hd,zl,zD,heq,e2,hel,hcl]
noncomputable def YO (cf:CF):Prop:=∀ (cs:List Cl) (xs:List Int),cs.length<=1000->xs.length<=60->cf "with_wax" [.d (zb cs),.d (zd xs)]=zbT cs xs
end Wx
set_option maxHeartbeats 4000000
namespace Wx
open PySem L2 L3
theorem zdX(cf:CF){cs:List Cl}(hl:cs.length<=1000){xs:List Int}:runI 2 [false,false] [] Jj cf [.d (zb cs),.d (zd xs)]=.ok (.l ((jX xs cs).map fun c=>.d c.D)) [none,none]:=by
 obtain⟨ys,Γ',e,hy,rfl⟩:=qi (k:=1) (t:=.nm 0 2) (cond:=fYes) (elt:=(b_law_wax_1.ev cf).1) (ds:=zq cs.length) (Γ:= [some (.d (zb cs)),some (.d (zd xs))])
  (fun pre ys Γ=>ys=(Q7 xs cs pre.length).map Cl.D/\Γ= [some (.d (zb cs)),some (.d (zd xs))]) ⟨rfl,rfl⟩ (by
   rintro pre x post e ys Γ ⟨hy,rfl⟩
   have h1:(zq cs.length)[pre.length]?=some x:=by rw[e];simp
   obtain⟨hlt,rfl⟩:=j4 h1
   have hc:cs[pre.length]?=some cs[pre.length]:=xb hlt
   have a1:atI (cs.map Cl.D) (pre.length:Int)=some (cs[pre.length]).D:=qO (by rw[xh,hc];rfl)
   have hin:=kR xs (pre.length:Int)
   have hal:=vf xs
   have hnx:=Jq xs hc
   generalize cs[pre.length]=c at *
   have hcd:c.D=.tuple [zd c.st,.bool c.w,zd c.wi]:=rfl
   rw[hcd]at a1
   have b0:atI [zd c.st,PyData.bool c.w,zd c.wi] 0=some (zd c.st):=rfl
   have b1:atI [zd c.st,PyData.bool c.w,zd c.wi] 1=some (.bool c.w):=rfl
   have b2:atI [zd c.st,PyData.bool c.w,zd c.wi] 2=some (zd c.wi):=rfl
   refine⟨[some (.d (zb cs)),some (.d (zd xs)),some (.d (.int (pre.length:Nat)))],true,_,rfl,rfl,fun _=>⟨.dat (Q9 xs pre.length c).D,[some (.d (zb cs)),some (.d (zd xs)),some (.d (.int (pre.length:Nat)))],(Q9 xs pre.length c).D,?_,rfl,?_,rfl⟩,fun h=>nomatch h⟩
   ·unfold Q9 Cl.D qt
    have hxi:zd xs=.tuple (xs.map .int):=rfl
    have hbd:zb cs=.list (cs.map Cl.D):=rfl
    rw[hxi,hbd]
    generalize cs.map Cl.D=Y at *
    generalize zd c.st=A at *
    generalize zd c.wi=B at *
    generalize xs.map PyData.int=X at *
    generalize xs.contains (pre.length:Int)=ci at *
    cases hw:c.w with
    |true=>
     rw[hw]at a1 b0 b1 b2
     simp![b_law_wax_1,a1,b0,b1,b2]
    |false=>
     rw[hw]at a1 b0 b1 b2
     simp![b_law_wax_1,a1,b0,b1,b2,hin,hal,zl]
   ·rw[hy]
    simp only[xw,xk,uf,ue]
    rw[hnx,xV];rfl)
 rw[zk]at hy
 subst hy
 have hz: -1000000<=(cs.length:Int)/\(cs.length:Int)<=1000000:=by omega
 have hz2:cs.length<=1000000:=by omega
 have hml:(cs.map Cl.D).length=cs.length:=by simp
 have hvv:((Q7 xs cs cs.length).map Cl.D).map OV.d=(jX xs cs).map fun c=>OV.d c.D:=by rw[List.map_map];rfl
 rw[<- hvv]
 unfold zb at *
 generalize (Q7 xs cs cs.length).map Cl.D=WW at *
 generalize cs.map Cl.D=Y at *
 simp![Jj,hml,hz,hz2,zk,e]
noncomputable def zc2 (cf:CF):Prop:=∀ (cs:List Cl) (xs:List Int),cs.length<=1000->cf "_law_wax" [.d (zb cs),.d (zd xs)]=.ok (.l ((jX xs cs).map fun c=>.d c.D)) [none,none]
end Wx
set_option maxHeartbeats 4000000
namespace Wx
open PySem L2 L3
noncomputable def bw (g:Int) (f:Bool):Option Str:=if g<0 then some "spare" else if 1<g then some "deep" else if g=1/\f=false then some "spent" else none
noncomputable def bwD(g:Int)(f:Bool):PyData:=match bw g f with
 |some w=>.str w
 |none=>.none
noncomputable def qe(fr:List Bool)(c:Cl)(i n:Nat):List PyData:=(List.range n).filterMap fun d=>(bw (c.wi.getD d 0-c.st.getD d 0) (fr.getD d false)).map fun w=>.tuple [.str w,.int (i:Nat),.int (d:Nat)]
noncomputable def zP(fr:List Bool)(cs:List Cl)(n:Nat):List PyData:=(List.range n).flatMap fun i=>match cs[i]? with
 |some c=>qe fr c i c.st.length
 |none=> []
theorem QW(fr:List Bool)(c:Cl)(i n:Nat):(qe fr c i n).length<=n:=by
 have:=List.length_filterMap_le (fun d=>(bw (c.wi.getD d 0-c.st.getD d 0) (fr.getD d false)).map fun w=>PyData.tuple [.str w,.int (i:Nat),.int (d:Nat)]) (List.range n)
 rw[xK]at this;exact this
theorem Wz(fr:List Bool)(c:Cl)(i n:Nat):qe fr c i (n+1)=qe fr c i n++(match bw (c.wi.getD n 0-c.st.getD n 0) (fr.getD n false)with | some w=> [PyData.tuple [.str w,.int (i:Nat),.int (n:Nat)]] | none=> []):=by
 unfold qe
 rw[xR,List.filterMap_append]
 congr 1
 cases e:bw (c.wi.getD n 0-c.st.getD n 0) (fr.getD n false) with
 |none=>rw[xF,e];rfl
 |some w=>rw[xF,e];rfl
theorem ZI(fr:List Bool)(cs:List Cl)(n:Nat)(c:Cl)(h:cs[n]?=some c):zP fr cs (n+1)=zP fr cs n++qe fr c n c.st.length:=by
 unfold zP
 rw[xR,List.flatMap_append]
 congr 1
 simp[h]
theorem Ql{pots:Nat}(fr:List Bool){cs:List Cl}(h:∀ c∈cs,jv pots c.st c.wi):∀ n,(zP fr cs n).length<=n*pots
 |0=>by simp[zP]
 |n+1=>by
  have ih:=Ql fr h n
  cases e:cs[n]? with
  |none=>
   have:zP fr cs (n+1)=zP fr cs n:=by
    unfold zP
    rw[xR,List.flatMap_append]
    simp[e]
   rw[this,Nat.succ_mul];omega
  |some c=>
   rw[ZI fr cs n c e,xw,Nat.succ_mul]
   have h1:=QW fr c n c.st.length
   have h2:=(h c (xN e)).sl
   omega
theorem zeK(cf:CF)(g:Int)(f:Bool):runI 2 [false,false] [] qL cf [.d (.int g),.d (.bool f)]=.ok (.d (bwD g f)) [none,none]:=by
 by_cases h1:g<0
 ·simp![qL,bwD,bw,h1,OV.view,OV.views,zx,ixN,atI]
 ·by_cases h2:1<g
  ·simp![qL,bwD,bw,h1,h2,OV.view,OV.views,zx,ixN,atI]
  ·by_cases h3:g=1
   ·cases f<;>simp![qL,bwD,bw,h3,zl,zD,OV.view,OV.views,zx,ixN,atI]
   ·simp![qL,bwD,bw,h1,h2,h3,zl,zD,OV.view,OV.views,zx,ixN,atI]
noncomputable def YG (cf:CF):Prop:=∀ (g:Int) (f:Bool),cf "bar_word" [.d (.int g),.d (.bool f)]=.ok (.d (bwD g f)) [none,none]
theorem yj{xs:List Bool}{d:Nat}(h:d<xs.length):atI (xs.map PyData.bool) (d:Int)=some (.bool (xs.getD d false)) :=
 qO (by rw[xh,xb h,List.getD_eq_getElem?_getD,xb h];rfl)
theorem zed(cf:CF)(hw:YG cf){rows:PyData}{fr:List Bool}{c:Cl}{i:Nat}{told:List PyData}{pots:Nat}(hc:jv pots c.st c.wi)(hf:fr.length=pots)(hp:pots<=100)(ht:told.length<=100000){o5 o7 o8:Option OV} :
  ∃ o7' o8':Option OV,qb (.nm 7 7) (p_bars_1.ex cf []) (zq pots) [some (.d rows),some (.d (.list (fr.map .bool))),some (.l (told.map .d)),some (.d (.int i)),some (.d (zd c.st)),o5,some (.d (zd c.wi)),o7,o8]
   = .ok (.next,[some (.d rows),some (.d (.list (fr.map .bool))),some (.l ((told++qe fr c i pots).map .d)),some (.d (.int i)),some (.d (zd c.st)),o5,some (.d (zd c.wi)),o7',o8']):=by
 obtain⟨Γ',e,⟨o7',o8',rfl⟩⟩:=qC (t:=.nm 7 7) (body:=p_bars_1.ex cf []) (ds:=zq pots) (Γ:= [some (.d rows),some (.d (.list (fr.map .bool))),some (.l (told.map .d)),some (.d (.int i)),some (.d (zd c.st)),o5,some (.d (zd c.wi)),o7,o8])
  (fun pre Γ=>∃ o7 o8:Option OV,Γ= [some (.d rows),some (.d (.list (fr.map .bool))),some (.l ((told++qe fr c i pre.length).map .d)),some (.d (.int i)),some (.d (zd c.st)),o5,some (.d (zd c.wi)),o7,o8]) ⟨o7,o8,by simp[qe]⟩ (by
   rintro pre x post e Γ ⟨o7,o8,rfl⟩
   obtain⟨rfl,hlt⟩:=jH e
   have a1:=qP (xs:=c.st) (d:=pre.length) (by rw[hc.sl];exact hlt)
   have a2:=qP (xs:=c.wi) (d:=pre.length) (by rw[hc.wl];exact hlt)
   have a3:=yj (xs:=fr) (d:=pre.length) (by rw[hf];exact hlt)
   have hlen:=QW fr c i pre.length
   have hz:told.length+(qe fr c i pre.length).length<1000000:=by omega
   have hq:=hw (c.wi.getD pre.length 0-c.st.getD pre.length 0) (fr.getD pre.length false)
   simp only[xw,xk,uf,ue]
   rw[Wz]
   generalize c.wi.getD pre.length 0=z1 at *
   generalize c.st.getD pre.length 0=z2 at *
   generalize fr.getD pre.length false=z3 at *
   refine⟨_,[some (.d rows),some (.d (.list (fr.map .bool))),some (.l ((told++(qe fr c i pre.length++(match bw (z1-z2) z3 with | some w=> [PyData.tuple [.str w,.int (i:Nat),.int (pre.length:Nat)]] | none=> []))).map .d)),some (.d (.int i)),some (.d (zd c.st)),o5,some (.d (zd c.wi)),some (.d (.int pre.length)),some (.d (bwD (z1-z2) z3))],by simp[tgF];rfl,?_,_,_,rfl⟩
   unfold bwD at hq |-
   cases hbw:bw (z1-z2) z3 with
   |none=>
    rw[hbw]at hq
    simp![p_bars_1,zd,a1,a2,a3,hq,isN,OV.view,OV.views,zx]
   |some w=>
    rw[hbw]at hq
    simp![p_bars_1,zd,a1,a2,a3,hq,hz,isN,OV.view,OV.views,zx])
 rw[zk]at *
 exact⟨o7',o8',e⟩
noncomputable def zw(fr:List Bool):PyData:=.list (fr.map .bool)
theorem zem(cf:CF)(hw:YG cf){pots:Nat}{cs:List Cl}(hl:cs.length<=100)(hk:∀ c∈cs,jv pots c.st c.wi){fr:List Bool}(hf:fr.length=pots)(hp:pots<=100) :
  runI 9 [false,false] [] Y9 cf [.d (zb cs),.d (zw fr)]=.ok (.l ((zP fr cs cs.length).map .d)) [none,none]:=by
 obtain⟨Γ',e,⟨o3,o4,o5,o6,o7,o8,rfl⟩⟩:=qC (t:=.tp (.cons (.nm 3 3) (.cons (.tp (.cons (.nm 4 4) (.cons (.nm 5 5) (.cons (.nm 6 6) .nil)))) .nil))) (body:=p_bars_2.ex cf []) (ds:=qx (cs.map Cl.D)) (Γ:= [some (.d (zb cs)),some (.d (zw fr)),some (.l []),none,none,none,none,none,none])
  (fun pre Γ=>∃ o3 o4 o5 o6 o7 o8:Option OV,Γ= [some (.d (zb cs)),some (.d (zw fr)),some (.l ((zP fr cs pre.length).map .d)),o3,o4,o5,o6,o7,o8]) ⟨none,none,none,none,none,none,by simp[zP]⟩ (by
   rintro pre x post e Γ ⟨o3,o4,o5,o6,o7,o8,rfl⟩
   obtain⟨y,hy,rfl⟩:=wb e
   rw[xh]at hy
   cases hc:cs[pre.length]? with
   |none=>rw[hc]at hy;cases hy
   |some c=>
    rw[hc]at hy
    have:y=c.D:=by simpa using hy.symm
    subst this
    have ok:=hk c (xN hc)
    have hpl:pre.length<cs.length:=(xc.mp hc).1
    have hbl:=Ql fr hk pre.length
    have hbl2:(zP fr cs pre.length).length<=100000:=xM hbl (xM (Nat.mul_le_mul (by omega:pre.length<=100) hp) (by decide))
    obtain⟨o7',o8',e1⟩:=zed cf hw (rows:=zb cs) (i:=pre.length) (told:=zP fr cs pre.length) ok hf hp hbl2 (o5:=some (.d (.bool c.w))) (o7:=o7) (o8:=o8)
    have hz1: -1000000<=(pots:Int)/\(pots:Int)<=1000000:=by omega
    refine⟨[some (.d (zb cs)),some (.d (zw fr)),some (.l ((zP fr cs pre.length).map .d)),some (.d (.int pre.length)),some (.d (zd c.st)),some (.d (.bool c.w)),some (.d (zd c.wi)),o7,o8],_,by simp[tgF,tgFs,Cl.D,qt],?_,some (.d (.int pre.length)),some (.d (zd c.st)),some (.d (.bool c.w)),some (.d (zd c.wi)),o7',o8',rfl⟩
    simp only[xw,xk,uf,ue]
    rw[ZI fr cs pre.length c hc,ok.sl]
    simp only[zw]
    simp![p_bars_2,ok.sl,hz1,OV.view,OV.views,zx,ixN,atI,zd]
    simp only[zd]at e1
    rw[e1];simp)
 rw[qu,xi]at *
 simp![Y9,zb,zw,OV.view,OV.views,zx,ixN,atI]
 simp only[zb,zw]at e
 rw[e]
 simp[outs]
noncomputable def zaK(cs:List Cl):Bool:=(cs.map fun c=>PyData.eqv (zd c.st) (zd c.wi)).all id
theorem zaJ(xs:List Int):lay 20 (zd xs)=true:=wf fun x h=>by
 obtain⟨i,_,rfl⟩:=xn.mp h
 exact zl _ _
noncomputable def zaV:PyData->PyData
 |.tuple [a,_,b]=>.bool (PyData.eqv a b)
 |_=>.none
theorem YS(cs:List Cl):((cs.map Cl.D).filter fun _=>true).map zaV=(cs.map fun c=>PyData.eqv (zd c.st) (zd c.wi)).map .bool:=by
 rw[zT,List.map_map,List.map_map];rfl
theorem zdF(cf:CF){cs:List Cl}(hl:cs.length<=1000):runI 1 [false] [] QX cf [.d (zb cs)]=.ok (.d (.bool (zaK cs))) [none]:=by
 have e:=zC (k:=1) (t:=.nm 0 1) (cond:=fYes) (elt:=(b_law_met_1.ev cf).1) (ds:=cs.map Cl.D) (Γ:= [some (.d (zb cs))]) (fun _=>true) zaV (by
  intro x hx
  obtain⟨c,_,rfl⟩:=xn.mp hx
  refine⟨_,_,by simp[tgF];rfl,rfl,by simp,fun _=>⟨.dat (.bool (PyData.eqv (zd c.st) (zd c.wi))),[some (.d (zb cs)),some (.d c.D)],?_,rfl,by simp⟩⟩
  simp![b_law_met_1,Cl.D,qt,zaJ,OV.view,OV.views,zx,zck,zcF])
 rw[YS]at e
 have hz:cs.length<=1000000:=by omega
 simp![QX,zb,hz,OV.view,OV.views,zx,ixN,atI]
 simp only[zb,List.map_map]at e
 rw[e]
 simp only[uW,gAll,<- List.map_map,qf,um,zaK,outs]
 rfl
end Wx
set_option maxHeartbeats 4000000
namespace Wx
open PySem L2 L3
noncomputable def ZK(c:Cl):Prop:=∀ d,c.st.getD d 0<=c.wi.getD d 0/\c.wi.getD d 0<=c.st.getD d 0+1/\c.wi.getD d 0<=9
noncomputable def BoltN(pots:Nat)(cs:List Cl):Prop:=Bolt pots cs/\∀ c∈cs,ZK c
inductive Mv where
 |wax (k:List Nat)
 |dip (d:Nat)
 |boil
noncomputable def Mv.D:Mv->PyData
 |.wax k=>.tuple [.str "wax",.tuple (za k)]
 |.dip d=>.tuple [.str "dip",.int (d:Int)]
 |.boil=>.tuple [.str "boil"]
noncomputable def zu(c:Cl):Cl:=⟨c.st,false,c.wi⟩
noncomputable def zB(dn:List Nat)(c:Cl):Cl:=⟨(List.range c.st.length).map fun k=>if dn.contains k then c.wi.getD k 0 else c.st.getD k 0,c.w,c.wi⟩
noncomputable def qw(d:Nat)(c:Cl):Cl:=⟨c.st,c.w|| !zU c d,c.wi⟩
noncomputable def kp(cs:List Cl)(d i:Nat):Bool:=match cs[i]? with
 |some c=> !c.w&& !zU c d
 |none=>false
noncomputable def zW(cs:List Cl)(d:Nat):List Nat:=(List.range cs.length).filter (kp cs d)
noncomputable def iz(xs:List Nat):List Int:=xs.map fun (i:Nat)=>(i:Int)
theorem ze1(xs:List Nat):PyData.tuple (za xs)=zd (iz xs):=by unfold za zd iz;rw[List.map_map];rfl
theorem zgy(xs:List Nat)(i:Nat):(iz xs).contains (i:Int)=xs.contains i:=by
 unfold iz
 induction xs with
 |nil=>rfl
 |cons a l ih=>simp only[xI,List.contains_cons,ih];congr 1;rw[xP];simp;omega
theorem kt(xs:List Int)(cs:List Cl):∀ k,k<=cs.length->∀ i,(Q7 xs cs k)[i]?=if i<k then (cs[i]?).map (Q9 xs i) else none
 |0,_,i=>by simp[Q7]
 |k+1,h,i=>by
  have hk:cs[k]?=some cs[k]:=xb (by omega)
  have ih:=kt xs cs k (by omega)
  have hl:(Q7 xs cs k).length=k:=by
   have h1:=zcg xs cs k
   by_cases h0:k=0
   ·subst h0;omega
   ·rcases uZ (k-1) (Q7 xs cs k).length with h | h
    ·omega
    ·have h2:=ih (k-1)
     rw[if_pos (by omega),xj h,xb (by omega)]at h2
     cases h2
  rw[Jq xs hk]
  by_cases h1:i<k
  ·rw[xf (by omega),ih i,if_pos h1,if_pos (by omega)]
  ·rw[xg (by omega),hl]
   by_cases h2:i=k
   ·subst h2;rw[if_pos (by omega),hk];simp
   ·rw[if_neg (by omega)]
    have:i-k=(i-k-1)+1:=by omega
    rw[this];rfl
theorem J4(xs:List Int)(cs:List Cl)(i:Nat):(jX xs cs)[i]?=(cs[i]?).map (Q9 xs i):=by
 unfold jX
 rw[kt xs cs _ (xm _) i]
 split
 ·rfl
 ·rw[xj (by omega)];rfl
theorem yH(cs:List Cl)(d i:Nat):i∈zW cs d↔∃ c,cs[i]?=some c/\c.w=false/\zU c d=false:=by
 unfold zW
 rw[xr,xE]
 unfold kp
 constructor
 ·rintro⟨h1,h2⟩
  rw[xb h1]at h2 |-
  simp at h2
  exact⟨_,rfl,h2.1,h2.2⟩
 ·rintro⟨c,h1,h2,h3⟩
  refine⟨?_,by rw[h1];simp[h2,h3]⟩
  rcases uZ i cs.length with h | h
  ·exact h
  ·rw[xj h]at h1;cases h1
theorem yZ(cs:List Cl)(d:Nat):(zW cs d).Pairwise (·<·):=(WZ _).filter _
theorem Ka(cs:List Cl)(d:Nat):(zW cs d).length<=cs.length:=by
 have:=xS (kp cs d) (List.range cs.length)
 rw[xK]at this;exact this
theorem Wc(f:Cl->Cl)(hf:∀ c,(f c).w=c.w)(hg:∀ c d,f (qw d c)=⟨(f c).st,c.w|| !zU c d,(f c).wi⟩)(cs:List Cl)(d:Nat):jX (iz (zW cs d)) (cs.map f)=(cs.map (qw d)).map f:=by
 apply xU
 intro i
 rw[J4,xh,xh,xh]
 cases h:cs[i]? with
 |none=>rfl
 |some c=>
  simp only[um,Option.some.injEq]
  rw[hg]
  unfold Q9
  rw[zgy,hf]
  have:(zW cs d).contains i=(!c.w&& !zU c d):=by
   rw[xP,xZ,yH]
   constructor
   ·rintro⟨c',h1,h2,h3⟩
    rw[h]at h1;cases h1;simp[h2,h3]
   ·intro h1;simp at h1;exact⟨c,h,h1.1,h1.2⟩
  rw[this]
  cases c.w<;>cases zU c d<;>rfl
theorem Kd(cs:List Cl)(d:Nat)(h:zW cs d= []):cs.map (qw d)=cs:=by
 have:=Wc id (fun _=>rfl) (fun _ _=>rfl) cs d
 rw[h]at this
 simp only[List.map_id]at this
 rw[<- this]
 apply xU
 intro i
 rw[J4]
 cases cs[i]? with
 |none=>rfl
 |some c=>simp[Q9,iz]
noncomputable def mvs:List Cl->List Nat->List Mv
 |_,[]=> []
 |cs,d::ds=>(if zW cs d= [] then [] else [.wax (zW cs d)])++.dip d::mvs (cs.map (qw d)) ds
inductive Walk(pots:Nat)(fr:List Bool):List Cl->List Nat->List Mv->List Cl->List Nat->Nat->Prop
 |nil {R dn}:Walk pots fr R dn [] R dn 0
 |wax {R dn k ms R' d' b} (hb:Bolt pots R) (h1:k≠ []) (h2:k.Pairwise (·<·)) (h3:∀ i∈k,∃ c,R[i]?=some c/\c.w=false) (w:Walk pots fr (jX (iz k) R) dn ms R' d' b):Walk pots fr R dn (.wax k::ms) R' d' b
 |dip {R dn d ms R' d' b} (hb:Bolt pots R) (h1:d<fr.length) (h2:fr.getD d false=true) (h3:d∉dn) (h4:R.any (qH d)=false) (w:Walk pots fr (R.map (jy d)) (dn++ [d]) ms R' d' b):Walk pots fr R dn (.dip d::ms) R' d' b
 |boil {R dn ms R' d' b} (hb:Bolt pots R) (w:Walk pots fr (R.map zu) dn ms R' d' b):Walk pots fr R dn (.boil::ms) R' d' (b+1)
theorem Walk.app{pots:Nat}{fr:List Bool}{R R1 R2:List Cl}{d0 d1 d2:List Nat}{m1 m2:List Mv}{b1 b2:Nat}(h1:Walk pots fr R d0 m1 R1 d1 b1)(h2:Walk pots fr R1 d1 m2 R2 d2 b2):Walk pots fr R d0 (m1++m2) R2 d2 (b1+b2):=by
 induction h1 with
 |nil=>rw[ue];exact h2
 |wax hb a1 a2 a3 _ ih=>exact .wax hb a1 a2 a3 (ih h2)
 |dip hb a1 a2 a3 a4 _ ih=>exact .dip hb a1 a2 a3 a4 (ih h2)
 |boil hb _ ih=>rw[Nat.add_right_comm];exact .boil hb (ih h2)
theorem QG(dn:List Nat)(c:Cl)(k:Nat):(zB dn c).st.getD k 0=if k<c.st.length then (if dn.contains k then c.wi.getD k 0 else c.st.getD k 0) else 0:=by
 unfold zB
 rw[List.getD_eq_getElem?_getD,xh]
 by_cases h:k<c.st.length
 ·rw[xY h,if_pos h];rfl
 ·rw[xj (by simp;omega),if_neg h];rfl
theorem yJ{xs:List Int}(h:In9 xs)(k:Nat):0<=xs.getD k 0/\xs.getD k 0<=9:=by
 rw[List.getD_eq_getElem?_getD]
 by_cases hk:k<xs.length
 ·rw[xb hk];exact h _ (xT hk)
 ·rw[xj (by omega)];simp
theorem Jy{pots:Nat}{cs:List Cl}(h:Bolt pots cs)(dn:List Nat):Bolt pots (cs.map (zB dn)):=by
 refine⟨by rw[xi];exact h.1,fun c hc=>?_⟩
 obtain⟨c0,h0,rfl⟩:=xn.mp hc
 have hk:=h.2 c0 h0
 refine⟨by unfold zB;simp[hk.sl],hk.wl,fun x hx=>?_,hk.wn⟩
 unfold zB at hx
 obtain⟨k,_,rfl⟩:=xn.mp hx
 have h1:=yJ hk.sn k
 have h2:=yJ hk.wn k
 split
 ·exact h2
 ·exact h1
theorem Bolt.mp{pots:Nat}{cs:List Cl}(h:Bolt pots cs)(f:Cl->Cl)(hf:∀ c,(f c).st=c.st/\(f c).wi=c.wi):Bolt pots (cs.map f):=by
 refine⟨by rw[xi];exact h.1,fun c hc=>?_⟩
 obtain⟨c0,h0,rfl⟩:=xn.mp hc
 rw[(hf c0).1,(hf c0).2];exact h.2 c0 h0
theorem BoltN.mp{pots:Nat}{cs:List Cl}(h:BoltN pots cs)(f:Cl->Cl)(hf:∀ c,(f c).st=c.st/\(f c).wi=c.wi):BoltN pots (cs.map f):=by
 refine⟨h.1.mp f hf,fun c hc=>?_⟩
 obtain⟨c0,h0,rfl⟩:=xn.mp hc
 unfold ZK
 rw[(hf c0).1,(hf c0).2];exact h.2 c0 h0
theorem Zx(f:Cl->Cl)(hf:∀ c,(f c).st=c.st/\(f c).wi=c.wi)(c:Cl)(d:Nat):zU (f c) d=zU c d:=by
 unfold zU;rw[(hf c).1,(hf c).2]
theorem Jg(d:Nat)(c:Cl):(qw d c).st=c.st/\(qw d c).wi=c.wi:=⟨rfl,rfl⟩
theorem VB(c:Cl):(zu c).st=c.st/\(zu c).wi=c.wi:=⟨rfl,rfl⟩
theorem W7{c:Cl}(h:ZK c)(d:Nat):c.wi.getD d 0=c.st.getD d 0+(if zU c d then 1 else 0):=by
 obtain⟨h1,h2,_⟩:=h d
 unfold zU
 by_cases hd:c.st.getD d 0<c.wi.getD d 0
 ·simp only[hd,decide_true,if_true];omega
 ·simp only[hd,decide_false];rw[if_neg (by decide)];omega
theorem zcW{dn:List Nat}{d:Nat}(hd:d∉dn){c:Cl}(hn:ZK c)(hw:c.w= !zU c d):jy d (zB dn c)=zB (dn++ [d]) c:=by
 have key:(if (zB dn c).w then (zB dn c).st else WD d (zB dn c).st)=(zB (dn++ [d]) c).st:=by
  have hl:(zB dn c).st.length=c.st.length:=by unfold zB;simp
  apply xU
  intro k
  have e0:∀ (xs:List Int),xs.length=c.st.length->xs[k]?=if k<c.st.length then some (xs.getD k 0) else none:=fun xs hx=>by
   rw[List.getD_eq_getElem?_getD]
   by_cases h:k<c.st.length
   ·rw[xb (by omega),if_pos h];rfl
   ·rw[xj (by omega),if_neg h]
  rw[e0 _ (by split<;>simp[yI,hl]),e0 _ (by unfold zB;simp)]
  by_cases h:k<c.st.length
  ·rw[if_pos h,if_pos h,QG,if_pos h]
   refine congrArg some ?_
   have hc:(dn++ [d]).contains k=(dn.contains k||k==d):=by rw[xP];simp
   rw[hc]
   have hi:(WD d (zB dn c).st).getD k 0=(zB dn c).st.getD k 0+(if k=d then 1 else 0):=by
    unfold WD
    rw[List.getD_eq_getElem?_getD,xh,xY (by omega)];rfl
   have hnl:=W7 hn d
   have hcw:(zB dn c).w=c.w:=rfl
   rw[hcw,hw]
   have hdn:dn.contains d=false:=by rw[<- Bool.not_eq_true,xZ];exact hd
   cases hL:zU c d with
   |true=>
    rw[hL,if_pos rfl]at hnl
    simp only[uJ,xG,if_false]
    rw[hi,QG,if_pos h]
    by_cases hk:k=d
    ·subst hk
     simp only[hdn,xG,if_false,if_true,Bool.false_or,beq_self_eq_true,eq_self]
     omega
    ·have:(k==d)=false:=by simpa using hk
     simp[this,hk]
   |false=>
    rw[hL,if_neg (by decide)]at hnl
    simp only[Bool.not_false,if_true]
    rw[QG,if_pos h]
    by_cases hk:k=d
    ·subst hk
     simp only[hdn,xG,if_false,if_true,Bool.false_or,beq_self_eq_true,eq_self]
     omega
    ·have:(k==d)=false:=by simpa using hk
     simp[this]
  ·rw[if_neg h,if_neg h]
 unfold jy
 cases hcw:(zB dn c).w with
 |true=>
  rw[hcw]at key
  simp only[if_true]at key |-
  have:zB dn c=⟨(zB dn c).st,(zB dn c).w,(zB dn c).wi⟩:=rfl
  rw[this,key];rfl
 |false=>
  rw[hcw]at key
  simp only[xG,if_false]at key |-
  rw[key]
  have:zB (dn++ [d]) c=⟨(zB (dn++ [d]) c).st,(zB (dn++ [d]) c).w,(zB (dn++ [d]) c).wi⟩:=rfl
  rw[this]
  have h2:(zB (dn++ [d]) c).w=false:=hcw
  rw[h2];rfl
theorem zb8{dn:List Nat}{d:Nat}(hd:d∉dn){P:List Cl}(hn:∀ c∈P,ZK c)(hcw:∀ c∈P,c.w= !zU c d):(P.map (zB dn)).any (qH d)=false:=by
 rw[<- Bool.not_eq_true,uY]
 rintro⟨c,hc,h⟩
 obtain⟨c0,h0,rfl⟩:=xn.mp hc
 unfold qH at h
 rw[QG]at h
 have hdn:dn.contains d=false:=by rw[<- Bool.not_eq_true,xZ];exact hd
 obtain⟨_,_,h9⟩:=hn c0 h0 d
 rw[hdn,xa,decide_eq_true_eq]at h
 obtain⟨hw,h⟩:=h
 have hl:zU c0 d=true:=by
  have h1:=hcw c0 h0
  have h2:(zB dn c0).w=c0.w:=rfl
  rw[h2,h1]at hw
  simpa using hw
 unfold zU at hl
 simp only[decide_eq_true_eq]at hl
 split at h
 ·rw[if_neg (by decide)]at h;omega
 ·omega
theorem Kv(dn:List Nat)(P:List Cl):(P.map (zB dn)).map zu=(P.map zu).map (zB dn):=by
 rw[List.map_map,List.map_map];rfl
theorem jM{pots:Nat}{fr:List Bool}(hfl:fr.length=pots):∀ (ds:List Nat) (P:List Cl) (dn:List Nat),BoltN pots P->(∀ d∈ds,d<pots/\fr.getD d false=true/\d∉dn)->ds.Nodup->(ds.Pairwise fun x y=>∀ c∈P,zU c y=true->zU c x=true)->(∀ c∈P,∀ d∈ds,zU c d=true->c.w=false) ->
  ∃ P':List Cl,P'.map zu=P.map zu/\Walk pots fr (P.map (zB dn)) dn (mvs P ds) (P'.map (zB (dn++ds))) (dn++ds) 0
 |[],P,dn,_,_,_,_,_=>⟨P,rfl,by rw[ud];exact .nil⟩
 |d::ds,P,dn,hb,hd,hnd,hch,hw=>by
  obtain⟨hd1,hd2,hd3⟩:=hd d (by simp)
  have hP':=hb.mp (qw d) (Jg d)
  have hcw:∀ c∈P.map (qw d),c.w= !zU c d:=fun c hc=>by
   obtain⟨c0,h0,rfl⟩:=xn.mp hc
   rw[Zx _ (Jg d)]
   show (c0.w|| !zU c0 d)=_
   have:=hw c0 h0 d (by simp)
   cases hL:zU c0 d with
   |true=>rw[this hL];rfl
   |false=>simp
  obtain⟨P',hs,hwk⟩:=jM hfl ds (P.map (qw d)) (dn++ [d]) hP' (fun e he=>by
    obtain⟨a1,a2,a3⟩:=hd e (by simp[he])
    refine⟨a1,a2,?_⟩
    rw[xJ,uO]
    rintro (h | h)
    ·exact a3 h
    ·subst h;exact (xC.mp hnd).1 he) (xC.mp hnd).2 ((List.pairwise_cons.mp hch).2.imp fun {x y} h c hc=>by
     obtain⟨c0,h0,rfl⟩:=xn.mp hc
     rw[Zx _ (Jg d),Zx _ (Jg d)];exact h c0 h0) (fun c hc e he hl=>by
     rw[hcw c hc]
     obtain⟨c0,h0,rfl⟩:=xn.mp hc
     rw[Zx _ (Jg d)]at hl |-
     rw[(List.pairwise_cons.mp hch).1 e he c0 h0 hl];rfl)
  refine⟨P',by rw[hs,List.map_map];rfl,?_⟩
  have hdip:Walk pots fr ((P.map (qw d)).map (zB dn)) dn (.dip d::mvs (P.map (qw d)) ds) (P'.map (zB (dn++d::ds))) (dn++d::ds) 0:=by
   refine .dip (Jy hP'.1 dn) (by omega) hd2 hd3 (zb8 hd3 hP'.2 hcw) ?_
   have:((P.map (qw d)).map (zB dn)).map (jy d)=(P.map (qw d)).map (zB (dn++ [d])):=by
    rw[List.map_map]
    exact uv fun c hc=>zcW hd3 (hP'.2 c hc) (hcw c hc)
   rw[this]
   rw[List.append_assoc]at hwk
   exact hwk
  unfold mvs
  by_cases hk:zW P d= []
  ·rw[if_pos hk,uD]
   rw[Kd P d hk]at hdip |-
   exact hdip
  ·rw[if_neg hk]
   refine .wax (Jy hb.1 dn) hk (yZ P d) (fun i hi=>?_) ?_
   ·obtain⟨c,h1,h2,_⟩:=(yH P d i).mp hi
    exact⟨zB dn c,by rw[xh,h1];rfl,h2⟩
   ·rw[Wc (zB dn) (fun _=>rfl) (fun _ _=>rfl)]
    exact hdip
noncomputable def jz(cs:List Cl)(L:List (List Nat)):List Mv:=match L with
 |[]=> []
 |P::rest=>mvs cs P++rest.flatMap fun ds=>.boil::mvs (cs.map zu) ds
theorem WP{pots:Nat}{fr:List Bool}(hfl:fr.length=pots){cs:List Cl}(hc:BoltN pots cs):∀ (L:List (List Nat)) (P:List Cl) (dn:List Nat),P.map zu=cs.map zu->(∀ d∈L.flatten,d<pots/\fr.getD d false=true/\d∉dn)->L.flatten.Nodup->(∀ l∈L,Chn cs l) ->
    (∀ d∈L.flatten,d<12)->BoltN pots P ->
    ∃ P':List Cl,P'.map zu=cs.map zu/\Walk pots fr (P.map (zB dn)) dn (L.flatMap fun ds=>.boil::mvs (cs.map zu) ds) (P'.map (zB (dn++L.flatten))) (dn++L.flatten) L.length
  |[],P,dn,hs,_,_,_,_,_=>⟨P,hs,by simp only[List.flatten_nil,ud,List.flatMap_nil,uf];exact .nil⟩
  |ds::L,P,dn,hs,hd,hnd,hch,h12,hbP=>by
    have hB:=hc.mp zu VB
    rw[xH]at hd hnd h12
    obtain⟨n1,n2,n3⟩:=uk.mp hnd
    obtain⟨P1,hs1,hw1⟩:=jM hfl ds (cs.map zu) dn hB (fun d h=>hd d (by simp[h])) n1 ((List.Pairwise.imp (fun h=>(Jw cs _ _).mp h) (hch ds (by simp))).imp_of_mem fun {x y} hx hy h c hcm=>by
        obtain⟨c0,h0,rfl⟩:=xn.mp hcm
        rw[Zx _ VB,Zx _ VB]
        have hx12:=h12 x (by simp[hx])
        exact (h.2.2.2 (by omega)).1 c0 h0) (fun c hcm d _ _=>by
        obtain⟨c0,h0,rfl⟩:=xn.mp hcm;rfl)
    have hs1':P1.map zu=cs.map zu:=by rw[hs1,List.map_map];rfl
    have hbP1:BoltN pots P1:=by
      have h1:∀ c∈P1,∃ c0∈cs,c.st=c0.st/\c.wi=c0.wi:=fun c hcm=>by
        have:zu c∈cs.map zu:=by rw[<- hs1'];exact List.mem_map_of_mem hcm
        obtain⟨c0,h0,e⟩:=xn.mp this
        exact⟨c0,h0,by have:=congrArg Cl.st e;exact this.symm,by have:=congrArg Cl.wi e;exact this.symm⟩
      refine⟨⟨?_,fun c hcm=>?_⟩,fun c hcm=>?_⟩
      · have := congrArg List.length hs1'
        simp only[xi]at this
        rw[this];exact hc.1.1
      · obtain ⟨c0, h0, e1, e2⟩ := h1 c hcm
        rw[e1,e2];exact hc.1.2 c0 h0
      · obtain ⟨c0, h0, e1, e2⟩ := h1 c hcm
        unfold ZK
        rw[e1,e2];exact hc.2 c0 h0
    obtain⟨P2,hs2,hw2⟩:=WP hfl hc L P1 (dn++ds) hs1' (fun d h=>by
        obtain⟨a1,a2,a3⟩:=hd d (xB _ h)
        refine⟨a1,a2,?_⟩
        rw[xJ]
        rintro (q | q)
        · exact a3 q
        · exact n3 d q d h rfl) n2 (fun l hl=>hch l (by simp[hl])) (fun d h=>h12 d (xB _ h)) hbP1
    refine⟨P2,hs2,?_⟩
    rw[List.flatMap_cons,uT,xH,<- List.append_assoc]
    refine .boil (Jy hbP.1 dn) ?_
    rw[Kv,hs]
    have:=hw1.app hw2
    rw[ue]at this
    exact this
theorem zce(cs:List Cl):cs.map (zB [])=cs:=by
 conv=>rhs;rw[<- List.map_id cs]
 refine uv fun c _=>?_
 have:(List.range c.st.length).map (fun k=>c.st.getD k 0)=c.st:=by
  apply xU
  intro k
  rw[xh]
  by_cases h:k<c.st.length
  ·rw[xY h]
   show some (c.st.getD k 0)=_
   rw[List.getD_eq_getElem?_getD,xb h];rfl
  ·rw[xj (by simp;omega),xj (by omega)];rfl
 unfold zB
 simp only[List.contains_nil,xG,if_false,this,id]
end Wx
set_option maxHeartbeats 4000000
namespace Wx
open PySem L2 L3
theorem wz:∀ {l T:List Int},l.Nodup->(∀ x∈l,x∈T)->l.length<=T.length
 |[],_,_,_=>ui _
 |a::l,T,hn,hs=>by
  rw[xC]at hn
  have ha:a∈T:=hs a (by simp)
  have:=wz (l:=l) (T:=T.erase a) hn.2 (fun x hx=>by
   have hx2:=hs x (by simp[hx])
   have hne:x≠a:=fun e=>hn.1 (e ▸ hx)
   exact (List.mem_erase_of_ne hne).mpr hx2)
  have h1:=List.length_erase_of_mem ha
  have h2:=List.length_pos_of_mem ha
  simp only[xk];omega
theorem yS{xs:List Int}(h:xs.Nodup):(Tab.dedup xs).length=xs.length :=
 Nat.le_antisymm (jB xs) (wz h fun x hx=>(Qz xs x).mp ((Tab.any_dedup xs x).mpr hx))
theorem y0{k:List Nat}(h:k.Pairwise (·<·)):(iz k).Nodup:=by
 unfold iz
 exact uu.mpr (h.imp fun h=>by omega)
theorem zae(cf:CF){cs:List Cl}(hl:cs.length<=1000):runI 1 [false] [] wu cf [.d (zb cs)]=.ok (.l ((cs.map zu).map fun c=>.d c.D)) [none]:=by
 obtain⟨ys,Γ',e,hy,rfl⟩:=qi (k:=3) (t:=.tp (.cons (.nm 0 1) (.cons (.nm 1 2) (.cons (.nm 2 3) .nil)))) (cond:=fYes) (elt:=(p_boiled_1.ev cf).1) (ds:=cs.map Cl.D) (Γ:= [some (.d (zb cs))])
  (fun pre ys Γ=>ys=((cs.take pre.length).map zu).map Cl.D/\Γ= [some (.d (zb cs))]) ⟨rfl,rfl⟩ (by
   rintro pre x post e ys Γ ⟨hy,rfl⟩
   have hlt:pre.length<cs.length:=by have:=congrArg List.length e;simp at this;omega
   have hxe:x=(cs[pre.length]).D:=by
    have:(cs.map Cl.D)[pre.length]?=some x:=by rw[e];simp
    rw[xh,xb hlt]at this
    simpa using this.symm
   have hnx:(cs.take (pre.length+1)).map zu=(cs.take pre.length).map zu++ [zu cs[pre.length]]:=by
    rw[uH,xb hlt,xV];rfl
   generalize cs[pre.length]=c at *
   subst hxe
   refine⟨[some (.d (zb cs)),some (.d (zd c.st)),some (.d (.bool c.w)),some (.d (zd c.wi))],true,_,rfl,rfl,fun _=>⟨.dat (zu c).D,[some (.d (zb cs)),some (.d (zd c.st)),some (.d (.bool c.w)),some (.d (zd c.wi))],(zu c).D,?_,rfl,?_,rfl⟩,fun h=>nomatch h⟩
   ·unfold zu Cl.D qt
    generalize zd c.st=A at *
    generalize zd c.wi=B at *
    simp![p_boiled_1]
   ·rw[hy]
    simp only[xw,xk,uf,ue]
    rw[hnx,xV];rfl)
 have:(cs.take (cs.map Cl.D).length)=cs:=by rw[xi,uw]
 rw[this]at hy
 subst hy
 have hz:(cs.map Cl.D).length<=1000000:=by simp;omega
 have hvv:((cs.map zu).map Cl.D).map OV.d=(cs.map zu).map fun c=>OV.d c.D:=by rw[List.map_map];rfl
 rw[<- hvv]
 unfold zb at *
 generalize (cs.map zu).map Cl.D=DD at *
 generalize cs.map Cl.D=X at *
 simp![wu,e,hz]
noncomputable def yC (cf:CF):Prop:=∀ cs:List Cl,cs.length<=1000->cf "boiled" [.d (zb cs)]=.ok (.l ((cs.map zu).map fun c=>.d c.D)) [none]
theorem zee(cf:CF){pots:Nat}{cs:List Cl}(hb:Bolt pots cs){d:Nat}(hd:d<pots):runI 2 [false,false] [] jx cf [.d (zb cs),.d (.int d)]=.ok (.d (.tuple (za (zW cs d)))) [none,none]:=by
 obtain⟨ys,Γ',e,rfl,rfl⟩:=qi (k:=4) (t:=.tp (.cons (.nm 0 2) (.cons (.tp (.cons (.nm 1 3) (.cons (.nm 2 4) (.cons (.nm 3 5) .nil)))) .nil))) (cond:=p_to_keep_off_1.ev cf) (elt:=(p_to_keep_off_2.ev cf).1) (ds:=qx (cs.map Cl.D)) (Γ:= [some (.d (zb cs)),some (.d (.int d))])
  (fun pre ys Γ=>ys=((List.range pre.length).filter (kp cs d)).map (fun (i:Nat)=>PyData.int (i:Int))/\Γ= [some (.d (zb cs)),some (.d (.int d))]) ⟨rfl,rfl⟩ (by
   rintro pre x post e ys Γ ⟨rfl,rfl⟩
   obtain⟨y,hy,rfl⟩:=wb e
   rw[xh]at hy
   cases hc:cs[pre.length]? with
   |none=>rw[hc]at hy;cases hy
   |some c=>
    rw[hc]at hy
    have:y=c.D:=by simpa using hy.symm
    subst this
    have ok:=hb.2 c (xN hc)
    have a1:=qP (xs:=c.st) (d:=d) (by rw[ok.sl];exact hd)
    have a2:=qP (xs:=c.wi) (d:=d) (by rw[ok.wl];exact hd)
    have hlk:kp cs d pre.length=(!c.w&&decide (c.wi.getD d 0<=c.st.getD d 0)):=by
     unfold kp zU;rw[hc]
     have:(!decide (c.st.getD d 0<c.wi.getD d 0))=decide (c.wi.getD d 0<=c.st.getD d 0):=by
      rw[<- decide_not];exact decide_eq_decide.mpr Int.not_lt
     simp only[this]
    refine⟨_,kp cs d pre.length,[some (.d (zb cs)),some (.d (.int d)),some (.d (.int pre.length)),some (.d (zd c.st)),some (.d (.bool c.w)),some (.d (zd c.wi))],by simp[tgF,tgFs,Cl.D,qt];rfl,?_,fun h=>⟨.dat (.int pre.length),[some (.d (zb cs)),some (.d (.int d)),some (.d (.int pre.length)),some (.d (zd c.st)),some (.d (.bool c.w)),some (.d (zd c.wi))],.int pre.length,by simp![p_to_keep_off_2,OV.view,OV.views,zx,ixN,atI],rfl,?_,by simp⟩,fun h=>⟨?_,by simp⟩⟩
    ·rw[hlk]
     unfold zd
     generalize c.st.getD d 0=g1 at *
     generalize c.wi.getD d 0=g2 at *
     generalize c.st.map PyData.int=X1 at *
     generalize c.wi.map PyData.int=X2 at *
     cases hw:c.w with
     |true=>simp![p_to_keep_off_1,a1,a2,OV.view,OV.views,zx]
     |false=>simp![p_to_keep_off_1,a1,a2,OV.view,OV.views,zx]
    ·simp[xR,xO,h]
    ·simp[xR,xO,h])
 have hz:cs.length<=1000000:=by have:=hb.1;omega
 have hz2:=Ka cs d
 have hz3:(za (zW cs d)).length<=1000000:=by rw[zt];omega
 have e2:((List.range (qx (cs.map Cl.D)).length).filter (kp cs d)).map (fun (i:Nat)=>PyData.int (i:Int))=za (zW cs d):=by
  rw[qu,xi];rfl
 rw[e2]at e
 have hel:(qx (cs.map Cl.D)).length<=1000000:=by rw[qu,xi];exact hz
 have hcl:(cs.map Cl.D).length<=1000000:=by simpa using hz
 unfold zb at *
 generalize za (zW cs d)=KK at *
 generalize cs.map Cl.D=X at *
 simp![jx,e,hz3,hel,hcl]
noncomputable def Yi (cf:CF):Prop:=∀ (pots:Nat) (cs:List Cl),Bolt pots cs->∀ d:Nat,d<pots->cf "to_keep_off" [.d (zb cs),.d (.int d)]=.ok (.d (.tuple (za (zW cs d)))) [none,none]
theorem Qv:∀ (ds:List Nat) (P:List Cl),(mvs P ds).length<=2*ds.length
 |[],_=>by simp[mvs]
 |d::ds,P=>by
  have:=Qv ds (P.map (qw d))
  unfold mvs
  split<;>simp<;>omega
noncomputable def qd(ms:List Mv):List OV:=ms.map fun m=>.d m.D
theorem KN(P:List Cl)(d:Nat):zbT P (iz (zW P d))=.ok (.l ((P.map (qw d)).map fun c=>.d c.D)) [none,none]:=by
 unfold zbT
 have h1:(iz (zW P d)).all (Qa P.length)=true:=by
  rw[xA]
  intro x hx
  obtain⟨i,hi,rfl⟩:=xn.mp hx
  have:i<P.length:=xE.mp (xr.mp hi).1
  unfold Qa
  simp;omega
 have h2:zdC (iz (zW P d))=false:=by
  unfold zdC
  rw[yS (y0 (yZ P d))];simp
 have h3:=Wc id (fun _=>rfl) (fun _ _=>rfl) P d
 simp only[List.map_id]at h3
 rw[h1,h2,h3];rfl
theorem Ki(cf:CF)(hk:Yi cf)(hw:YO cf){pots:Nat}{o1:Option OV}:∀ (ds:List Nat) (P:List Cl) (acc:List OV) (o3 o4:Option OV),Bolt pots P->P.length<=60->(∀ d∈ds,d<pots)->acc.length+2*ds.length<=1000 ->
  ∃ o0 o3' o4',qb (.nm 3 3) (p_stretch_moves_1.ex cf []) (za ds) [some (.d (zb P)),o1,some (.l acc),o3,o4]=.ok (.next,[o0,o1,some (.l (acc++qd (mvs P ds))),o3',o4'])
 |[],P,acc,o3,o4,_,_,_,_=>⟨some (.d (zb P)),o3,o4,by simp[za,qb,mvs,qd]⟩
 |d::ds,P,acc,o3,o4,hb,hP,hd,hl=>by
  have hd1:=hd d (by simp)
  have e1:=hk pots P hb d hd1
  have e2:=hw P (iz (zW P d)) (by omega) (by unfold iz;rw[xi];have:=Ka P d;omega)
  rw[KN]at e2
  have v2:=qF (P.map (qw d))
  simp only[xk]at hl
  have hb':=hb.mp (qw d) (Jg d)
  have htg:tgF (.nm 3 3) (PyData.int (d:Int)) [some (.d (zb P)),o1,some (.l acc),o3,o4]=some [some (.d (zb P)),o1,some (.l acc),some (.d (.int (d:Int))),o4]:=rfl
  have step:∃ o4',p_stretch_moves_1.ex cf [] [some (.d (zb P)),o1,some (.l acc),some (.d (.int (d:Int))),o4]=.ok (.next,[some (.d (zb (P.map (qw d)))),o1,some (.l (acc++qd ((if zW P d= [] then [] else [.wax (zW P d)])++ [.dip d]))),some (.d (.int (d:Int))),o4']):=by
   by_cases hkz:zW P d= []
   ·have hc:=Kd P d hkz
    rw[hc,if_pos hkz]
    rw[hkz]at e1
    refine⟨some (.d (.tuple [])),?_⟩
    have hz:acc.length<1000000:=by omega
    generalize zb P=B at *
    simp![p_stretch_moves_1,e1,hz,zQ,za,qd,Mv.D]
   ·rw[if_neg hkz]
    refine⟨some (.d (.tuple (za (zW P d)))),?_⟩
    have hz:acc.length<1000000:=by omega
    have hz2:acc.length+1<1000000:=by omega
    rw[<- ze1]at e2
    have hne:(za (zW P d)).isEmpty=false:=by
     rw[Zf]
     cases hq:zW P d with
     |nil=>exact absurd hq hkz
     |cons a l=>rfl
    simp only[qd,xI,List.map_nil,Mv.D,uT,uD]
    generalize za (zW P d)=KK at *
    generalize ((P.map (qw d)).map fun c=>OV.d c.D)=CC at *
    generalize zb P=B at *
    generalize zb (P.map (qw d))=B2 at *
    simp![p_stretch_moves_1,e1,hne,e2,v2,hz,hz2,zQ]
  obtain⟨o4',es⟩:=step
  obtain⟨o0,o3'',o4'',e⟩:=Ki cf hk hw (pots:=pots) (o1:=o1) ds (P.map (qw d)) (acc++qd ((if zW P d= [] then [] else [.wax (zW P d)])++ [.dip d])) (some (.d (.int (d:Int)))) o4' hb' (by rw[xi];exact hP) (fun e he=>hd e (by simp[he])) (by
   unfold qd
   split<;>simp<;>omega)
  refine⟨o0,o3'',o4'',?_⟩
  show qb _ _ (PyData.int (d:Int)::za ds) _=_
  rw[qb,htg]
  simp only[es]
  rw[e]
  have:acc++qd (mvs P (d::ds))=acc++qd ((if zW P d= [] then [] else [.wax (zW P d)])++ [.dip d])++qd (mvs (P.map (qw d)) ds):=by
   rw[mvs]
   unfold qd
   simp
  rw[this]
theorem KP(cf:CF)(hk:Yi cf)(hw:YO cf){pots:Nat}{P:List Cl}(hb:Bolt pots P)(hP:P.length<=60){ds:List Nat}(hd:∀ d∈ds,d<pots)(hl:ds.length<=100) :
  runI 5 [false,false] [] qS cf [.d (zb P),.d (.list (za ds))]=.ok (.l (qd (mvs P ds))) [none,none]:=by
 obtain⟨o0,o3,o4,e⟩:=Ki cf hk hw (o1:=some (.d (.list (za ds)))) ds P [] none none hb hP hd (by simp;omega)
 have hz:=zt ds
 have hz2:ds.length<=1000000:=by omega
 rw[uD]at e
 generalize qd (mvs P ds)=MM at *
 generalize zb P=B at *
 generalize za ds=DD at *
 simp![qS,e,hz,hz2]
noncomputable def wQ (cf:CF):Prop:=∀ (pots:Nat) (P:List Cl) (ds:List Nat),Bolt pots P->P.length<=60->(∀ d∈ds,d<pots)->ds.length<=100->cf "stretch_moves" [.d (zb P),.d (.list (za ds))]=.ok (.l (qd (mvs P ds))) [none,none]
end Wx
set_option maxHeartbeats 4000000
namespace Wx
open PySem L2 L3
noncomputable def zdd (cf:CF):Prop:=∀ (pots:Nat) (cs:List Cl) (fr:List Bool),cs.length<=100->(∀ c∈cs,jv pots c.st c.wi)->fr.length=pots->pots<=100->cf "bars" [.d (zb cs),.d (zw fr)]=.ok (.l ((zP fr cs cs.length).map .d)) [none,none]
noncomputable def WI(cs:List Cl)(fr:List Bool):Prop:=∀ c∈cs,∀ d,zU c d=true->fr.getD d false=true
theorem zcp{cs:List Cl}{fr:List Bool}(hn:∀ c∈cs,ZK c)(hf:WI cs fr)(n:Nat):zP fr cs n= []:=by
 unfold zP
 rw[List.flatMap_eq_nil_iff]
 intro i _
 cases h:cs[i]? with
 |none=>rfl
 |some c=>
  have hc:=xN h
  show qe fr c i c.st.length= []
  unfold qe
  rw[List.filterMap_eq_nil_iff]
  intro d _
  obtain⟨h1,h2,_⟩:=hn c hc d
  have:bw (c.wi.getD d 0-c.st.getD d 0) (fr.getD d false)=none:=by
   unfold bw
   rw[if_neg (by omega),if_neg (by omega),if_neg]
   rintro⟨h3,h4⟩
   have:=hf c hc d (by unfold zU;rw[decide_eq_true_eq];omega)
   rw[this]at h4;cases h4
  rw[this];rfl
theorem vc(cf:CF)(hs:wQ cf){pots:Nat}{P:List Cl}(hb:Bolt pots P)(hP:P.length<=60){o0 o1 o2 o3 o4:Option OV}:∀ (L:List (List Nat)) (acc:List OV) (o7:Option OV),(∀ l∈L,(∀ d∈l,d<pots)/\l.length<=100)->acc.length+2*L.flatten.length+L.length<=1000 ->
  ∃ o7',qb (.nm 7 7) (p_plan_1.ex cf []) (L.map fun r=>.list (za r)) [o0,o1,o2,o3,o4,some (.l acc),some (.d (zb P)),o7]=.ok (.next,[o0,o1,o2,o3,o4,some (.l (acc++qd (L.flatMap fun ds=>.boil::mvs P ds))),some (.d (zb P)),o7'])
 |[],acc,o7,_,_=>⟨o7,by simp[qb,qd]⟩
 |l::L,acc,o7,hl,hz=>by
  obtain⟨h1,h2⟩:=hl l (by simp)
  have e1:=hs pots P l hb hP h1 h2
  simp only[xH,xw,xk]at hz
  have hm:=Qv l P
  have htg:tgF (.nm 7 7) (PyData.list (za l)) [o0,o1,o2,o3,o4,some (.l acc),some (.d (zb P)),o7]=some [o0,o1,o2,o3,o4,some (.l acc),some (.d (zb P)),some (.d (.list (za l)))]:=rfl
  have step:p_plan_1.ex cf [] [o0,o1,o2,o3,o4,some (.l acc),some (.d (zb P)),some (.d (.list (za l)))]=.ok (.next,[o0,o1,o2,o3,o4,some (.l (acc++qd (.boil::mvs P l))),some (.d (zb P)),some (.d (.list (za l)))]):=by
   have z1:acc.length<1000000:=by omega
   have z2:acc.length+1+(mvs P l).length<=1000000:=by omega
   have hv:(OV.l (qd (mvs P l))).view=.list ((mvs P l).map Mv.D):=by
    have:qd (mvs P l)=((mvs P l).map Mv.D).map OV.d:=by unfold qd;rw[List.map_map];rfl
    rw[this];exact jP _
   have hmo:qd (.boil::mvs P l)=.d (.tuple [.str "boil"])::((mvs P l).map Mv.D).map OV.d:=by unfold qd;rw[xI,List.map_map];rfl
   have hml:((mvs P l).map Mv.D).length=(mvs P l).length:=by simp
   rw[<- hml]at z2
   rw[hmo]
   generalize qd (mvs P l)=MO at *
   generalize (mvs P l).map Mv.D=MM at *
   generalize za l=DD at *
   generalize zb P=B at *
   simp![p_plan_1,e1,hv,z1,z2,zdG,zQ]
  obtain⟨o7',e⟩:=vc cf hs hb hP (o0:=o0) (o1:=o1) (o2:=o2) (o3:=o3) (o4:=o4) L (acc++qd (.boil::mvs P l)) (some (.d (.list (za l)))) (fun l' h'=>hl l' (by simp[h'])) (by
   unfold qd
   rw[xw,xi,xk];omega)
  refine⟨o7',?_⟩
  rw[xI,qb,htg]
  simp only[step]
  rw[e]
  have:acc++qd (List.flatMap (fun ds=>Mv.boil::mvs P ds) (l::L))=acc++qd (.boil::mvs P l)++qd (List.flatMap (fun ds=>Mv.boil::mvs P ds) L):=by
   rw[List.flatMap_cons]
   unfold qd
   simp
  rw[this]
theorem zeg(cf:CF)(hba:zdd cf)(hst:zfa cf)(hs:wQ cf)(hbo:yC cf){pots:Nat}(hp:pots<=12){cs:List Cl}(hb:BoltN pots cs)(hc:cs.length<=60){fr:List Bool}(hfl:fr.length=pots)(hf:WI cs fr) :
    runI 8 [false,false] [] Yy cf [.d (zb cs),.d (zw fr)]=.ok (.l (qd (jz cs (ql cs (zi cs pots))))) [none,none]:=by
  have e1:=hba pots cs fr (by omega) hb.1.2 hfl (by omega)
  rw[zcp hb.2 hf]at e1
  have e2:=hst pots cs hp hb.1 hc
  obtain⟨P,rest,hS,hnow,hne⟩:=Qu hp (zR cs pots) cs
  have hflat:=ZA hp (zR cs pots) cs
  have hlen:=hflat.length_eq
  have hnl:=QQ cs pots
  have hmem:∀ l∈ql cs (zi cs pots),∀ d∈l,d<pots:=fun l hl d hd=>wV (hflat.mem_iff.mp (List.mem_flatten.mpr ⟨l,hl,hd⟩))
  have hll:∀ l∈ql cs (zi cs pots),l.length<=12:=fun l hl=>by have:=ya hl;omega
  rw[hS]at e2 hmem hll hlen |-
  have e3:=hs pots cs P hb.1 hc (hmem P (by simp)) (by have:=hll P (by simp);omega)
  have e4:=hbo cs (by omega)
  have v4:=qF (cs.map zu)
  have hrl:rest.length<=12:=by
    have h1:rest.length<=rest.flatten.length:=by
      clear hS hmem hll hlen e2
      induction rest with
      |nil=>simp
      |cons a l ih=>
        have ha:=hne a (by simp)
        have:=ih (fun x hx=>hne x (by simp[hx]))
        have hap:=uo.mpr ha
        simp only[xk,xH,xw];omega
    simp only[xH,xw]at hlen;omega
  have hm:=Qv P cs
  have hB:=hb.1.mp zu VB
  simp only[xH,xw]at hlen
  obtain⟨o7,e5⟩:=vc cf hs hB (by rw[xi];exact hc) (o0:=some (.d (zb cs))) (o1:=some (.d (zw fr))) (o2:=some (.d (.list []))) (o3:=some (.d (.list (za P)))) (o4:=some (.d (.list (rest.map fun r=>.list (za r))))) rest (qd (mvs cs P)) none (fun l hl=>⟨hmem l (by simp[hl]),by have:=hll l (by simp[hl]);omega⟩) (by
      unfold qd
      rw[xi];omega)
  have hvs:(OV.l (((P::rest).map fun r=>OV.d (.list (za r))))).view=.list (.list (za P)::rest.map fun r=>.list (za r)):=by
    have:((P::rest).map fun r=>OV.d (.list (za r)))=(((P::rest).map fun r=>PyData.list (za r))).map OV.d:=by rw[List.map_map];rfl
    rw[this,jP];rfl
  have hz:(rest.map fun r=>PyData.list (za r)).length<=1000000:=by simp;omega
  have hfin:qd (jz cs (P::rest))=qd (mvs cs P)++qd (rest.flatMap fun ds=>.boil::mvs (cs.map zu) ds):=by
    unfold jz qd
    rw[xV]
  rw[hfin]
  generalize qd (rest.flatMap fun ds=>.boil::mvs (cs.map zu) ds)=M2 at *
  generalize qd (mvs cs P)=M1 at *
  generalize ((cs.map zu).map fun c=>OV.d c.D)=CC at *
  generalize zb (cs.map zu)=B2 at *
  generalize ((P::rest).map fun r=>OV.d (.list (za r)))=SS at *
  generalize (rest.map fun r=>PyData.list (za r))=RR at *
  generalize za P=PP at *
  generalize zb cs=B at *
  generalize zw fr=F at *
  simp only[List.map_nil]at e1
  have v0:(OV.l []).view=.list []:=rfl
  simp![Yy,e1,v0,e2,hvs,e3,e4,v4,e5,hz,k6,zQ]
noncomputable def zbb (cf:CF):Prop:=∀ (pots:Nat) (cs:List Cl) (fr:List Bool),pots<=12->BoltN pots cs->cs.length<=60->fr.length=pots->WI cs fr->cf "plan" [.d (zb cs),.d (zw fr)]=.ok (.l (qd (jz cs (ql cs (zi cs pots))))) [none,none]
end Wx
set_option maxHeartbeats 4000000
namespace Wx
open PySem L2 L3
theorem vx{P1 cs:List Cl}(h:P1.map zu=cs.map zu){c:Cl}(hc:c∈P1):∃ c0∈cs,c.st=c0.st/\c.wi=c0.wi:=by
 have:zu c∈cs.map zu:=by rw[<- h];exact List.mem_map_of_mem hc
 obtain⟨c0,h0,e⟩:=xn.mp this
 exact⟨c0,h0,by have:=congrArg Cl.st e;exact this.symm,by have:=congrArg Cl.wi e;exact this.symm⟩
theorem yM{pots:Nat}{P1 cs:List Cl}(hc:BoltN pots cs)(h:P1.map zu=cs.map zu):BoltN pots P1:=by
 refine⟨⟨?_,fun c hcm=>?_⟩,fun c hcm=>?_⟩
 ·have:=congrArg List.length h
  simp only[xi]at this
  rw[this];exact hc.1.1
 ·obtain⟨c0,h0,e1,e2⟩:=vx h hcm
  rw[e1,e2];exact hc.1.2 c0 h0
 ·obtain⟨c0,h0,e1,e2⟩:=vx h hcm
  unfold ZK
  rw[e1,e2];exact hc.2 c0 h0
theorem JJ:∀ xs ys:List Int,PyData.eqvAll (xs.map .int) (ys.map .int)=decide (xs=ys)
 |[],[]=>rfl
 |[],_::_=>rfl
 |_::_,[]=>rfl
 |x::xs,y::ys=>by
  show (PyData.eqv (.int x) (.int y)&&PyData.eqvAll (xs.map .int) (ys.map .int))=_
  rw[JJ xs ys,zD,xP]
  simp
theorem WT(xs ys:List Int):PyData.eqv (zd xs) (zd ys)=decide (xs=ys):=JJ xs ys
theorem zca(cs:List Cl):zaK cs=true↔∀ c∈cs,c.st=c.wi:=by
 unfold zaK
 rw[List.all_map,xA]
 constructor
 ·intro h c hc
  have:=h c hc
  simpa [WT] using this
 ·intro h c hc
  simp[WT,h c hc]
theorem zcS{xs ys:List Int}(hl:xs.length=ys.length)(h:∀ k,k<xs.length->xs.getD k 0=ys.getD k 0):xs=ys:=by
 apply xU fun k=>?_
 by_cases hk:k<xs.length
 ·have:=h k hk
  rw[List.getD_eq_getElem?_getD,List.getD_eq_getElem?_getD,xb hk,xb (by omega)]at this
  rw[xb hk,xb (by omega)]
  exact congrArg some this
 ·rw[xj (by omega),xj (by omega)]
theorem zaA{pots:Nat}(hp:pots<=12){cs:List Cl}(hb:BoltN pots cs){fr:List Bool}(hfl:fr.length=pots)(hf:WI cs fr) :
  ∃ R',zaK R'=true/\R'.length=cs.length/\Walk pots fr cs [] (jz cs (ql cs (zi cs pots))) R' (ql cs (zi cs pots)).flatten ((ql cs (zi cs pots)).length-1):=by
 obtain⟨P,rest,hS,hnow,hne⟩:=Qu hp (zR cs pots) cs
 have hflat:=ZA hp (zR cs pots) cs
 have hch:=YX hp (zR cs pots) cs
 have hnd:(ql cs (zi cs pots)).flatten.Nodup:=hflat.nodup_iff.mpr (yg cs pots)
 have hmem:∀ d∈(ql cs (zi cs pots)).flatten,d<pots/\fr.getD d false=true:=fun d hd=>by
  have:=hflat.mem_iff.mp hd
  obtain⟨h1,c,hc,hl⟩:=(Jp cs pots d).mp this
  exact⟨h1,hf c hc d hl⟩
 have hin:∀ k,k∈(ql cs (zi cs pots)).flatten↔k∈zi cs pots:=fun k=>hflat.mem_iff
 rw[hS]at hch hnd hmem hin |-
 rw[xH]at hnd hmem hin
 obtain⟨n1,n2,n3⟩:=uk.mp hnd
 have h12:∀ d∈P,d<12:=fun d hd=>by have:=(hmem d (xq _ hd)).1;omega
 obtain⟨hnow1,hnow2⟩:=List.pairwise_cons.mp hnow
 obtain⟨P1,hs1,hw1⟩:=jM hfl P cs [] hb (fun d hd=>⟨(hmem d (xq _ hd)).1,(hmem d (xq _ hd)).2,by simp⟩) n1 (hnow2.imp_of_mem fun {x y} hx _ h=>(((Jw cs _ _).mp h).2.2.2 (by have:=h12 x hx;omega)).1) (fun c hc d hd hl=>((Jw cs _ _).mp (hnow1 d hd)).2.2.1 rfl c hc hl)
 rw[zce,uD]at hw1
 have hbP1:=yM hb hs1
 obtain⟨P2,hs2,hw2⟩:=WP hfl hb rest P1 P hs1 (fun d hd=>⟨(hmem d (xB _ hd)).1,(hmem d (xB _ hd)).2,fun q=>n3 d q d hd rfl⟩) n2 (fun l hl=>hch l (by simp[hl])) (fun d hd=>by have:=(hmem d (xB _ hd)).1;omega) hbP1
 refine⟨P2.map (zB (P++rest.flatten)),?_,?_,?_⟩
 ·rw[zca]
  intro c hc
  obtain⟨c1,h1,rfl⟩:=xn.mp hc
  have hb2:=yM hb hs2
  have ok:=hb2.1.2 c1 h1
  have hsl:(zB (P++rest.flatten) c1).st.length=c1.st.length:=by unfold zB;simp
  refine zcS (by rw[hsl,ok.sl];exact ok.wl.symm) fun k hk=>?_
  rw[QG,if_pos (by omega)]
  show _=c1.wi.getD k 0
  by_cases hkn:(P++rest.flatten).contains k=true
  ·rw[if_pos hkn]
  ·rw[if_neg hkn]
   have hn:=W7 (hb2.2 c1 h1) k
   cases hL:zU c1 k with
   |true=>
    obtain⟨c0,h0,e1,e2⟩:=vx hs2 h1
    have hL0:zU c0 k=true:=by unfold zU at hL |-;rw[<- e1,<- e2];exact hL
    have:k∈zi cs pots:=(Jp cs pots k).mpr ⟨by rw[<- ok.sl];omega,c0,h0,hL0⟩
    exact absurd (xZ.mpr ((hin k).mpr this)) hkn
   |false=>
    rw[hL,if_neg (by decide)]at hn
    omega
 ·rw[xi]
  have:=congrArg List.length hs2
  simpa using this
 ·have:=hw1.app hw2
  rw[ue]at this
  rw[xH]
  exact this
theorem zbL{pots:Nat}(hp:pots<=12)(cs:List Cl):(jz cs (ql cs (zi cs pots))).length<=100:=by
 obtain⟨P,rest,hS,hnow,hne⟩:=Qu hp (zR cs pots) cs
 have hflat:=ZA hp (zR cs pots) cs
 have hln:=QQ cs pots
 have hl:=hflat.length_eq
 rw[hS]at hl |-
 have h1:∀ (L:List (List Nat)),(∀ l∈L,l≠ [])->(L.flatMap fun ds=>Mv.boil::mvs (cs.map zu) ds).length<=3*L.flatten.length:=fun L=>by
  induction L with
  |nil=>intro _;simp
  |cons l L ih=>
   intro h
   have:=ih fun x hx=>h x (by simp[hx])
   have hm:=Qv l (cs.map zu)
   have hq:=uo.mpr (h l (by simp))
   rw[List.flatMap_cons,xw,xk,xH,xw];omega
 have h2:=h1 rest hne
 have h3:=Qv P cs
 unfold jz
 rw[xH,xw]at hl
 rw[xw];omega
end Wx
set_option maxHeartbeats 4000000
namespace Wx
open PySem L2 L3
noncomputable def nearL(st wi:List Int):Prop:=∀ d,st.getD d 0<=wi.getD d 0/\wi.getD d 0<=st.getD d 0+1/\st.getD d 0<=8
theorem vp(xs:List Int)(a:Int)(d:Nat):(xs++ [a]).getD d 0=if d<xs.length then xs.getD d 0 else if d=xs.length then a else 0:=by
 rw[List.getD_eq_getElem?_getD,List.getD_eq_getElem?_getD]
 by_cases h:d<xs.length
 ·rw[if_pos h,xf h]
 ·rw[if_neg h,xg (by omega)]
  by_cases h2:d=xs.length
  ·subst h2;simp
  ·rw[if_neg h2]
   have:d-xs.length=(d-xs.length-1)+1:=by omega
   rw[this];rfl
theorem nearL.snoc{st wi:List Int}(h:nearL st wi)(hl:st.length=wi.length){a b:Int}(h1:a<=b)(h2:b<=a+1)(h3:a<=8):nearL (st++ [a]) (wi++ [b]):=fun d=>by
 rw[vp,vp,<- hl]
 by_cases hd:d<st.length
 ·rw[if_pos hd,if_pos hd];exact h d
 ·rw[if_neg hd,if_neg hd]
  by_cases h':d=st.length
  ·rw[if_pos h',if_pos h'];exact⟨h1,h2,h3⟩
  ·rw[if_neg h',if_neg h'];omega
theorem Y4(cf:CF)(ht:j2 cf){b:OV}(hb:zH b)(bs:List Bool)(hl:bs.length<=1000){wet:Int} :
  ∃ (st wi:List Int) (b':OV) (o6 o7:Option OV),jv bs.length st wi/\nearL st wi/\zH b'/\qb (.nm 6 6) (b_law_cell_1.ex cf [0]) (bs.map .bool) [some b,some (.d (zL bs)),some (.d (.int 0)),some (.d (.int wet)),some (.l []),some (.l []),none,none]
   = .ok (.next,[some b',some (.d (zL bs)),some (.d (.int 0)),some (.d (.int wet)),some (.l (st.map fun x=>.d (.int x))),some (.l (wi.map fun x=>.d (.int x))),o6,o7]):=by
 obtain⟨Γ',e,⟨st,wi,b',o6,o7,hc,hn,hb',rfl⟩⟩:=qC (t:=.nm 6 6) (body:=b_law_cell_1.ex cf [0]) (ds:=bs.map .bool) (Γ:= [some b,some (.d (zL bs)),some (.d (.int 0)),some (.d (.int wet)),some (.l []),some (.l []),none,none])
  (fun pre Γ=>∃ (st wi:List Int) (b':OV) (o6 o7:Option OV),jv pre.length st wi/\nearL st wi/\zH b'/\Γ= [some b',some (.d (zL bs)),some (.d (.int 0)),some (.d (.int wet)),some (.l (st.map fun x=>.d (.int x))),some (.l (wi.map fun x=>.d (.int x))),o6,o7]) ⟨[],[],b,_,_,⟨rfl,rfl,(fun _ h=>nomatch h),(fun _ h=>nomatch h)⟩,(fun d=>by simp),hb,rfl⟩ (by
   rintro pre d post e Γ ⟨st,wi,b1,o6,o7,hc,hn,hb1,rfl⟩
   have hlt:=Zv e
   rw[xi]at hlt
   obtain⟨x,-,rfl⟩:∃ x∈bs,PyData.bool x=d:=by
    have:d∈bs.map PyData.bool:=by rw[e];simp
    exact xn.mp this
   have hz1:st.length<1000000:=by have:=hc.sl;omega
   have hz2:wi.length<1000000:=by have:=hc.wl;omega
   obtain⟨r2,b2,h2,h2',hb2,e2⟩:=ht b1 hb1 9 (by decide) (by decide)
   have hw:r2<=r2+(if x then 1 else 0)/\r2+(if x then 1 else 0)<=r2+1:=by split<;>omega
   have ek:b_law_cell_1.ex cf [0] [some b1,some (.d (zL bs)),some (.d (.int 0)),some (.d (.int wet)),some (.l (st.map fun x=>.d (.int x))),some (.l (wi.map fun x=>.d (.int x))),some (.d (.bool x)),o7]
     = .ok (.next,[some b2,some (.d (zL bs)),some (.d (.int 0)),some (.d (.int wet)),some (.l ((st++ [r2]).map fun x=>.d (.int x))),some (.l ((wi++ [r2+(if x then 1 else 0)]).map fun x=>.d (.int x))),some (.d (.bool x)),some (.d (.int r2))]):=by
    simp![b_law_cell_1,e2,hz1,hz2,lay,PyData.eqv,OV.view,OV.views,zx,ixN,atI]
   exact⟨_,_,by simp[tgF],ek,st++ [r2],wi++ [r2+(if x then 1 else 0)],b2,_,_,⟨by simp[hc.sl],by simp[hc.wl],hc.sn.snoc h2 (by omega),hc.wn.snoc (by omega) (by omega)⟩,hn.snoc (by rw[hc.sl,hc.wl]) hw.1 hw.2 (by omega),hb2,rfl⟩)
 rw[xi]at hc
 exact⟨st,wi,b',o6,o7,hc,hn,hb',e⟩
noncomputable def kZ(pots:Nat)(x:RF):Prop:=∃ (st wi:List Int) (w:Bool) (b':OV),jv pots st wi/\nearL st wi/\zH b'/\x=.ok (.d (qt st w wi)) [some b',none,none,none]
theorem zcq(cf:CF)(ht:j2 cf){b:OV}(hb:zH b)(bs:List Bool)(hl:bs.length<=1000){wet:Int}:kZ bs.length (runI 8 [true,false,false,false] [0] jO cf [b,.d (zL bs),.d (.int 0),.d (.int wet)]):=by
 obtain⟨st,wi,b1,o6,o7,hc,hn,hb1,e1⟩:=Y4 cf ht hb bs hl (wet:=wet)
 have hz1:st.length<=1000000:=by have:=hc.sl;omega
 have hz2:wi.length<=1000000:=by have:=hc.wl;omega
 by_cases hw:0<wet
 ·obtain⟨r2,b2,h2,h2',hb2,e2⟩:=ht b1 hb1 5 (by decide) (by decide)
  refine⟨st,wi,decide (r2<wet),b2,hc,hn,hb2,?_⟩
  simp![jO,zL,OV.view,OV.views,zx,ixN,atI]
  simp only[zL]at e1
  simp![e1,e2,hw,hz1,hz2,JB,qt,zd,OV.view,OV.views,zx,ixN,atI]
 ·refine⟨st,wi,false,b1,hc,hn,hb1,?_⟩
  simp![jO,zL,OV.view,OV.views,zx,ixN,atI]
  simp only[zL]at e1
  simp![e1,hw,hz1,hz2,JB,qt,zd,OV.view,OV.views,zx,ixN,atI]
noncomputable def Kc (cf:CF):Prop:=∀ b,zH b->∀ (bs:List Bool) (wet:Int),bs.length<=1000->kZ bs.length (cf "_law_cell" [b,.d (zL bs),.d (.int 0),.d (.int wet)])
noncomputable def kL(pots size:Nat)(x:RF):Prop:=∃ (cs:List Cl) (b':OV),cs.length=size/\(∀ c∈cs,jv pots c.st c.wi/\ZK c)/\zH b'/\x=.ok (.l (cs.map fun c=>.d c.D)) [some b',none,none,none]
theorem za3(cf:CF)(ht:j2 cf)(hlk:kv cf)(hce:Kc cf){b:OV}(hb:zH b){pots size:Nat}(hp:pots<=1000)(hs:size<=1000) :
  kL pots size (runI 6 [true,false,false,false] [0] ZX cf [b,.d (.int pots),.d (.int size),.d (.int 0)]):=by
 obtain⟨wet,b1,g1,g1',hb1,e1⟩:=ht b hb 4 (by decide) (by decide)
 obtain⟨rows,b2,hl,hr,hb2,e2⟩:=hlk b1 hb1 pots size hp hs
 obtain⟨ys,Γ',e3,⟨cs,b3,hcl,hck,hb3,rfl,rfl⟩⟩:=qi (k:=1) (t:=.nm 0 6) (cond:=fYes) (elt:=(b_law_bolt_1.ev cf).1) (ds:=rows.map zL) (Γ:= [some b2,some (.d (.int pots)),some (.d (.int size)),some (.d (.int 0)),some (.d (.int wet)),some (.d (.list (rows.map zL)))])
  (fun pre ys Γ=>∃ (cs:List Cl) (b':OV),cs.length=pre.length/\(∀ c∈cs,jv pots c.st c.wi/\ZK c)/\zH b'/\ys=cs.map Cl.D/\Γ= [some b',some (.d (.int pots)),some (.d (.int size)),some (.d (.int 0)),some (.d (.int wet)),some (.d (.list (rows.map zL)))]) ⟨[],b2,rfl,(fun _ h=>nomatch h),hb2,rfl,rfl⟩ (by
   rintro pre d post e ys Γ ⟨cs,b3,hcl,hck,hb3,rfl,rfl⟩
   obtain⟨r,hrm,rfl⟩:∃ r∈rows,zL r=d:=by
    have:d∈rows.map zL:=by rw[e];simp
    exact xn.mp this
   have hrl:=hr r hrm
   obtain⟨st,wi,w,b4,hc,hn,hb4,e4⟩:=hce b3 hb3 r wet (by omega)
   rw[hrl]at hc
   refine⟨_,true,_,by simp[tgF];rfl,rfl,fun _=>?_,fun z=>nomatch z⟩
   refine⟨.dat (qt st w wi),[some b4,some (.d (.int pots)),some (.d (.int size)),some (.d (.int 0)),some (.d (.int wet)),some (.d (.list (rows.map zL))),some (.d (zL r))],qt st w wi,?_,rfl,cs++ [⟨st,w,wi⟩],b4,by simp[hcl],?_,hb4,by simp[Cl.D],by simp⟩
   ·simp![b_law_bolt_1,e4,OV.view,OV.views,zx,ixN,atI]
   ·intro c h
    rcases xJ.mp h with h | h
    ·exact hck c h
    ·have:c=⟨st,w,wi⟩:=by simpa using h
     subst this;exact⟨hc,fun d=>by have:=hn d;exact⟨this.1,this.2.1,by show wi.getD d 0<=9;omega⟩⟩)
 rw[xi]at hcl
 refine⟨cs,b3,by omega,hck,hb3,?_⟩
 have hz:rows.length<=1000000:=by omega
 have hv:OV.views (rows.map fun r=>.d (zL r))=rows.map zL:=by rw[OV.views_map,List.map_map];rfl
 simp![ZX,e1,e2,hv,hz,OV.view,OV.views,zx,ixN,atI]
 rw[e3]
 simp[outs]
noncomputable def kS (cf:CF):Prop:=∀ b,zH b->∀ (pots size:Nat),pots<=1000->size<=1000->kL pots size (cf "_law_bolt" [b,.d (.int pots),.d (.int size),.d (.int 0)])
theorem zcn(cf:CF)(hs:Kk cf)(hbo:kS cf){b:OV}(hb:zH b) :
  ∃ (pots:Nat) (cs:List Cl) (b':OV),pots<=12/\cs.length<=40/\BoltN pots cs/\zH b'/\runI 4 [true,false] [0] Z4 cf [b,.d (.int 0)]=.ok (.d (.tuple [.int pots,zb cs])) [some b',none]:=by
 obtain⟨p,n,b1,hp0,hp1,hn0,hn1,hb1,e1⟩:=hs b hb
 obtain⟨pots,rfl⟩:∃ k:Nat,p=k:=⟨p.toNat,by omega⟩
 obtain⟨size,rfl⟩:∃ k:Nat,n=k:=⟨n.toNat,by omega⟩
 obtain⟨cs,b2,hcl,hck,hb2,e2⟩:=hbo b1 hb1 pots size (by omega) (by omega)
 refine⟨pots,cs,b2,by omega,by omega,⟨⟨by omega,fun c hc=>(hck c hc).1⟩,fun c hc=>(hck c hc).2⟩,hb2,?_⟩
 have hvc:=qF cs
 simp![Z4,e1,e2,hvc,zQ]
noncomputable def ky (cf:CF):Prop:=∀ b,zH b->∃ (pots:Nat) (cs:List Cl) (b':OV),pots<=12/\cs.length<=40/\BoltN pots cs/\zH b'/\cf "_law_draw" [b,.d (.int 0)]=.ok (.d (.tuple [.int pots,zb cs])) [some b',none]
theorem YD(xs:List Bool)(a:Bool)(d:Nat)(h:d<xs.length):(xs++ [a]).getD d false=xs.getD d false:=by
 rw[List.getD_eq_getElem?_getD,List.getD_eq_getElem?_getD,xf h]
theorem zex (cf:CF) (ht:j2 cf) (hlk:qE "_law_lack" cf){b:OV}(hb:zH b){pots:Nat}(hp:pots<=1000){cs:List Cl}(hB:Bolt pots cs) :
  ∃ (fr:List Bool) (b':OV),fr.length=pots/\WI cs fr/\zH b'/\runI 3 [true,false,false] [0] Z9 cf [b,.d (zb cs),.d (.int pots)]=.ok (.l ((fr.map .bool).map .d)) [some b',none,none]:=by
 obtain⟨ys,Γ',e3,⟨fr,b3,hfl,hfr,hb3,rfl,rfl⟩⟩:=qi (k:=1) (t:=.nm 0 3) (cond:=fYes) (elt:=(b_law_pans_1.ev cf).1) (ds:=zq pots) (Γ:= [some b,some (.d (zb cs)),some (.d (.int pots))])
  (fun pre ys Γ=>∃ (fr:List Bool) (b':OV),fr.length=pre.length/\(∀ d,d<pre.length->zc cs d≠ []->fr.getD d false=true)/\zH b'/\ys=fr.map .bool/\Γ= [some b',some (.d (zb cs)),some (.d (.int pots))]) ⟨[],b,rfl,(fun _ h=>nomatch h),hb,rfl,rfl⟩ (by
   rintro pre x post e ys Γ ⟨fr,b3,hfl,hfr,hb3,rfl,rfl⟩
   obtain⟨rfl,hlt⟩:=jH e
   have e1:=hlk pots cs hB pre.length hlt
   have v1:=zn (zc cs pre.length)
   have hnl:=zt (zc cs pre.length)
   have hle:=QT cs pre.length
   have hcl:=hB.1
   have hz:(za (zc cs pre.length)).length<=1000000:=by rw[hnl];omega
   have hnext:∀ a:Bool,(zc cs pre.length≠ []->a=true)->∀ d,d<pre.length+1->zc cs d≠ []->(fr++ [a]).getD d false=true:=fun a ha d hd hd2=>by
    by_cases h:d<pre.length
    ·rw[YD _ _ _ (by omega)];exact hfr d h hd2
    ·have:d=pre.length:=by omega
     subst this
     rw[List.getD_eq_getElem?_getD,xg (by omega),hfl]
     simp[ha hd2]
   by_cases hL:zc cs pre.length= []
   ·obtain⟨r2,b2,h2,h2',hb2,e2⟩:=ht b3 hb3 2 (by decide) (by decide)
    rw[hL]at e1
    refine⟨[some b3,some (.d (zb cs)),some (.d (.int pots)),some (.d (.int (pre.length:Nat)))],true,_,rfl,rfl,fun _=>⟨.dat (.bool (r2==0)),[some b2,some (.d (zb cs)),some (.d (.int pots)),some (.d (.int (pre.length:Nat)))],.bool (r2==0),?_,rfl,fr++ [r2==0],b2,by simp[hfl],?_,hb2,by simp,rfl⟩,fun h=>nomatch h⟩
    ·have v0:(zh []).view=.list []:=rfl
     generalize zb cs=B at *
     generalize zh []=N0 at *
     simp![b_law_pans_1,e1,e2,v0,zl,zD,zQ]
    ·rw[xw]
     exact hnext _ fun h=>absurd hL h
   ·refine⟨[some b3,some (.d (zb cs)),some (.d (.int pots)),some (.d (.int (pre.length:Nat)))],true,_,rfl,rfl,fun _=>⟨.dat (.bool true),[some b3,some (.d (zb cs)),some (.d (.int pots)),some (.d (.int (pre.length:Nat)))],.bool true,?_,rfl,fr++ [true],b3,by simp[hfl],?_,hb3,by simp,rfl⟩,fun h=>nomatch h⟩
    ·have hgt:(0:Int)<((za (zc cs pre.length)).length:Int):=by
      have:=uo.mpr hL
      rw[hnl];omega
     have hgt2:0<(za (zc cs pre.length)).length:=by omega
     have hne2:za (zc cs pre.length)≠ []:=uo.mp hgt2
     generalize zb cs=B at *
     generalize zh (zc cs pre.length)=N0 at *
     generalize za (zc cs pre.length)=N1 at *
     simp![b_law_pans_1,e1,v1,hgt2,hgt,hz,zQ]
    ·rw[xw]
     exact hnext _ fun _=>rfl)
 rw[zk]at hfl hfr
 refine⟨fr,b3,hfl,fun c hc d hl=>?_,hb3,?_⟩
 ·have ok:=hB.2 c hc
  have hd:d<pots:=by
   rcases uZ d pots with h | h
   ·exact h
   ·unfold zU at hl
    rw[List.getD_eq_getElem?_getD,List.getD_eq_getElem?_getD,xj (by rw[ok.sl];exact h),xj (by rw[ok.wl];exact h)]at hl
    simp at hl
  refine hfr d hd fun h0=>?_
  obtain⟨i,hi,rfl⟩:=uh hc
  have:i∈zc cs d:=(qv cs d i).mpr ⟨cs[i],xb hi,hl⟩
  rw[h0]at this;cases this
 ·have hz: -1000000<=(pots:Int)/\(pots:Int)<=1000000:=by omega
  have hz2:pots<=1000000:=by omega
  generalize zb cs=B at *
  generalize fr.map PyData.bool=FF0 at *
  simp![Z9,e3,hz,hz2,zk]
noncomputable def zcM (cf:CF):Prop:=∀ b,zH b->∀ (pots:Nat) (cs:List Cl),pots<=1000->Bolt pots cs->∃ (fr:List Bool) (b':OV),fr.length=pots/\WI cs fr/\zH b'/\cf "_law_pans" [b,.d (zb cs),.d (.int pots)]=.ok (.l ((fr.map .bool).map .d)) [some b',none,none]
noncomputable def zcx (cf:CF):Prop:=∀ cs:List Cl,cs.length<=1000->cf "_law_met" [.d (zb cs)]=.ok (.d (.bool (zaK cs))) [none]
end Wx
set_option maxHeartbeats 4000000
namespace Wx
open PySem L2 L3
theorem YB(cf:CF)(hwh:wv cf){pots:Nat}{Rw:List Cl}(hb:Bolt pots Rw){k:List Nat}(h0:k≠ [])(h1:k.Pairwise (·<·))(h2:∀ i∈k,∃ c,Rw[i]?=some c/\c.w=false)(hl:k.length<=60) :
  runI 3 [false,false] [] jh cf [.d (Mv.wax k).D,.d (zb Rw)]=.ok (.d (.bool true)) [none,none]:=by
 have e:=zC (k:=1) (t:=.nm 0 3) (cond:=fYes) (elt:=(b_law_wax_good_1.ev cf).1) (ds:=za k) (Γ:= [some (.d (Mv.wax k).D),some (.d (zb Rw)),some (.d (.list (za k)))]) (fun _=>true) (fun _=>.bool true) (by
  intro x hx
  obtain⟨i,hi,rfl⟩:=xn.mp hx
  obtain⟨c,hc,hw⟩:=h2 i hi
  have hlt:i<Rw.length:=by
   rcases uZ i Rw.length with h | h
   ·exact h
   ·rw[xj h]at hc;cases hc
  have a1:atI (Rw.map Cl.D) (i:Int)=some c.D:=qO (by rw[xh,hc];rfl)
  have hcd:c.D=.tuple [zd c.st,.bool c.w,zd c.wi]:=rfl
  rw[hcd,hw]at a1
  have b1:atI [zd c.st,PyData.bool false,zd c.wi] 1=some (.bool false):=rfl
  have hml:(Rw.map Cl.D).length=Rw.length:=by simp
  refine⟨[some (.d (Mv.wax k).D),some (.d (zb Rw)),some (.d (.list (za k))),some (.d (.int (i:Int)))],_,rfl,rfl,by simp,fun _=>⟨.dat (.bool true),[some (.d (Mv.wax k).D),some (.d (zb Rw)),some (.d (.list (za k))),some (.d (.int (i:Int)))],?_,rfl,by simp⟩⟩
  unfold zb
  generalize (Mv.wax k).D=M at *
  generalize za k=K at *
  generalize Rw.map Cl.D=Y at *
  generalize zd c.st=A at *
  generalize zd c.wi=B at *
  have q1:(0:Int)<=(i:Int):=by omega
  simp![b_law_wax_good_1,hml,hlt,q1,a1,b1])
 rw[zT]at e
 have ew:=hwh k (by omega)
 have aa:=zgU (ds:=za k)
 have hin:=qG k
 have hso:=Z0 k
 rw[V5 (List.Perm.refl k) (h1.imp fun h=>uq h)]at hso
 have hnd2:=jV k
 have hy:lay 20 (.list (za k))=true:=jc 19 _
 have hq:=JV hy
 have hdl:(Tab.dedup (k.map fun (i:Nat)=>(i:Int))).length=k.length:=by
  have:=yS (y0 h1)
  unfold iz at this
  rw[this,xi]
 have hne:((k.length:Int)==0)=false:=by
  rw[beq_eq_false_iff_ne]
  have:=uo.mpr h0;omega
 have hnl:=zt k
 have z1:k.length<=1000000:=by omega
 have z2:k.length<64:=by omega
 have a1:atI [PyData.str "wax",PyData.tuple (za k)] 1=some (.tuple (za k)):=rfl
 have hM:(Mv.wax k).D=.tuple [.str "wax",.tuple (za k)]:=rfl
 rw[hM]at e |-
 generalize zb Rw=B at *
 generalize za k=K at *
 have hn0:k.length≠0:=by have:=uo.mpr h0;omega
 have hsq:∀ Γ,zx Γ (.dat (.tuple K))=some K:=fun _=>rfl
 have hsq2:∀ Γ,zx Γ (.dat (.list K))=some K:=fun _=>rfl
 simp only[jh]
 simp![a1,hnl,hsq,hsq2,ew,aa,e,hin,hso,hnd2,hy,hq,hdl,hne,hl,z1,z2,wS,VI,zl,zD,zQ]
noncomputable def W3 (cf:CF):Prop:=∀ (pots:Nat) (Rw:List Cl) (k:List Nat),Bolt pots Rw->k≠ []->k.Pairwise (·<·)->(∀ i∈k,∃ c,Rw[i]?=some c/\c.w=false)->k.length<=60->cf "_law_wax_good" [.d (Mv.wax k).D,.d (zb Rw)]=.ok (.d (.bool true)) [none,none]
theorem Yl(cf:CF)(hw:vG cf)(hfu:kM cf){pots:Nat}{Rw:List Cl}(hb:Bolt pots Rw){fr:List Bool}(hfl:fr.length=pots)(hp:pots<=1000){d:Nat}{dn:List Nat}(h1:d<pots)(h2:fr.getD d false=true)(h3:d∉dn)(h4:Rw.any (qH d)=false) :
  runI 4 [false,false,false,false] [] jb cf [.d (Mv.dip d).D,.d (zb Rw),.d (zw fr),.d (.list (za dn))]=.ok (.d (.bool true)) [none,none,none,none]:=by
 have e1:=hw (d:Int)
 have e2:=hfu.1 pots Rw d hb h1
 rw[h4]at e2
 have a1:atI [PyData.str "dip",PyData.int (d:Int)] 1=some (.int (d:Int)):=rfl
 have a2:=yj (xs:=fr) (d:=d) (by omega)
 rw[h2]at a2
 have hin:=jZ dn d
 have hc:dn.contains d=false:=by rw[<- Bool.not_eq_true,xZ];exact h3
 rw[hc]at hin
 have hal:=jR dn
 have hM:(Mv.dip d).D=.tuple [.str "dip",.int (d:Int)]:=rfl
 have hml:(fr.map PyData.bool).length=fr.length:=by simp
 have q1:¬ ((d:Int)<0):=by omega
 have q2:¬ (fr.length<=d):=by omega
 have q3:¬ ((fr.length:Int)<=(d:Int)):=by omega
 rw[hM]
 unfold zw
 generalize zb Rw=B at *
 generalize za dn=N at *
 generalize fr.map PyData.bool=F at *
 simp only[jb]
 have hal2:∀ x∈N,lay 20 x=true:=fun x hx=>xA.mp hal x hx
 simp![a1,e1,a2,e2,hin,hal,hal2,hml,q1,q2,q3,zl,zD,zQ]
noncomputable def WM (cf:CF):Prop:=∀ (pots:Nat) (Rw:List Cl) (fr:List Bool) (d:Nat) (dn:List Nat),Bolt pots Rw->fr.length=pots->pots<=1000->d<pots->fr.getD d false=true->d∉dn->Rw.any (qH d)=false->cf "_law_dip_good" [.d (Mv.dip d).D,.d (zb Rw),.d (zw fr),.d (.list (za dn))]=.ok (.d (.bool true)) [none,none,none,none]
structure ze8(cf:CF):Prop where
 wg:W3 cf
 dg:WM cf
 lw:zc2 cf
 ld:zcB cf
 lb:kC cf
theorem zcX(xs:List Int)(cs:List Cl):(jX xs cs).length=cs.length:=by
 rcases uQ (jX xs cs).length cs.length with h | h | h
 ·have:=J4 xs cs (jX xs cs).length
  rw[xj (xm _),xb h]at this;cases this
 ·exact h
 ·have:=J4 xs cs cs.length
  rw[xb h,xj (xm _)]at this;cases this
theorem zag(cf:CF)(h:ze8 cf){pots:Nat}(hp:pots<=1000){fr:List Bool}(hfl:fr.length=pots){o2:Option OV}{Rw Rw2:List Cl}{dn d':List Nat}{ms:List Mv}{b:Nat}(w:Walk pots fr Rw dn ms Rw2 d' b):∀ (b0:Int) (o5:Option OV),Rw.length<=60->dn.length+ms.length<=1000 ->
  ∃ o5',qb (.nm 5 5) (b_law_walk_1.ex cf []) (ms.map Mv.D) [some (.d (zb Rw)),some (.d (zw fr)),o2,some (zh dn),some (.d (.int b0)),o5]=.ok (.next,[some (.d (zb Rw2)),some (.d (zw fr)),o2,some (zh d'),some (.d (.int (b0+b))),o5']):=by
 induction w with
 |nil=>exact fun b0 o5 _ _=>⟨o5,by simp[qb]⟩
 | @wax Rw dn k ms Rw2 d' b hb h1 h2 h3 w ih=>
  intro b0 o5 hR hz
  simp only[xk]at hz
  have hkl:k.length<=60:=by
   have:=Ku.nodup_len (l:=k) (T:=List.range Rw.length) (h2.imp fun h=>xu h) fun i hi=>by
    obtain⟨c,hc,_⟩:=h3 i hi
    rw[xE]
    rcases uZ i Rw.length with h | h
    ·exact h
    ·rw[xj h]at hc;cases hc
   rw[xK]at this;omega
  obtain⟨o5',e⟩:=ih b0 (some (.d (Mv.wax k).D)) (by rw[zcX];exact hR) (by omega)
  refine⟨o5',?_⟩
  have e1:=h.wg pots Rw k hb h1 h2 h3 hkl
  have e2:=h.lw Rw (iz k) (by omega)
  rw[<- ze1]at e2
  have v2:=qF (jX (iz k) Rw)
  have htg:tgF (.nm 5 5) (Mv.wax k).D [some (.d (zb Rw)),some (.d (zw fr)),o2,some (zh dn),some (.d (.int b0)),o5]=some [some (.d (zb Rw)),some (.d (zw fr)),o2,some (zh dn),some (.d (.int b0)),some (.d (Mv.wax k).D)]:=rfl
  have step:b_law_walk_1.ex cf [] [some (.d (zb Rw)),some (.d (zw fr)),o2,some (zh dn),some (.d (.int b0)),some (.d (Mv.wax k).D)]=.ok (.next,[some (.d (zb (jX (iz k) Rw))),some (.d (zw fr)),o2,some (zh dn),some (.d (.int b0)),some (.d (Mv.wax k).D)]):=by
   have hM:(Mv.wax k).D=.tuple [.str "wax",.tuple (za k)]:=rfl
   rw[hM]at e1 |-
   have a0:atI [PyData.str "wax",PyData.tuple (za k)] 0=some (.str "wax"):=rfl
   have a1:atI [PyData.str "wax",PyData.tuple (za k)] 1=some (.tuple (za k)):=rfl
   have hq:PyData.eqv (.str "wax") (.str "wax")=true:=by decide +kernel
   have hy:lay 20 (.str "wax")=true:=by decide +kernel
   generalize ((jX (iz k) Rw).map fun c=>OV.d c.D)=CC at *
   generalize zb (jX (iz k) Rw)=B2 at *
   generalize zb Rw=B at *
   generalize zw fr=F at *
   generalize zh dn=N at *
   generalize za k=K at *
   simp![b_law_walk_1,a0,a1,hq,hy,e1,e2,v2,zl,zD,zQ]
  rw[xI,qb,htg]
  simp only[step]
  exact e
 | @dip Rw dn d ms Rw2 d' b hb h1 h2 h3 h4 w ih=>
  intro b0 o5 hR hz
  simp only[xk]at hz
  obtain⟨o5',e⟩:=ih b0 (some (.d (Mv.dip d).D)) (by rw[xi];exact hR) (by simp;omega)
  refine⟨o5',?_⟩
  have e1:=h.dg pots Rw fr d dn hb hfl hp (by omega) h2 h3 h4
  have e2:=h.ld.1 pots Rw d hp hb
  have v2:=qF (Rw.map (jy d))
  have htg:tgF (.nm 5 5) (Mv.dip d).D [some (.d (zb Rw)),some (.d (zw fr)),o2,some (zh dn),some (.d (.int b0)),o5]=some [some (.d (zb Rw)),some (.d (zw fr)),o2,some (zh dn),some (.d (.int b0)),some (.d (Mv.dip d).D)]:=rfl
  have step:b_law_walk_1.ex cf [] [some (.d (zb Rw)),some (.d (zw fr)),o2,some (zh dn),some (.d (.int b0)),some (.d (Mv.dip d).D)]=.ok (.next,[some (.d (zb (Rw.map (jy d)))),some (.d (zw fr)),o2,some (zh (dn++ [d])),some (.d (.int b0)),some (.d (Mv.dip d).D)]):=by
   have hM:(Mv.dip d).D=.tuple [.str "dip",.int (d:Int)]:=rfl
   rw[hM]at e1 |-
   have a0:atI [PyData.str "dip",PyData.int (d:Int)] 0=some (.str "dip"):=rfl
   have a1:atI [PyData.str "dip",PyData.int (d:Int)] 1=some (.int (d:Int)):=rfl
   have hq:PyData.eqv (.str "dip") (.str "dip")=true:=by decide +kernel
   have hq2:PyData.eqv (.str "dip") (.str "wax")=false:=by decide +kernel
   have hy:lay 20 (.str "dip")=true:=by decide +kernel
   have hy2:lay 20 (.str "wax")=true:=by decide +kernel
   have v3:(OV.l (dn.map fun (i:Nat)=>OV.d (.int (i:Int)))).view=.list (za dn):=zn dn
   have hn2:zh (dn++ [d])=.l ((dn.map fun (i:Nat)=>OV.d (.int (i:Int)))++ [.d (.int (d:Int))]):=by unfold zh;rw[xV];rfl
   rw[hn2]
   have hzl:(dn.map fun (i:Nat)=>OV.d (.int (i:Int))).length<1000000:=by rw[xi];omega
   unfold zh
   generalize (dn.map fun (i:Nat)=>OV.d (.int (i:Int)))=NO at *
   generalize ((Rw.map (jy d)).map fun c=>OV.d c.D)=CC at *
   generalize zb (Rw.map (jy d))=B2 at *
   generalize zb Rw=B at *
   generalize zw fr=F at *
   generalize za dn=N at *
   simp![b_law_walk_1,a0,a1,hq,hq2,hy,hy2,e1,e2,v2,v3,hzl,zl,zD,zQ]
  rw[xI,qb,htg]
  simp only[step]
  exact e
 | @boil Rw dn ms Rw2 d' b hb w ih=>
  intro b0 o5 hR hz
  simp only[xk]at hz
  obtain⟨o5',e⟩:=ih (b0+1) (some (.d Mv.boil.D)) (by rw[xi];exact hR) (by omega)
  refine⟨o5',?_⟩
  have e2:cf "_law_boil" [.d (zb Rw)]=.ok (.l ((Rw.map zu).map fun c=>.d c.D)) [none]:=h.lb pots Rw hb
  have v2:=qF (Rw.map zu)
  have htg:tgF (.nm 5 5) Mv.boil.D [some (.d (zb Rw)),some (.d (zw fr)),o2,some (zh dn),some (.d (.int b0)),o5]=some [some (.d (zb Rw)),some (.d (zw fr)),o2,some (zh dn),some (.d (.int b0)),some (.d Mv.boil.D)]:=rfl
  have step:b_law_walk_1.ex cf [] [some (.d (zb Rw)),some (.d (zw fr)),o2,some (zh dn),some (.d (.int b0)),some (.d Mv.boil.D)]=.ok (.next,[some (.d (zb (Rw.map zu))),some (.d (zw fr)),o2,some (zh dn),some (.d (.int (b0+1))),some (.d Mv.boil.D)]):=by
   have hM:Mv.boil.D=.tuple [.str "boil"]:=rfl
   rw[hM]
   have a0:atI [PyData.str "boil"] 0=some (.str "boil"):=rfl
   have hq:PyData.eqv (.str "boil") (.str "wax")=false:=by decide +kernel
   have hq2:PyData.eqv (.str "boil") (.str "dip")=false:=by decide +kernel
   have hq3:PyData.eqv (.tuple [.str "boil"]) (.tuple [.str "boil"])=true:=by decide +kernel
   have hy:lay 20 (.str "dip")=true:=by decide +kernel
   have hy2:lay 20 (.str "wax")=true:=by decide +kernel
   have hy3:lay 20 (.str "boil")=true:=by decide +kernel
   have hy4:lay 20 (.tuple [.str "boil"])=true:=by decide +kernel
   generalize ((Rw.map zu).map fun c=>OV.d c.D)=CC at *
   generalize zb (Rw.map zu)=B2 at *
   generalize zb Rw=B at *
   generalize zw fr=F at *
   generalize zh dn=N at *
   simp![b_law_walk_1,a0,hq,hq2,hq3,hy,hy2,hy3,hy4,e2,v2,zl,zD,zQ]
  rw[xI,qb,htg]
  simp only[step]
  have hb1:b0+((b+1:Nat):Int)=b0+1+(b:Int):=by omega
  rw[hb1]
  exact e
theorem zeE(cf:CF)(h:ze8 cf){pots:Nat}(hp:pots<=1000){fr:List Bool}(hfl:fr.length=pots){Rw Rw2:List Cl}{d':List Nat}{ms:List Mv}{b:Nat}(w:Walk pots fr Rw [] ms Rw2 d' b)(hR:Rw.length<=60)(hl:ms.length<=1000) :
  runI 6 [false,false,false] [] Z7 cf [.d (zb Rw),.d (zw fr),.d (.list (ms.map Mv.D))]=.ok (.d (.tuple [zb Rw2,.list (za d'),.int (b:Int)])) [none,none,none]:=by
 obtain⟨o5,e⟩:=zag cf h hp hfl (o2:=some (.d (.list (ms.map Mv.D)))) w 0 none hR (by simpa using hl)
 have hz:(ms.map Mv.D).length<=1000000:=by simp;omega
 have v:=zn d'
 have h0:zh ([]:List Nat)=.l []:=rfl
 rw[h0]at e
 rw[Int.zero_add]at e
 generalize zb Rw2=B2 at *
 generalize zb Rw=B at *
 generalize zw fr=F at *
 generalize ms.map Mv.D=M at *
 unfold zh at *
 generalize (d'.map fun (i:Nat)=>OV.d (.int (i:Int)))=NO at *
 generalize za d'=N at *
 simp![Z7,e,hz,v,zQ]
noncomputable def zcN (cf:CF):Prop:=∀ (pots:Nat) (fr:List Bool) (Rw Rw2:List Cl) (d':List Nat) (ms:List Mv) (b:Nat),pots<=1000->fr.length=pots->Walk pots fr Rw [] ms Rw2 d' b->Rw.length<=60->ms.length<=1000->cf "_law_walk" [.d (zb Rw),.d (zw fr),.d (.list (ms.map Mv.D))]=.ok (.d (.tuple [zb Rw2,.list (za d'),.int (b:Int)])) [none,none,none]
end Wx
set_option maxHeartbeats 4000000
namespace Wx
open PySem L2 L3 Ku
noncomputable def clB(cs:List Cl)(a b:Nat):Bool:= !(a==b)&&(!ub cs a b&& !ub cs b a)
theorem zcR(cf:CF)(hu:kG cf){pots:Nat}(hp:pots<=12){cs:List Cl}(hb:Bolt pots cs){a b:Nat}(ha:Mem pots a)(hb2:Mem pots b) :
  runI 3 [false,false,false] [] qR cf [.d (zb cs),.d (.int a),.d (.int b)]=.ok (.d (.bool (clB cs a b))) [none,none,none]:=by
 have e1:=hu pots cs a b hp hb ha hb2
 have e2:=hu pots cs b a hp hb hb2 ha
 have hq:((a:Int)==(b:Int))=(a==b):=by
  rw[xP,beq_iff_eq,beq_iff_eq];omega
 unfold clB
 cases h1:(a==b) with
 |true=>
  rw[h1]at hq
  simp![qR,zl,zD,hq]
 |false=>
  rw[h1]at hq
  cases h2:ub cs a b with
  |true=>
   rw[h2]at e1
   simp![qR,zl,zD,hq,e1,zQ]
  |false=>
   rw[h2]at e1
   simp![qR,zl,zD,hq,e1,e2,zQ]
noncomputable def Vq (cf:CF):Prop:=∀ (pots:Nat) (cs:List Cl) (a b:Nat),pots<=12->Bolt pots cs->Mem pots a->Mem pots b->cf "_law_clash" [.d (zb cs),.d (.int a),.d (.int b)]=.ok (.d (.bool (clB cs a b))) [none,none,none]
theorem zcY(cf:CF)(hc:Vq cf){pots:Nat}(hp:pots<=12){cs:List Cl}(hb:Bolt pots cs){S:List Nat}(hS:∀ a∈S,Mem pots a){k:Nat}(hk:k<S.length){o2:Option OV}(hap:∀ j,(h:j<k)->clB cs (S.getD k 0) (S.getD j 0)=true) :
  qr 1 (.nm 0 4) fYes (b_law_shows_2.ev cf).1 (za (S.take k)) [] [some (.d (.list (za S))),some (.d (zb cs)),o2,some (.d (.int k))]=.ok ((za (S.take k)).map fun _=>.bool true,[some (.d (.list (za S))),some (.d (zb cs)),o2,some (.d (.int k))]):=by
 have hkm:S.getD k 0∈S:=by rw[List.getD_eq_getElem?_getD,xb hk];exact xT hk
 have e:=zC (k:=1) (t:=.nm 0 4) (cond:=fYes) (elt:=(b_law_shows_2.ev cf).1) (ds:=za (S.take k)) (Γ:= [some (.d (.list (za S))),some (.d (zb cs)),o2,some (.d (.int k))]) (fun _=>true) (fun _=>.bool true) (by
  intro x hx
  obtain⟨o,ho,rfl⟩:=QF hx
  have e1:=hc pots cs (S.getD k 0) o hp hb (hS _ hkm) (hS o (List.mem_of_mem_take ho))
  have hcl:clB cs (S.getD k 0) o=true:=by
   obtain⟨j,hj,rfl⟩:=uh ho
   have hj':j<k/\j<S.length:=by simp at hj;omega
   have:=hap j hj'.1
   rw[List.getElem_take]
   rw[List.getD_eq_getElem?_getD (i:=j),xb hj'.2]at this
   exact this
  rw[hcl]at e1
  have a1:=J7 hk
  refine⟨[some (.d (.list (za S))),some (.d (zb cs)),o2,some (.d (.int k)),some (.d (.int o))],_,rfl,rfl,by simp,fun _=>⟨.dat (.bool true),[some (.d (.list (za S))),some (.d (zb cs)),o2,some (.d (.int k)),some (.d (.int o))],?_,rfl,by simp⟩⟩
  generalize S.getD k 0=g at *
  simp![b_law_shows_2,a1,e1,zQ])
 rw[zT]at e
 exact e
theorem zbM(cf:CF)(hwh:wv cf)(hnd:Y5 cf)(hc:Vq cf){pots:Nat}(hp:pots<=12){cs:List Cl}(hb:Bolt pots cs){S:List Nat}(h1:S.Pairwise (·<=·))(h2:∀ x∈S,x∈zi cs pots++ [12])(h3:S.Nodup)(h4:Apt cs S) :
  runI 4 [false,false,false] [] Zn cf [.d (.list (za S)),.d (zb cs),.d (.int pots)]=.ok (.d (.bool true)) [none,none,none]:=by
 have hD:=zR cs pots
 have hln:=hD.len
 have hSl:S.length<=13:=by
  have:=nodup_len h3 h2
  simp at this;omega
 have e1:=hwh S (by omega)
 have e2:=hnd pots cs (by omega) hb
 have v2:=zn (zi cs pots)
 have hS:∀ a∈S,Mem pots a:=fun a ha=>by
  rcases xJ.mp (h2 a ha)with z | z
  ·exact .inl (wV z)
  ·exact .inr (by simpa using z)
 have hap:∀ k,k<S.length->∀ j,j<k->clB cs (S.getD k 0) (S.getD j 0)=true:=fun k hk j hj=>by
  have hj':j<S.length:=by omega
  have hkm:S.getD k 0∈S:=by rw[List.getD_eq_getElem?_getD,xb hk];exact xT hk
  have hjm:S.getD j 0∈S:=by rw[List.getD_eq_getElem?_getD,xb hj'];exact xT hj'
  have hne:S.getD k 0≠S.getD j 0:=by
   have:=uj.mp h3 j k hj' hk hj
   rw[List.getD_eq_getElem?_getD,xb hk,List.getD_eq_getElem?_getD,xb hj']
   exact Ne.symm this
  unfold clB
  rw[h4 _ hkm _ hjm hne,h4 _ hjm _ hkm (Ne.symm hne)]
  simp only[Bool.not_false,Bool.and_true,Bool.not_eq_true',beq_eq_false_iff_ne]
  exact hne
 have hnl:=QQ cs pots
 have c1:=zC (k:=1) (t:=.nm 0 4) (cond:=fYes) (elt:=(b_law_shows_1.ev cf).1) (ds:=za S) (Γ:= [some (.d (.list (za S))),some (.d (zb cs)),some (.d (.int pots)),none]) (fun _=>true) (fun _=>.bool true) (by
  intro x hx
  obtain⟨o,ho,rfl⟩:=QF hx
  have hin:=jZ (zi cs pots++ [12]) o
  have hct:(zi cs pots++ [12]).contains o=true:=by simpa using h2 o ho
  have hal:(∀ x∈za (zi cs pots++ [12]),lay 20 x=true)=True:=eq_true (xA.mp (jR _))
  have hcat:za (zi cs pots)++ [PyData.int 12]=za (zi cs pots++ [12]):=by simp[za]
  have hz:(zi cs pots).length+1<=1000000:=by omega
  rw[hct]at hin
  simp only[zh]at e2 v2
  refine⟨[some (.d (.list (za S))),some (.d (zb cs)),some (.d (.int pots)),none,some (.d (.int o))],_,rfl,rfl,by simp,fun _=>⟨.dat (.bool true),[some (.d (.list (za S))),some (.d (zb cs)),some (.d (.int pots)),none,some (.d (.int o))],?_,rfl,by simp⟩⟩
  generalize zi cs pots++ [12]=M at *
  simp![b_law_shows_1,e2,v2,Y2,zt,hz,hcat,zl,hin,hal])
 rw[zT]at c1
 have hz1: -1000000<=(S.length:Int)/\(S.length:Int)<=1000000:=by omega
 have hz:S.length<=1000000:=by omega
 obtain⟨Γ',c2,⟨o3,rfl⟩⟩:=qC (t:=.nm 3 3) (body:=b_law_shows_3.ex cf []) (ds:=zq S.length) (Γ:= [some (.d (.list (za S))),some (.d (zb cs)),some (.d (.int pots)),none])
  (fun pre Γ=>∃ o3:Option OV,Γ= [some (.d (.list (za S))),some (.d (zb cs)),some (.d (.int pots)),o3]) ⟨_,rfl⟩ (by
   rintro pre x post e Γ ⟨o3,rfl⟩
   obtain⟨rfl,hlt⟩:=jH e
   have e3:=zcY cf hc hp hb hS hlt (o2:=some (.d (.int pots))) (fun j hj=>hap _ hlt j hj)
   have a1:=yY (ds:=za (S.take pre.length))
   have hcut:Kx (za S) none (some (pre.length:Int))=za (S.take pre.length):=by
    rw[zbh _ _ (by rw[zt];omega)];unfold za;rw[List.map_take]
   have hz2:min pre.length S.length<=1000000:=by omega
   refine⟨_,[some (.d (.list (za S))),some (.d (zb cs)),some (.d (.int pots)),some (.d (.int pre.length))],by simp[tgF];rfl,?_,_,rfl⟩
   simp only[b_law_shows_3]
   simp![zgg,zhe,zf8,hcut,zt,hz2,e3,a1])
 have hin:=qG S
 have hso:=vo h1
 have hnd2:=jV S
 have h64:S.length<64:=by omega
 have hy:lay 20 (.list (za S))=true:=jc 19 _
 have hq:=JV hy
 have a1:=yY (ds:=za S)
 simp only[Zn]
 simp![e1,zQ,wS,hin,h64,hso,hnd2,hy,hq,zt,hz,hz1,c1,a1,zk,c2]
noncomputable def Kj (cf:CF):Prop:=∀ (pots:Nat) (cs:List Cl) (S:List Nat),pots<=12->Bolt pots cs->S.Pairwise (·<=·)->(∀ x∈S,x∈zi cs pots++ [12])->S.Nodup->Apt cs S->cf "_law_shows" [.d (.list (za S)),.d (zb cs),.d (.int pots)]=.ok (.d (.bool true)) [none,none,none]
theorem zcO{pots:Nat}(hp:pots<=12)(cs:List Cl):(j6 (qK cs (zi cs pots))).Pairwise (·<=·)/\(∀ x∈j6 (qK cs (zi cs pots)),x∈zi cs pots++ [12])/\(j6 (qK cs (zi cs pots))).Nodup/\Apt cs (j6 (qK cs (zi cs pots)))/\(j6 (qK cs (zi cs pots))).length=wid cs (zi cs pots):=by
 obtain⟨h1,h2,h3,h4⟩:=vg hp (zR cs pots) cs
 have pm:=Z3 (qK cs (zi cs pots))
 exact⟨wy _,fun x hx=>h2 x (pm.mem_iff.mp hx),pm.nodup_iff.mpr h1,fun x hx y hy=>h3 x (pm.mem_iff.mp hx) y (pm.mem_iff.mp hy),by rw[pm.length_eq];exact h4⟩
end Wx
set_option maxHeartbeats 4000000
namespace Wx
open PySem L2 L3
noncomputable def top(i:Nat):Stmt:=PySem.Challenge.pw_waxcloth_k25_whole_fewest_boilings.main.body.getD i (.Pass ⟨0,0,0,0⟩)
noncomputable def d_p_with_wax:DefI:=⟨"with_wax",top 6,["bolt","cells"],["bolt","cells"],[false,false],[],je⟩
noncomputable def d_p_boiled:DefI:=⟨"boiled",top 7,["bolt"],["bolt"],[false],[],wu⟩
noncomputable def d_p_has_cell:DefI:=⟨"has_cell",top 8,["bolt","at"],["bolt","at"],[false,false],[],jf⟩
noncomputable def d_p_lacking:DefI:=⟨"lacking",top 10,["bolt","dye"],["bolt","dye"],[false,false],[],Ji⟩
noncomputable def d_p_needed:DefI:=⟨"needed",top 11,["bolt"],["bolt","pots"],[false],[],Qe⟩
noncomputable def d_p_bars:DefI:=⟨"bars",top 12,["bolt","fresh"],["bolt","fresh","told","at","stain","waxed","wish","dye","word"],[false,false],[],Y9⟩
noncomputable def d_p_bar_word:DefI:=⟨"bar_word",top 13,["gap","is_fresh"],["gap","is_fresh"],[false,false],[],qL⟩
noncomputable def d_p_with_cells:DefI:=⟨"with_cells",top 16,["bolt","dyes"],["bolt","dyes"],[false,false],[],jS⟩
noncomputable def d_p_is_lower:DefI:=⟨"is_lower",top 17,["one","other"],["one","other","dye","cells","other_dye","other_cells"],[false,false],[],jQ⟩
noncomputable def d_p_lacking_under_wax:DefI:=⟨"lacking_under_wax",top 18,["bolt","dye"],["bolt","dye"],[false,false],[],qz⟩
noncomputable def d_p_stretches:DefI:=⟨"stretches",top 20,["bolt"],["bolt","dyes","follower","present"],[false],[],Zq⟩
noncomputable def d_p_held:DefI:=⟨"held",top 21,["bolt"],["bolt","dyes","above","follower","firsts","tried","at","moving","numbers"],[false],[],ki⟩
noncomputable def d_p_boilings:DefI:=⟨"boilings",top 22,["bolt"],["bolt"],[false],[],ZV⟩
noncomputable def d_p_boilings_for:DefI:=⟨"boilings_for",top 23,["bolt","dyes"],["bolt","dyes","follower"],[false,false],[],ja⟩
noncomputable def d_p_places_above:DefI:=⟨"places_above",top 24,["bolt","dyes"],["bolt","dyes","pairs","told","one","places"],[false,false],[],jd⟩
noncomputable def d_p_followers:DefI:=⟨"followers",top 25,["above"],["above","follower","at"],[false],[],jq⟩
noncomputable def d_p_settle:DefI:=⟨"settle",top 26,["at","above","follower","tried"],["at","above","follower","tried","place"],[false,false,true,true],[2,3],Ze⟩
noncomputable def d_p_row_behind:DefI:=⟨"row_behind",top 27,["dyes","follower","at"],["dyes","follower","at","row"],[false,false,false],[],j3⟩
noncomputable def d_p_plan:DefI:=⟨"plan",top 29,["bolt","fresh"],["bolt","fresh","found","present","others","moves","clean","dyes"],[false,false],[],Yy⟩
noncomputable def d_p_stretch_moves:DefI:=⟨"stretch_moves",top 30,["bolt","dyes"],["bolt","dyes","moves","dye","cells"],[false,false],[],qS⟩
noncomputable def d_p_to_keep_off:DefI:=⟨"to_keep_off",top 31,["bolt","dye"],["bolt","dye"],[false,false],[],jx⟩
noncomputable def d_law_whole:DefI:=⟨"_law_whole",top 33,["_law_found"],["_law_found"],[false],[],j9⟩
noncomputable def d_law_wholes:DefI:=⟨"_law_wholes",top 34,["_law_found"],["_law_found"],[false],[],j5⟩
noncomputable def d_law_mixed:DefI:=⟨"_law_mixed",top 36,["_law_number","_law_turn"],["_law_number","_law_turn","_law_one","_law_two"],[false,false],[],Zs⟩
noncomputable def d_law_take:DefI:=⟨"_law_take",top 37,["_law_box_here","_law_many"],["_law_box_here","_law_many","_law_left","_law_cell_here"],[true,false],[0],qN⟩
noncomputable def d_law_lacks:DefI:=⟨"_law_lacks",top 38,["_law_box_here","_law_pots","_law_size"],["_law_box_here","_law_pots","_law_size","_law_way","_law_ends","_law_rows","_law_at","_law_row","_law_low","_law_high"],[true,false,false],[0],Zr⟩
noncomputable def d_law_cell:DefI:=⟨"_law_cell",top 39,["_law_box_here","_law_row","_law_loose","_law_wet"],["_law_box_here","_law_row","_law_loose","_law_wet","_law_stain","_law_want","_law_bit","_law_shade"],[true,false,false,false],[0],jO⟩
noncomputable def d_law_bolt:DefI:=⟨"_law_bolt",top 40,["_law_box_here","_law_pots","_law_size","_law_loose"],["_law_box_here","_law_pots","_law_size","_law_loose","_law_wet","_law_rows"],[true,false,false,false],[0],ZX⟩
noncomputable def d_law_sizes:DefI:=⟨"_law_sizes",top 41,["_law_box_here"],["_law_box_here"],[true],[0],js⟩
noncomputable def d_law_wax:DefI:=⟨"_law_wax",top 42,["_law_rows","_law_cells"],["_law_rows","_law_cells"],[false,false],[],Jj⟩
noncomputable def d_law_dip:DefI:=⟨"_law_dip",top 43,["_law_rows","_law_dye"],["_law_rows","_law_dye","_law_found","_law_stain","_law_waxed","_law_want"],[false,false],[],jI⟩
noncomputable def d_law_boil:DefI:=⟨"_law_boil",top 44,["_law_rows"],["_law_rows"],[false],[],Z5⟩
noncomputable def d_law_full:DefI:=⟨"_law_full",top 45,["_law_rows","_law_dye"],["_law_rows","_law_dye"],[false,false],[],jj⟩
noncomputable def d_law_lack:DefI:=⟨"_law_lack",top 46,["_law_rows","_law_dye"],["_law_rows","_law_dye"],[false,false],[],ZY⟩
noncomputable def d_law_need:DefI:=⟨"_law_need",top 47,["_law_rows","_law_pots"],["_law_rows","_law_pots"],[false,false],[],ZT⟩
noncomputable def d_law_under:DefI:=⟨"_law_under",top 48,["_law_rows","_law_one","_law_other"],["_law_rows","_law_one","_law_other","_law_mine","_law_theirs"],[false,false,false],[],qp⟩
noncomputable def d_law_clash:DefI:=⟨"_law_clash",top 49,["_law_rows","_law_one","_law_other"],["_law_rows","_law_one","_law_other"],[false,false,false],[],qR⟩
noncomputable def d_law_met:DefI:=⟨"_law_met",top 50,["_law_rows"],["_law_rows"],[false],[],QX⟩
noncomputable def d_law_shows:DefI:=⟨"_law_shows",top 51,["_law_found","_law_rows","_law_pots"],["_law_found","_law_rows","_law_pots","_law_k"],[false,false,false],[],Zn⟩
noncomputable def d_law_wax_good:DefI:=⟨"_law_wax_good",top 52,["_law_move","_law_rows"],["_law_move","_law_rows","_law_cells"],[false,false],[],jh⟩
noncomputable def d_law_dip_good:DefI:=⟨"_law_dip_good",top 53,["_law_move","_law_rows","_law_fresh","_law_dips"],["_law_move","_law_rows","_law_fresh","_law_dips"],[false,false,false,false],[],jb⟩
noncomputable def d_law_walk:DefI:=⟨"_law_walk",top 54,["_law_rows","_law_fresh","_law_moves"],["_law_rows","_law_fresh","_law_moves","_law_dips","_law_boils","_law_move"],[false,false,false],[],Z7⟩
noncomputable def d_law_draw:DefI:=⟨"_law_draw",top 55,["_law_box_here","_law_loose"],["_law_box_here","_law_loose","_law_pots","_law_size"],[true,false],[0],Z4⟩
noncomputable def d_law_pans:DefI:=⟨"_law_pans",top 56,["_law_box_here","_law_rows","_law_pots"],["_law_box_here","_law_rows","_law_pots"],[true,false,false],[0],Z9⟩
noncomputable def defs:List DefI:=(d_p_with_wax::d_p_boiled::d_p_has_cell::d_p_lacking::d_p_needed::d_p_bars::d_p_bar_word::d_p_with_cells::d_p_is_lower::d_p_lacking_under_wax::d_p_stretches::d_p_held::d_p_boilings::d_p_boilings_for::d_p_places_above::d_p_followers::d_p_settle::d_p_row_behind::d_p_plan::d_p_stretch_moves::d_p_to_keep_off::d_law_whole::d_law_wholes::d_law_mixed::d_law_take::d_law_lacks::d_law_cell::d_law_bolt::d_law_sizes::d_law_wax::d_law_dip::d_law_boil::d_law_full::d_law_lack::d_law_need::d_law_under::d_law_clash::d_law_met::d_law_shows::d_law_wax_good::d_law_dip_good::d_law_walk::d_law_draw::d_law_pans:: [])
noncomputable def lawB:IB:=(.cons (.asgT (.tp (.cons (.nm 2 2) (.cons (.nm 3 3) .nil))) (.call (.call "_law_draw" 2 (.io 1 1 (.cons (.cint 0) .nil))))) (.cons (.asg 4 4 (.dat (.call (.call "_law_pans" 3 (.io 1 1 (.cons (.var 3 3) (.cons (.var 2 2) .nil))))))) (.cons (.asg 5 5 (.dat (.new (.list (.var 3 3))))) (.cons (.asg 6 6 (.dat (.call (.call "_law_walk" 3 (.cons (.var 5 5) (.cons (.var 4 4) (.cons (.call (.call "plan" 2 (.cons (.var 3 3) (.cons (.var 4 4) .nil)))) .nil))))))) (.cons (.ite (.or (.cmp .Is (.var 6 6) .cnone) (.or (.not (.call (.call "_law_met" 1 (.cons (.ix (.var 6 6) (.cint 0)) .nil)))) (.cmp .NotEq (.new (.sorted (.ix (.var 6 6) (.cint 1)))) (.call (.call "_law_need" 2 (.cons (.var 5 5) (.cons (.var 2 2) .nil))))))) (.cons (.ret (.dat (.cbool false))) .nil) .nil) (.cons (.asg 7 7 (.dat (.call (.call "held" 1 (.cons (.var 3 3) .nil))))) (.cons (.ite (.not (.call (.call "_law_shows" 3 (.cons (.var 7 7) (.cons (.var 5 5) (.cons (.var 2 2) .nil)))))) (.cons (.ret (.dat (.cbool false))) .nil) .nil) (.cons (.ret (.dat (.and (.cmp .Eq (.len (.var 7 7)) (.bin .Add (.ix (.var 6 6) (.cint 2)) (.cint 1))) (.and (.cmp .Eq (.call (.call "boilings" 1 (.cons (.var 3 3) .nil))) (.ix (.var 6 6) (.cint 2))) (.cmp .Eq (.var 3 3) (.var 5 5)))))) .nil))))))))
noncomputable def W:Wd:=⟨["all","any","bool","enumerate","int","isinstance","len","list","max","min","range","set","sorted","str","tuple"],[("NOW",12)],[],(("with_wax",2)::("boiled",1)::("has_cell",2)::("lacking",2)::("needed",1)::("bars",2)::("bar_word",2)::("with_cells",2)::("is_lower",2)::("lacking_under_wax",2)::("stretches",1)::("held",1)::("boilings",1)::("boilings_for",2)::("places_above",2)::("followers",1)::("settle",4)::("row_behind",3)::("plan",2)::("stretch_moves",2)::("to_keep_off",2)::("_law_whole",1)::("_law_wholes",1)::("_law_mixed",2)::("_law_take",2)::("_law_lacks",3)::("_law_cell",4)::("_law_bolt",4)::("_law_sizes",1)::("_law_wax",2)::("_law_dip",2)::("_law_boil",1)::("_law_full",2)::("_law_lack",2)::("_law_need",2)::("_law_under",3)::("_law_clash",3)::("_law_met",1)::("_law_shows",3)::("_law_wax_good",2)::("_law_dip_good",4)::("_law_walk",3)::("_law_draw",2)::("_law_pans",3):: []),[],["NoCell","Twice"]⟩
theorem wZ:d_p_with_wax.ok W=true:=by kernel_rfl
theorem vA:d_p_boiled.ok W=true:=by kernel_rfl
theorem wP:d_p_has_cell.ok W=true:=by kernel_rfl
theorem Wv:d_p_lacking.ok W=true:=by kernel_rfl
theorem VN:d_p_needed.ok W=true:=by kernel_rfl
theorem Yt:d_p_bars.ok W=true:=by kernel_rfl
theorem ww:d_p_bar_word.ok W=true:=by kernel_rfl
theorem Q6:d_p_with_cells.ok W=true:=by kernel_rfl
theorem wH:d_p_is_lower.ok W=true:=by kernel_rfl
theorem jG:d_p_lacking_under_wax.ok W=true:=by kernel_rfl
theorem JP:d_p_stretches.ok W=true:=by kernel_rfl
theorem Ym:d_p_held.ok W=true:=by kernel_rfl
theorem Wi:d_p_boilings.ok W=true:=by kernel_rfl
theorem Z1:d_p_boilings_for.ok W=true:=by kernel_rfl
theorem ZZ:d_p_places_above.ok W=true:=by kernel_rfl
theorem JO:d_p_followers.ok W=true:=by kernel_rfl
theorem Vl:d_p_settle.ok W=true:=by kernel_rfl
theorem Q5:d_p_row_behind.ok W=true:=by kernel_rfl
theorem Y1:d_p_plan.ok W=true:=by kernel_rfl
theorem ZH:d_p_stretch_moves.ok W=true:=by kernel_rfl
theorem Qy:d_p_to_keep_off.ok W=true:=by kernel_rfl
theorem Wy:d_law_whole.ok W=true:=by kernel_rfl
theorem wO:d_law_wholes.ok W=true:=by kernel_rfl
theorem WB:d_law_mixed.ok W=true:=by kernel_rfl
theorem VM:d_law_take.ok W=true:=by kernel_rfl
theorem Wo:d_law_lacks.ok W=true:=by kernel_rfl
theorem vW:d_law_cell.ok W=true:=by kernel_rfl
theorem vY:d_law_bolt.ok W=true:=by kernel_rfl
theorem Wq:d_law_sizes.ok W=true:=by kernel_rfl
theorem yx:d_law_wax.ok W=true:=by kernel_rfl
theorem yW:d_law_dip.ok W=true:=by kernel_rfl
theorem v6:d_law_boil.ok W=true:=by kernel_rfl
theorem Vr:d_law_full.ok W=true:=by kernel_rfl
theorem VY:d_law_lack.ok W=true:=by kernel_rfl
theorem VU:d_law_need.ok W=true:=by kernel_rfl
theorem Wt:d_law_under.ok W=true:=by kernel_rfl
theorem WC:d_law_clash.ok W=true:=by kernel_rfl
theorem yt:d_law_met.ok W=true:=by kernel_rfl
theorem WE:d_law_shows.ok W=true:=by kernel_rfl
theorem Jo:d_law_wax_good.ok W=true:=by kernel_rfl
theorem Jl:d_law_dip_good.ok W=true:=by kernel_rfl
theorem vz:d_law_walk.ok W=true:=by kernel_rfl
theorem Vb:d_law_draw.ok W=true:=by kernel_rfl
theorem Va:d_law_pans.ok W=true:=by kernel_rfl
noncomputable abbrev sBox:Stmt:=top 35
noncomputable abbrev sLaw:Stmt:=top 57
noncomputable def LN:List Str:= ["_law_script","_law_box_here","_law_pots","_law_rows","_law_fresh","_law_kept","_law_walked","_law_shown_by"]
theorem okLaw:lawB.chk W (defScope sLaw) LN (List.range LN.length) LN.length 0 (defBody sLaw).tail=true:=by kernel_rfl
structure zhv(cf:CF):Prop where
 draw0:ky cf
 pans:zcM cf
 plan:zbb cf
 walk:zcN cf
 lmet:zcx cf
 need:Y5 cf
 held:zbw cf
 boil:zbN cf
 shows:Kj cf
theorem ok25(n:Nat):zhv (ze defs (n+20)):=by
 have hmixed:∀ k,kH (ze defs (k+1)):=fun k a b=>zaX (ze defs k) a b
 have htake:∀ k,j2 (ze defs (k+2)):=fun k b hb n h1 h2=>zdt (ze defs (k+1)) (hmixed k) hb h1 h2
 have hsizes:∀ k,Kk (ze defs (k+3)):=fun k b hb=>zbI (ze defs (k+2)) (htake k) hb
 have hlacks:∀ k,kv (ze defs (k+3)):=fun k b hb pots size h1 h2=>zcy (ze defs (k+2)) (htake k) hb h1 h2
 have hcell0:∀ k,Kc (ze defs (k+3)):=fun k b hb bs wet h1=>zcq (ze defs (k+2)) (htake k) hb bs h1
 have hbolt0:∀ k,kS (ze defs (k+4)):=fun k b hb pots size h1 h2=>za3 (ze defs (k+3)) (htake (k+1)) (hlacks k) (hcell0 k) hb h1 h2
 have hdraw0:∀ k,ky (ze defs (k+5)):=fun k b hb=>zcn (ze defs (k+4)) (hsizes (k+1)) (hbolt0 k) hb
 have hlack:∀ k,qE "_law_lack" (ze defs (k+1)):=fun k pots cs hb d hd=>zeb (ze defs k) hb hd
 have hpans:∀ k,zcM (ze defs (k+3)):=fun k b hb pots cs hp hB=>zex (ze defs (k+2)) (htake k) (hlack (k+1)) hb hp hB
 have hword:∀ k,YG (ze defs (k+1)):=fun k g f=>zeK (ze defs k) g f
 have hbars:∀ k,zdd (ze defs (k+2)):=fun k pots cs fr h1 h2 h3 h4=>zem (ze defs (k+1)) (hword k) h1 h2 h3 h4
 have hlacking:∀ k,qE "lacking" (ze defs (k+1)):=fun k pots cs hb d hd=>YN (ze defs k) hb hd
 have hneeded:∀ k,QD (ze defs (k+2)):=fun k pots cs hp hb=>(zaF (ze defs (k+1)) (hlacking k) hp hb).trans (by rw[zeB])
 have hcells:∀ k,zd3 (ze defs (k+2)):=fun k pots cs D hp hb hD=>za0 (ze defs (k+1)) (hlacking k) hp hb hD
 have hlower:∀ k,JR (ze defs (k+1)):=fun k a b xs ys h1 h2=>zb7 (ze defs k) a b h1 h2
 have hwax:∀ k,zbQ (ze defs (k+2)):=fun k pots cs hb d hd=>zg0 (ze defs (k+1)) (hlacking k) hb hd
 have hplaces:∀ k,Qr (ze defs (k+3)):=fun k pots cs D hp hb hcl hD=>KF (ze defs (k+2)) (hcells k) (hlower (k+1)) (hwax k) hp hb hcl hD
 have hsettle:∀ k,Jv (ze defs (k+14)):=fun k=>zel defs (fun _=>rfl) k
 have hfoll:∀ k,vR (ze defs (k+15)):=fun k pots cs D hp hD=>zeW hp hD cs (ze defs (k+14)) (hsettle k)
 have hrow:∀ k,za8 (ze defs (k+1)):=fun k D F n p hF he hn hp=>zgD (ze defs k) hF he hn hp
 have hstr:∀ k,zfa (ze defs (k+16)):=fun k pots cs hp hb hcl=>vS (ze defs (k+15)) (hneeded (k+13)) (hplaces (k+12)) (hfoll k) (hrow (k+14)) hp hb hcl
 have hkeep:∀ k,Yi (ze defs (k+1)):=fun k pots cs hb d hd=>zee (ze defs k) hb hd
 have hhas:∀ k,zfc (ze defs (k+1)):=fun k cs a hl=>zfR (ze defs k) hl a
 have hwax2:∀ k,YO (ze defs (k+2)):=fun k cs xs hl hx=>zdO (ze defs (k+1)) (hhas k) hl hx
 have hsmoves:∀ k,wQ (ze defs (k+3)):=fun k pots P ds hb hP hd hl=>KP (ze defs (k+2)) (hkeep (k+1)) (hwax2 k) hb hP hd hl
 have hboiled:∀ k,yC (ze defs (k+1)):=fun k cs h=>zae (ze defs k) h
 have hplan:∀ k,zbb (ze defs (k+17)):=fun k pots cs fr hp hb hc hfl hf=>zeg (ze defs (k+16)) (hbars (k+14)) (hstr k) (hsmoves (k+13)) (hboiled (k+15)) hp hb hc hfl hf
 have hwhole:∀ k,vG (ze defs (k+1)):=fun k i=>zbD (ze defs k) i
 have hwholes:∀ k,wv (ze defs (k+2)):=fun k xs hx=>zaM (ze defs (k+1)) (hwhole k) hx
 have hwaxgood:∀ k,W3 (ze defs (k+3)):=fun k pots R0 xs hb h0 h1 h2 hl=>YB (ze defs (k+2)) (hwholes k) hb h0 h1 h2 hl
 have hlfull:∀ k,kM (ze defs (k+1)):=fun k=>⟨fun pots cs d hb hd=>zcr (ze defs k) hb hd,fun d=>zaD (ze defs k) d⟩
 have hdipgood:∀ k,WM (ze defs (k+2)):=fun k pots R0 fr d dn hb hfl hp h1 h2 h3 h4=>Yl (ze defs (k+1)) (hwhole k) (hlfull k) hb hfl hp h1 h2 h3 h4
 have hlwax:∀ k,zc2 (ze defs (k+1)):=fun k cs xs hl=>zdX (ze defs k) hl
 have hldip:∀ k,zcB (ze defs (k+1)):=fun k=>⟨fun pots cs d hp hb=>zdv (ze defs k) hp hb d,fun d=>zbZ (ze defs k) d⟩
 have hlboil:∀ k,kC (ze defs (k+1)):=fun k pots cs hb=>zdb (ze defs k) hb
 have hwalk:∀ k,zcN (ze defs (k+4)):=fun k pots fr R0 R1 d1 ms b hp hfl w hR hl=>zeE (ze defs (k+3)) ⟨hwaxgood k,hdipgood (k+1),hlwax (k+2),hldip (k+2),hlboil (k+2)⟩ hp hfl w hR hl
 have hlmet:∀ k,zcx (ze defs (k+1)):=fun k cs h=>zdF (ze defs k) h
 have hneed:∀ k,Y5 (ze defs (k+2)):=fun k pots cs hp hb=>zd1 (ze defs (k+1)) (hlack k) hp hb
 have hheld:∀ k,zbw (ze defs (k+16)):=fun k pots cs hp hb hcl=>zd7 (ze defs (k+15)) (hneeded (k+13)) (hplaces (k+12)) (hfoll k) (hsettle (k+1)) hp hb hcl
 have hbfor:∀ k,WO (ze defs (k+16)):=fun k pots cs D hp hb hcl hD=>V6 (ze defs (k+15)) (hplaces (k+12)) (hfoll k) hp hb hcl hD
 have hboil:∀ k,zbN (ze defs (k+17)):=fun k pots cs hp hb hcl=>zeD (ze defs (k+16)) (hneeded (k+14)) (hbfor k) hp hb hcl
 have hunder:∀ k,kG (ze defs (k+2)):=fun k pots cs a b hp hb ha hb2=>zcz (ze defs (k+1)) (hlack k) hp hb ha hb2
 have hclash:∀ k,Vq (ze defs (k+3)):=fun k pots cs a b hp hb ha hb2=>zcR (ze defs (k+2)) (hunder k) hp hb ha hb2
 have hshows:∀ k,Kj (ze defs (k+4)):=fun k pots cs S hp hb h1 h2 h3 h4=>zbM (ze defs (k+3)) (hwholes (k+1)) (hneed (k+1)) (hclash k) hp hb h1 h2 h3 h4
 exact⟨hdraw0 (n+15),hpans (n+17),hplan (n+3),hwalk (n+16),hlmet (n+19),hneed (n+18),hheld (n+4),hboil (n+3),hshows (n+16)⟩
theorem law_run(cf:CF)(h:zhv cf)(cells:List Int)(i l t s:Int)(hi:0<=i):∃ Γ',lawB.ex cf [] (none::some (ZG cells i l t s)::List.replicate (LN.length-2) none)=.ok (.ret (.d (.bool true)),Γ'):=by
 have hB:zH (ZG cells i l t s):=⟨_,_,_,_,_,hi,rfl⟩
 generalize ZG cells i l t s=b at hB
 obtain⟨pots,cs,b2,hp,hcl,hb,hb2,e2⟩:=h.draw0 b hB
 obtain⟨fr,b3,hfl,hf,hb3,e3⟩:=h.pans b2 hb2 pots cs (by omega) hb.1
 have e4:=h.plan pots cs fr hp hb (by omega) hfl hf
 have hpl:=zbL hp cs
 obtain⟨R2,hmet,hRl,hw⟩:=zaA hp hb hfl hf
 have e5:=h.walk pots fr cs R2 _ _ _ (by omega) hfl hw (by omega) (by omega)
 have e7:=h.lmet R2 (by omega)
 rw[hmet]at e7
 have e8:=h.need pots cs (by omega) hb.1
 have v8:=zn (zi cs pots)
 have hflat:=ZA hp (zR cs pots) cs
 have hD:=zR cs pots
 have hin:=qG (ql cs (zi cs pots)).flatten
 have hso:=Z0 (ql cs (zi cs pots)).flatten
 rw[V5 hflat hD.le]at hso
 have hnl:=QQ cs pots
 have h64:(ql cs (zi cs pots)).flatten.length<64:=by have:=hflat.length_eq;omega
 have hnd2:=jV (zi cs pots)
 have hy:lay 20 (zb cs)=true:=zb4 17 _
 have hq:=JV hy
 have hy3:lay 20 (.list (za (zi cs pots)))=true:=jc 19 _
 have hq3:=JV hy3
 have v3:(OV.l ((fr.map PyData.bool).map OV.d)).view=zw fr:=jP _
 have hmv:(OV.l (qd (jz cs (ql cs (zi cs pots))))).view=.list ((jz cs (ql cs (zi cs pots))).map Mv.D):=by
  have:qd (jz cs (ql cs (zi cs pots)))=((jz cs (ql cs (zi cs pots))).map Mv.D).map OV.d:=by unfold qd;rw[List.map_map];rfl
  rw[this];exact jP _
 have hml:(cs.map Cl.D).length<=1000000:=by simp;omega
 have f3:=h.held pots cs hp hb.1 (by omega)
 have f7:=h.boil pots cs hp hb.1 (by omega)
 have hlen:=zbC hp (zR cs pots) cs
 obtain⟨P,rest,hS,-,-⟩:=Qu hp (zR cs pots) cs
 have hpos:1<=(ql cs (zi cs pots)).length:=by rw[hS];simp
 obtain⟨g1,g2,g3,g4,g5⟩:=zcO hp cs (pots:=pots)
 generalize j6 (qK cs (zi cs pots))=S at *
 have f4:=h.shows pots cs S hp hb.1 g1 g2 g3 g4
 have w3:=zn S
 rw[<- hlen]at f7 g5
 have hbo:(((ql cs (zi cs pots)).length:Int)-1)=(((ql cs (zi cs pots)).length-1:Nat):Int):=by omega
 rw[hbo]at f7
 have hg6:S.length=(ql cs (zi cs pots)).length-1+1:=by omega
 generalize hFL:(ql cs (zi cs pots)).flatten=FL0 at *
 generalize (ql cs (zi cs pots)).length-1=bo at *
 have hsq:∀ Γ,zx Γ (.dat (.list (za FL0)))=some (za FL0):=fun _=>rfl
 generalize qd (jz cs (ql cs (zi cs pots)))=MO at *
 generalize jz cs (ql cs (zi cs pots))=ms at *
 generalize ms.map Mv.D=M at *
 simp only[zh]at e8 v8 f3 w3
 generalize ((zi cs pots).map fun (i:Nat)=>OV.d (.int (i:Int)))=NO at *
 generalize (S.map fun (i:Nat)=>OV.d (.int (i:Int)))=SO at *
 generalize za (zi cs pots)=NL at *
 generalize za FL0=FD at *
 have hh:(FL0.map fun (i:Nat)=>(i:Int)).length<64:=by rw[xi];exact h64
 generalize (FL0.map fun (i:Nat)=>(i:Int))=FI at *
 have a0:∀ x y z:PyData,atI [x,y,z] 0=some x:=fun _ _ _=>rfl
 have a1:∀ x y z:PyData,atI [x,y,z] 1=some y:=fun _ _ _=>rfl
 have a2:∀ x y z:PyData,atI [x,y,z] 2=some z:=fun _ _ _=>rfl
 have hSl:=zt S
 have hSi:((S.length:Int)==(bo:Int)+1)=true:=by rw[beq_iff_eq];omega
 generalize za S=SD at *
 generalize zw fr=F at *
 generalize (fr.map PyData.bool).map OV.d=FO at *
 simp only[lawB,LN]
 simp![e2,zQ,KQ,zax,e3,v3,e4,hmv,e5,e7,e8,v8,hsq,wS,hin,hh,hso,hnd2,a0,a1,a2,hy,hq,hy3,hq3,f3,w3,f4,f7,hSl,hSi,hg6,zl,zD,hml,isN]
structure Bi(mg:Str->Option Value):Prop where
 all:mg "all" =none
 any:mg "any" =none
 bool:mg "bool" =none
 enumerate:mg "enumerate" =none
 int:mg "int" =none
 isinstance:mg "isinstance" =none
 len:mg "len" =none
 list:mg "list" =none
 max:mg "max" =none
 min:mg "min" =none
 range:mg "range" =none
 set:mg "set" =none
 sorted:mg "sorted" =none
 str:mg "str" =none
 tuple:mg "tuple" =none
theorem Bi.of {K:PySem.W.Frag}{mg:Str->Option Value}{h:Heap}(X:K.In h) (G:h.Ns mainGlobals mg) (z0:PySem.W.nsIn K mainGlobals "all" =some none) (z1:PySem.W.nsIn K mainGlobals "any" =some none) (z2:PySem.W.nsIn K mainGlobals "bool" =some none) (z3:PySem.W.nsIn K mainGlobals "enumerate" =some none) (z4:PySem.W.nsIn K mainGlobals "int" =some none) (z5:PySem.W.nsIn K mainGlobals "isinstance" =some none) (z6:PySem.W.nsIn K mainGlobals "len" =some none) (z7:PySem.W.nsIn K mainGlobals "list" =some none) (z8:PySem.W.nsIn K mainGlobals "max" =some none) (z9:PySem.W.nsIn K mainGlobals "min" =some none) (z10:PySem.W.nsIn K mainGlobals "range" =some none) (z11:PySem.W.nsIn K mainGlobals "set" =some none) (z12:PySem.W.nsIn K mainGlobals "sorted" =some none) (z13:PySem.W.nsIn K mainGlobals "str" =some none) (z14:PySem.W.nsIn K mainGlobals "tuple" =some none):Bi mg :=
 ⟨PySem.W.mg_none_of X G z0,PySem.W.mg_none_of X G z1,PySem.W.mg_none_of X G z2,PySem.W.mg_none_of X G z3,PySem.W.mg_none_of X G z4,PySem.W.mg_none_of X G z5,PySem.W.mg_none_of X G z6,PySem.W.mg_none_of X G z7,PySem.W.mg_none_of X G z8,PySem.W.mg_none_of X G z9,PySem.W.mg_none_of X G z10,PySem.W.mg_none_of X G z11,PySem.W.mg_none_of X G z12,PySem.W.mg_none_of X G z13,PySem.W.mg_none_of X G z14⟩
section
variable {P:Program} {w:World} {K:PySem.W.Frag} {mg:Str->Option Value} {base:Heap}
theorem zcD(ns:List Int)(lo hi:Option Int):∃ ms:List Int,Q1 (ns.map V.int) lo hi=ms.map V.int/\ms.length<=ns.length:=by
 refine⟨(ns.drop (HT.sIx (ns.map V.int).length 0 lo)).take (HT.sIx (ns.map V.int).length (ns.map V.int).length hi-HT.sIx (ns.map V.int).length 0 lo),?_,?_⟩
 ·unfold Q1
  rw[List.map_take,List.map_drop]
 ·rw[xW,List.length_drop];omega
theorem scBox:qQ ["_law_script","_law_seed","_law_cell_here"] ["_law_script"] (defScope sBox):=⟨rfl,rfl,rfl,by decide +kernel,rfl,by decide +kernel,by decide +kernel⟩
theorem kn_box (D:Df K mg "_law_box" sBox ["_law_script"]) (B:Bi mg):Kn P w K mg base CX0 "_law_box" 1 (zbg K) :=
 D.kn (k:=0) scBox (fun vs H Q E ⟨a,ns,e,_⟩=>by rw[e];rfl) fun f cdv A outer s H vs Q E hr ⟨a,ns,e,hS,hlen,kk⟩=>by
  subst e
  refine PSs.wp (QR (Vj (i:=1) scBox.nd rfl (Or.inl rfl) pe_int)
   (QR (zdf PassesOwn.never rfl (Kq (wM Vs (pv 0) Vo (Vg pe_int))) (k7 (i:=2) scBox.nd rfl (Or.inl rfl))
    (Vp (Vj (i:=1) scBox.nd rfl (Or.inl rfl) (WU zch (WU Y0 (WU Y0 (WU zcG (pv 1) pe_int) (pv 2)) pe_int) pe_int))))
   (Vp (zbR (zcP (zy (ZC Qb rfl B.list Z6 (zy (wM Vs (pv 0) Vo (Vg pe_int)) pa_nil)) (zy pe_int (zy pe_int (zy pe_int (zy (pv 1) pa_nil)))))))))) ?_
  obtain⟨ms,ems,hms⟩:=zcD ns none (some 63)
  refine⟨_,rfl,_,rfl,a,_,rfl,hS,fun q nq=>⟨q,rfl,⟨_,SqL.of zA⟩,zbP (K:=K) (a:=q) (xs:=Q1 (ns.map V.int) none (some 63)) (fun i σ H2=>H2=upd H q (.lst (Q1 (ns.map V.int) none (some 63)))/\∃ sd v,σ= [some (.ref a),some (.int sd),v])
   ⟨rfl,0,none,rfl⟩ (fun i σ H2 _ ⟨e,_⟩=>by rw[e];exact SqL.of zA) ?_ ?_⟩⟩
  ·rintro i x σ H2 hx ⟨rfl,sd,v,rfl⟩
   obtain⟨z,rfl⟩:∃ z,x=V.int z:=by
    rw[ems]at hx
    have:=xN hx
    obtain⟨z,_,rfl⟩:=xn.mp this
    exact⟨z,rfl⟩
   refine⟨_,rfl,_,_,rfl,rfl,.inr (by decide),_,rfl,_,_,rfl,rfl,_,_,rfl,rfl,_,_,rfl,rfl,(by show (0:Int)<2147483647;decide),?_⟩
   exact⟨rfl,_,_,rfl⟩
  ·rintro σ H2 ⟨rfl,sd,v,rfl⟩
   have s1:Same H (upd H q (.lst (Q1 (ns.map V.int) none (some 63)))):=zN nq
   refine⟨_,rfl,_,rfl,a,_,rfl,s1.seq hS,fun q2 nq2=>⟨q2,_,rfl,.inl (SqL.of zA),fun l nl=>⟨_,rfl,(by show 5<=sizeLine;decide),fun b nb=>?_⟩⟩⟩
   have s2:=s1.trans (zN (o:=.lst (Q1 (ns.map V.int) none (some 63))) nq2)
   have s3:=s2.trans (zN (o:=.lst (Q1 (ns.map V.int) none (some 63))) nl)
   have hlb:l≠b:=fun e=>by rw[<- e,zA]at nb;cases nb
   refine kk b _ (s3.trans (zN nb)) (s3.free nb) (by rw[zA];exact fun z=>nomatch z) ⟨l,ms,0,0,0,sd,rfl,zA,?_,Int.le_refl 0⟩
   refine .list (vs:=ms.map V.int) (by rw[zo hlb,zA,ems]) hlb (RepL.ints ms)
theorem hbi(B:Bi mg):∀ x,W.bi.contains x=true->mg x=none:=by
 intro x h
 have h2:=uK.mp h
 simp only[W,xo,uy,or_false]at h2
 rcases h2 with rfl | rfl | rfl | rfl | rfl | rfl | rfl | rfl | rfl | rfl | rfl | rfl | rfl | rfl | rfl
 ·exact B.all
 ·exact B.any
 ·exact B.bool
 ·exact B.enumerate
 ·exact B.int
 ·exact B.isinstance
 ·exact B.len
 ·exact B.list
 ·exact B.max
 ·exact B.min
 ·exact B.range
 ·exact B.set
 ·exact B.sorted
 ·exact B.str
 ·exact B.tuple
theorem hfl:∀ x n,W.fl.contains (x,n)=true->∃ d,defs.find? (fun d=>decide (d.name=x))=some d/\d.mask.length=n:=by
 intro x n h
 have h2:=uK.mp h
 simp only[W,xo,uy,or_false,Prod.mk.injEq]at h2
 rcases h2 with ⟨rfl,rfl⟩ | ⟨rfl,rfl⟩ | ⟨rfl,rfl⟩ | ⟨rfl,rfl⟩ | ⟨rfl,rfl⟩ | ⟨rfl,rfl⟩ | ⟨rfl,rfl⟩ | ⟨rfl,rfl⟩ | ⟨rfl,rfl⟩ | ⟨rfl,rfl⟩ | ⟨rfl,rfl⟩ | ⟨rfl,rfl⟩ | ⟨rfl,rfl⟩ | ⟨rfl,rfl⟩ | ⟨rfl,rfl⟩ | ⟨rfl,rfl⟩ | ⟨rfl,rfl⟩ | ⟨rfl,rfl⟩ | ⟨rfl,rfl⟩ | ⟨rfl,rfl⟩ | ⟨rfl,rfl⟩ | ⟨rfl,rfl⟩ | ⟨rfl,rfl⟩ | ⟨rfl,rfl⟩ | ⟨rfl,rfl⟩ | ⟨rfl,rfl⟩ | ⟨rfl,rfl⟩ | ⟨rfl,rfl⟩ | ⟨rfl,rfl⟩ | ⟨rfl,rfl⟩ | ⟨rfl,rfl⟩ | ⟨rfl,rfl⟩ | ⟨rfl,rfl⟩ | ⟨rfl,rfl⟩ | ⟨rfl,rfl⟩ | ⟨rfl,rfl⟩ | ⟨rfl,rfl⟩ | ⟨rfl,rfl⟩ | ⟨rfl,rfl⟩ | ⟨rfl,rfl⟩ | ⟨rfl,rfl⟩ | ⟨rfl,rfl⟩ | ⟨rfl,rfl⟩ | ⟨rfl,rfl⟩<;>exact⟨_,rfl,rfl⟩
theorem hfx:∀ x n,W.fx.contains (x,n)=true->∃ d,defs.find? (fun d=>decide (d.name=x))=some d/\d.mask.length=n:=fun x n h=>nomatch h
theorem hexm {h:Heap}(X:K.In h) (G:h.Ns mainGlobals mg){C0:Addr}{C1:Addr}(n0:PySem.W.nsIn K mainGlobals "NoCell" =some (some (.ref C0))) (n1:PySem.W.nsIn K mainGlobals "Twice" =some (some (.ref C1))) (x0:PySem.W.excIn K C0 bmV "ValueError.__new__" =true) (x1:PySem.W.excIn K C1 bmV "ValueError.__new__" =true) (r0_0:(mroIn K C0).contains (.ref C0)=decide (("NoCell" :Str)= "NoCell")) (r0_1:(mroIn K C0).contains (.ref C1)=decide (("NoCell" :Str)= "Twice")) (r1_0:(mroIn K C1).contains (.ref C0)=decide (("Twice" :Str)= "NoCell")) (r1_1:(mroIn K C1).contains (.ref C1)=decide (("Twice" :Str)= "Twice")):(∀ x,W.ex.contains x=true->∃ C,mg x=some (.ref C)/\PySem.W.excIn K C bmV "ValueError.__new__" =true)/\∀ x C y C2,W.ex.contains x=true->mg x=some (.ref C)->W.ex.contains y=true->mg y=some (.ref C2)->(mroIn K C).contains (.ref C2)=decide (x=y):=by
 refine⟨fun x h=>?_,fun x C y C2 hx e1 hy e2=>?_⟩
 ·have h2:=uK.mp h
  simp only[W,xo,uy,or_false]at h2
  rcases h2 with rfl | rfl
  ·exact⟨C0,PySem.W.mg_of X G n0,x0⟩
  ·exact⟨C1,PySem.W.mg_of X G n1,x1⟩
 ·have h2:=uK.mp hx
  have h3:=uK.mp hy
  simp only[W,xo,uy,or_false]at h2 h3
  rcases h2 with rfl | rfl
  ·rw[PySem.W.mg_of X G n0]at e1
   cases e1
   rcases h3 with rfl | rfl
   ·rw[PySem.W.mg_of X G n0]at e2
    cases e2
    exact r0_0
   ·rw[PySem.W.mg_of X G n1]at e2
    cases e2
    exact r0_1
  ·rw[PySem.W.mg_of X G n1]at e1
   cases e1
   rcases h3 with rfl | rfl
   ·rw[PySem.W.mg_of X G n0]at e2
    cases e2
    exact r1_0
   ·rw[PySem.W.mg_of X G n1]at e2
    cases e2
    exact r1_1
theorem hgi (GN0:∃ t,mg "NOW" =some (.int 12 t)):∀ x i,W.gi.contains (x,i)=true->∃ t,mg x=some (.int i t):=by
 intro x i h
 have h2:=uK.mp h
 simp only[W,xo,uy,or_false,Prod.mk.injEq]at h2
 obtain⟨rfl,rfl⟩:=h2
 ·exact GN0
theorem hgs:∀ x i,W.gs.contains (x,i)=true->∃ t,mg x=some (.str i t):=fun x i h=>nomatch h
theorem okS:w9 LN ["_law_script"] (defScope sLaw)=true:=by kernel_rfl
theorem hdd (D0:Df K mg "with_wax" (top 6) ["bolt","cells"]) (D1:Df K mg "boiled" (top 7) ["bolt"]) (D2:Df K mg "has_cell" (top 8) ["bolt","at"]) (D3:Df K mg "lacking" (top 10) ["bolt","dye"]) (D4:Df K mg "needed" (top 11) ["bolt"]) (D5:Df K mg "bars" (top 12) ["bolt","fresh"]) (D6:Df K mg "bar_word" (top 13) ["gap","is_fresh"]) (D7:Df K mg "with_cells" (top 16) ["bolt","dyes"]) (D8:Df K mg "is_lower" (top 17) ["one","other"]) (D9:Df K mg "lacking_under_wax" (top 18) ["bolt","dye"]) (D10:Df K mg "stretches" (top 20) ["bolt"]) (D11:Df K mg "held" (top 21) ["bolt"]) (D12:Df K mg "boilings" (top 22) ["bolt"]) (D13:Df K mg "boilings_for" (top 23) ["bolt","dyes"]) (D14:Df K mg "places_above" (top 24) ["bolt","dyes"]) (D15:Df K mg "followers" (top 25) ["above"]) (D16:Df K mg "settle" (top 26) ["at","above","follower","tried"]) (D17:Df K mg "row_behind" (top 27) ["dyes","follower","at"]) (D18:Df K mg "plan" (top 29) ["bolt","fresh"]) (D19:Df K mg "stretch_moves" (top 30) ["bolt","dyes"]) (D20:Df K mg "to_keep_off" (top 31) ["bolt","dye"]) (D21:Df K mg "_law_whole" (top 33) ["_law_found"]) (D22:Df K mg "_law_wholes" (top 34) ["_law_found"]) (D23:Df K mg "_law_mixed" (top 36) ["_law_number","_law_turn"]) (D24:Df K mg "_law_take" (top 37) ["_law_box_here","_law_many"]) (D25:Df K mg "_law_lacks" (top 38) ["_law_box_here","_law_pots","_law_size"]) (D26:Df K mg "_law_cell" (top 39) ["_law_box_here","_law_row","_law_loose","_law_wet"]) (D27:Df K mg "_law_bolt" (top 40) ["_law_box_here","_law_pots","_law_size","_law_loose"]) (D28:Df K mg "_law_sizes" (top 41) ["_law_box_here"]) (D29:Df K mg "_law_wax" (top 42) ["_law_rows","_law_cells"]) (D30:Df K mg "_law_dip" (top 43) ["_law_rows","_law_dye"]) (D31:Df K mg "_law_boil" (top 44) ["_law_rows"]) (D32:Df K mg "_law_full" (top 45) ["_law_rows","_law_dye"]) (D33:Df K mg "_law_lack" (top 46) ["_law_rows","_law_dye"]) (D34:Df K mg "_law_need" (top 47) ["_law_rows","_law_pots"]) (D35:Df K mg "_law_under" (top 48) ["_law_rows","_law_one","_law_other"]) (D36:Df K mg "_law_clash" (top 49) ["_law_rows","_law_one","_law_other"]) (D37:Df K mg "_law_met" (top 50) ["_law_rows"]) (D38:Df K mg "_law_shows" (top 51) ["_law_found","_law_rows","_law_pots"]) (D39:Df K mg "_law_wax_good" (top 52) ["_law_move","_law_rows"]) (D40:Df K mg "_law_dip_good" (top 53) ["_law_move","_law_rows","_law_fresh","_law_dips"]) (D41:Df K mg "_law_walk" (top 54) ["_law_rows","_law_fresh","_law_moves"]) (D42:Df K mg "_law_draw" (top 55) ["_law_box_here","_law_loose"]) (D43:Df K mg "_law_pans" (top 56) ["_law_box_here","_law_rows","_law_pots"]):∀ d∈defs,Df K mg d.name d.st d.ps/\d.ok W=true:=by
 intro d h
 simp only[defs,xo,uy,or_false]at h
 rcases h with rfl | rfl | rfl | rfl | rfl | rfl | rfl | rfl | rfl | rfl | rfl | rfl | rfl | rfl | rfl | rfl | rfl | rfl | rfl | rfl | rfl | rfl | rfl | rfl | rfl | rfl | rfl | rfl | rfl | rfl | rfl | rfl | rfl | rfl | rfl | rfl | rfl | rfl | rfl | rfl | rfl | rfl | rfl | rfl
 ·exact⟨D0,wZ⟩
 ·exact⟨D1,vA⟩
 ·exact⟨D2,wP⟩
 ·exact⟨D3,Wv⟩
 ·exact⟨D4,VN⟩
 ·exact⟨D5,Yt⟩
 ·exact⟨D6,ww⟩
 ·exact⟨D7,Q6⟩
 ·exact⟨D8,wH⟩
 ·exact⟨D9,jG⟩
 ·exact⟨D10,JP⟩
 ·exact⟨D11,Ym⟩
 ·exact⟨D12,Wi⟩
 ·exact⟨D13,Z1⟩
 ·exact⟨D14,ZZ⟩
 ·exact⟨D15,JO⟩
 ·exact⟨D16,Vl⟩
 ·exact⟨D17,Q5⟩
 ·exact⟨D18,Y1⟩
 ·exact⟨D19,ZH⟩
 ·exact⟨D20,Qy⟩
 ·exact⟨D21,Wy⟩
 ·exact⟨D22,wO⟩
 ·exact⟨D23,WB⟩
 ·exact⟨D24,VM⟩
 ·exact⟨D25,Wo⟩
 ·exact⟨D26,vW⟩
 ·exact⟨D27,vY⟩
 ·exact⟨D28,Wq⟩
 ·exact⟨D29,yx⟩
 ·exact⟨D30,yW⟩
 ·exact⟨D31,v6⟩
 ·exact⟨D32,Vr⟩
 ·exact⟨D33,VY⟩
 ·exact⟨D34,VU⟩
 ·exact⟨D35,Wt⟩
 ·exact⟨D36,WC⟩
 ·exact⟨D37,yt⟩
 ·exact⟨D38,WE⟩
 ·exact⟨D39,Jo⟩
 ·exact⟨D40,Jl⟩
 ·exact⟨D41,vz⟩
 ·exact⟨D42,Vb⟩
 ·exact⟨D43,Va⟩
end
noncomputable def dP(s:Stmt):Arguments:=match s with
 |.FunctionDef _ a _ _ _ _ _ _ _ _=>a
 |_=>⟨[],[],none,[],[],none,[]⟩
noncomputable abbrev dB:=L2.defBody
noncomputable abbrev dS:=L2.defScope
noncomputable abbrev dE(P:PySem.Params)(n:Str)(t:Nat)(v:Value):DictEntry:=.mk (PySem.PyData.keyHash P n) (.str n t) v
noncomputable abbrev oT (a:Array Value):Obj:=.mk (.type "tuple") none (.seq a 0) #[]
noncomputable abbrev oC (n:Str) (t l a f r x b c:Nat):Obj:=.mk (.type "code") none (.fields #[.str n t,.str n (t+1),.str "/claim/cut.py" (t+2),.int l 0,.int a 0,.int 0 0,.int 0 0,.int f 0,.ref r,.bool true,.int x 0,.ref b,.none,.none,.none,.ref c,.int ((t+3:Nat):Int) 0,.int l 0,.str "/claim/cut.py" (t+4)]) #[]
noncomputable abbrev oF (n:Str) (i:Nat) (m:Str) (t c:Nat):Obj:=.mk (.type "function") none (.func (.mk n n (dP (top i)) (.stmts (dB (top i))) (dS (top i)) 3 [] .none .none .none (.str m t) none (.ref c) .none 0)) #[]
noncomputable abbrev dR(P:PySem.Params)(n:Str)(t a:Nat):DictEntry:=.mk (PySem.PyData.keyHash P n) (.str n t) (.ref a)
noncomputable abbrev oZ:Obj:=.mk .none none (.fields #[]) #[]
noncomputable abbrev oG(n:Str)(i:Nat):Obj:=.mk .none none (.func (.mk n n (dP (top i)) (.stmts (dB (top i))) (dS (top i)) 0 [] .none .none .none .none none .none .none 0)) #[]
noncomputable abbrev oB:Obj:=.mk (.type "builtin_function_or_method") none (.fields #[.builtin "type.__prepare__",.type "type"]) #[]
noncomputable abbrev oI (a:Nat):Obj:=.mk (.type "builtin_function_or_method") none (.fields #[.builtin "object.__init_subclass__",.ref a]) #[]
noncomputable abbrev oS (a:Nat):Obj:=.mk (.type "super") none (.fields #[.ref a,.ref a,.ref a]) #[]
noncomputable abbrev oR (a b:Nat) (m:Str) (t:Nat):Obj:=.mk (.type "frame") none .plain #[some (.ref a),some (.ref 3),some (.ref b),none,some (.str m t),none,some (.ref 0)]
noncomputable abbrev oK (n:Str) (t l a x b:Nat):Obj:=.mk (.type "code") none (.fields #[.str n t,.str n (t+1),.str "/claim/cut.py" (t+2),.int l 0,.int 0 0,.int 0 0,.int 0 0,.int 0 0,.ref a,.bool false,.int x 0,.ref b,.none,.none,.none,.none,.int ((t+3:Nat):Int) 0,.int l 0,.str "/claim/cut.py" (t+4)]) #[]
noncomputable def v3:List (Nat×Nat)->List Value
 |[]=> []
 | (l,a)::r=>.int l 0::.int 0 0::.ref a::v3 r
noncomputable abbrev o3(l:List (Nat×Nat)):Obj:=.mk .none none (.fields (v3 l).toArray) #[]
noncomputable def K(P:PySem.Params):PySem.W.Frag :=
 (nat_lit 2,(PySem.Obj.mk .none none (.dict #[] 0) #[])) ::
 (nat_lit 3,(PySem.Obj.mk (.type "dict") none (.dict #[(dE P "__name__" 165 (.str "law_waxcloth_k25_whole_fewest_boilings" 447)),(dE P "__doc__" 166 .none),(dE P "__package__" 167 .none),(dE P "__loader__" 168 (.builtin "__main__.__loader__#opaque")),(dE P "__spec__" 169 .none),(dE P "__annotations__" 170 (.ref 6)),(dE P "__builtins__" 171 (.ref 4)),(dE P "__file__" 173 (.str "/claim/cut.py" 172)),(dE P "__cached__" 174 .none),(dE P "WaxError" 206 (.ref 24)),(dE P "NoCell" 222 (.ref 37)),(dE P "Twice" 238 (.ref 49)),(dE P "Barred" 263 (.ref 68)),(dE P "with_wax" 271 (.ref 75)),(dE P "boiled" 277 (.ref 80)),(dE P "has_cell" 285 (.ref 87)),(dE P "lacking" 293 (.ref 92)),(dE P "needed" 299 (.ref 97)),(dE P "bars" 314 (.ref 104)),(dE P "bar_word" 322 (.ref 111)),(dE P "NOW" 326 (.int 12 325)),(dE P "with_cells" 332 (.ref 116)),(dE P "is_lower" 344 (.ref 123)),(dE P "lacking_under_wax" 350 (.ref 128)),(dE P "stretches" 358 (.ref 133)),(dE P "held" 364 (.ref 138)),(dE P "boilings" 371 (.ref 145)),(dE P "boilings_for" 380 (.ref 152)),(dE P "places_above" 386 (.ref 157)),(dE P "followers" 392 (.ref 162)),(dE P "settle" 403 (.ref 169)),(dE P "row_behind" 413 (.ref 176)),(dE P "plan" 429 (.ref 183)),(dE P "stretch_moves" 440 (.ref 190)),(dE P "to_keep_off" 446 (.ref 195)),(dE P "_law_whole" 455 (.ref 202)),(dE P "_law_wholes" 461 (.ref 207)),(dE P "_law_box" 470 (.ref 214)),(dE P "_law_mixed" 480 (.ref 221)),(dE P "_law_take" 490 (.ref 228)),(dE P "_law_lacks" 496 (.ref 233)),(dE P "_law_cell" 510 (.ref 240)),(dE P "_law_bolt" 516 (.ref 245)),(dE P "_law_sizes" 523 (.ref 252)),(dE P "_law_wax" 529 (.ref 257)),(dE P "_law_dip" 535 (.ref 262)),(dE P "_law_boil" 541 (.ref 267)),(dE P "_law_full" 547 (.ref 272)),(dE P "_law_lack" 553 (.ref 277)),(dE P "_law_need" 559 (.ref 282)),(dE P "_law_under" 565 (.ref 287)),(dE P "_law_clash" 574 (.ref 294)),(dE P "_law_met" 580 (.ref 299)),(dE P "_law_shows" 586 (.ref 304)),(dE P "_law_wax_good" 592 (.ref 309)),(dE P "_law_dip_good" 602 (.ref 316)),(dE P "_law_walk" 614 (.ref 323)),(dE P "_law_draw" 624 (.ref 330)),(dE P "_law_pans" 630 (.ref 335)),(dE P "law" 644 (.ref 342))] 60) #[])) ::
 (nat_lit 15,oT #[(.type "ValueError")]) ::
 (nat_lit 22,oT #[]) ::
 (nat_lit 23,(PySem.Obj.mk (.type "dict") none (.dict #[(dE P "__module__" 196 (.str "waxcloth.errors" 187)),(dE P "__firstlineno__" 200 (.int 2 199)),(dE P "__static_attributes__" 201 (.ref 22)),(dE P "__weakref__" 203 (.ref 25)),(dE P "__doc__" 204 .none)] 3) #[])) ::
 (nat_lit 24,(PySem.Obj.mk (.type "type") none (.cls (PySem.ClassData.mk "WaxError" [(.type "ValueError")] [(.ref 24),(.type "ValueError"),(.type "Exception"),(.type "BaseException"),(.type "object")] 23 "WaxError" true [] [(.ref 37),(.ref 49),(.ref 68)] false none false)) #[(Option.some (.ref 15)),none,(Option.some (.str "WaxError" 189)),(Option.some (.str "WaxError" 197)),(Option.some (.builtin "ValueError.__new__")),(Option.some (.bool true))])) ::
 (nat_lit 25,(PySem.Obj.mk (.type "getset_descriptor") none (.fields #[(.str "__weakref__" 202),(.ref 24),(.builtin "ExceptionGroup.__weakref__"),.none]) #[])) ::
 (nat_lit 28,oT #[(.ref 24)]) ::
 (nat_lit 35,oT #[]) ::
 (nat_lit 36,(PySem.Obj.mk (.type "dict") none (.dict #[(dE P "__module__" 214 (.str "waxcloth.errors" 187)),(dE P "__firstlineno__" 218 (.int 4 217)),(dE P "__static_attributes__" 219 (.ref 35)),(dE P "__doc__" 220 .none)] 2) #[])) ::
 (nat_lit 37,(PySem.Obj.mk (.type "type") none (.cls (PySem.ClassData.mk "NoCell" [(.ref 24)] [(.ref 37),(.ref 24),(.type "ValueError"),(.type "Exception"),(.type "BaseException"),(.type "object")] 36 "NoCell" true [] [] false none false)) #[(Option.some (.ref 28)),none,(Option.some (.str "NoCell" 207)),(Option.some (.str "NoCell" 215)),(Option.some (.builtin "ValueError.__new__")),(Option.some (.bool true))])) ::
 (nat_lit 40,oT #[(.ref 24)]) ::
 (nat_lit 47,oT #[]) ::
 (nat_lit 48,(PySem.Obj.mk (.type "dict") none (.dict #[(dE P "__module__" 230 (.str "waxcloth.errors" 187)),(dE P "__firstlineno__" 234 (.int 6 233)),(dE P "__static_attributes__" 235 (.ref 47)),(dE P "__doc__" 236 .none)] 2) #[])) ::
 (nat_lit 49,(PySem.Obj.mk (.type "type") none (.cls (PySem.ClassData.mk "Twice" [(.ref 24)] [(.ref 49),(.ref 24),(.type "ValueError"),(.type "Exception"),(.type "BaseException"),(.type "object")] 48 "Twice" true [] [] false none false)) #[(Option.some (.ref 40)),none,(Option.some (.str "Twice" 223)),(Option.some (.str "Twice" 231)),(Option.some (.builtin "ValueError.__new__")),(Option.some (.bool true))])) ::
 (nat_lit 52,oT #[(.ref 24)]) ::
 (nat_lit 59,oT #[]) ::
 (nat_lit 61,oT #[(.str "self" 254),(.str "bars" 255)]) ::
 (nat_lit 62,oT #[]) ::
 (nat_lit 64,(PySem.Obj.mk (.type "code") none (.fields #[(.str "__init__" 251),(.str "Barred.__init__" 252),(.str "/claim/cut.py" 253),(.int 10 0),(.int 2 0),(.int 0 0),(.int 0 0),(.int 3 0),(.ref 59),(.bool true),(.int 181 0),(.ref 60),.none,(.ref 61),(.ref 62),(.ref 63),(.int 256 0),(.int 10 0),(.str "/claim/cut.py" 257)]) #[])) ::
 (nat_lit 65,(PySem.Obj.mk (.type "function") none (.func (PySem.FuncData.mk "__init__" "Barred.__init__" (PySem.Arguments.mk [] [(PySem.Arg.mk "self" none (PySem.Pos.mk 10 17 10 21)),(PySem.Arg.mk "bars" none (PySem.Pos.mk 10 23 10 27))] none [] [] none []) (PySem.FuncBody.stmts [(.Expr (.Call (.Attribute (.Name "WaxError" (PySem.Pos.mk 11 8 11 16)) "__init__" (PySem.Pos.mk 11 8 11 25)) [(.Name "self" (PySem.Pos.mk 11 26 11 30)),(.Constant (PySem.Const.str "bars stand against the plan") 0 (PySem.Pos.mk 11 32 11 61))] [] (PySem.Pos.mk 11 8 11 62)) (PySem.Pos.mk 11 8 11 62)),(.Assign [(.Attribute (.Name "self" (PySem.Pos.mk 12 8 12 12)) "bars" (PySem.Pos.mk 12 8 12 17))] (.Call (.Name "list" (PySem.Pos.mk 12 20 12 24)) [(.Name "bars" (PySem.Pos.mk 12 25 12 29))] [] (PySem.Pos.mk 12 20 12 30)) (PySem.Pos.mk 12 8 12 30))]) (PySem.Scope.mk PySem.ScopeKind.function [("self",PySem.NameKind.local),("bars",PySem.NameKind.local),("WaxError",PySem.NameKind.globalImplicit),("list",PySem.NameKind.globalImplicit)] false false []) 3 [] .none .none .none (.str "waxcloth.errors" 187) none (.ref 64) .none 0)) #[])) ::
 (nat_lit 66,oT #[(.str "bars" 259)]) ::
 (nat_lit 67,(PySem.Obj.mk (.type "dict") none (.dict #[(dE P "__module__" 246 (.str "waxcloth.errors" 187)),(dE P "__firstlineno__" 250 (.int 8 249)),(dE P "__init__" 258 (.ref 65)),(dE P "__static_attributes__" 260 (.ref 66)),(dE P "__doc__" 261 .none)] 2) #[])) ::
 (nat_lit 68,(PySem.Obj.mk (.type "type") none (.cls (PySem.ClassData.mk "Barred" [(.ref 24)] [(.ref 68),(.ref 24),(.type "ValueError"),(.type "Exception"),(.type "BaseException"),(.type "object")] 67 "Barred" true [] [] false none false)) #[(Option.some (.ref 52)),none,(Option.some (.str "Barred" 239)),(Option.some (.str "Barred" 247)),(Option.some (.builtin "ValueError.__new__")),(Option.some (.bool true))])) ::
 (nat_lit 71,oT #[]) ::
 (nat_lit 74,oC "with_wax" 266 14 2 3 71 181 72 73) ::
 (nat_lit 75,oF "with_wax" 6 "waxcloth.bolt" 264 74) ::
 (nat_lit 76,oT #[]) ::
 (nat_lit 79,oC "boiled" 272 20 1 3 76 181 77 78) ::
 (nat_lit 80,oF "boiled" 7 "waxcloth.bolt" 264 79) ::
 (nat_lit 81,oT #[]) ::
 (nat_lit 83,oT #[(.str "bolt" 281),(.str "at" 282)]) ::
 (nat_lit 84,oT #[]) ::
 (nat_lit 86,(PySem.Obj.mk (.type "code") none (.fields #[(.str "has_cell" 278),(.str "has_cell" 279),(.str "/claim/cut.py" 280),(.int 22 0),(.int 2 0),(.int 0 0),(.int 0 0),(.int 3 0),(.ref 81),(.bool true),(.int 181 0),(.ref 82),.none,(.ref 83),(.ref 84),(.ref 85),(.int 283 0),(.int 22 0),(.str "/claim/cut.py" 284)]) #[])) ::
 (nat_lit 87,oF "has_cell" 8 "waxcloth.bolt" 264 86) ::
 (nat_lit 88,oT #[]) ::
 (nat_lit 91,oC "lacking" 288 25 2 3 88 181 89 90) ::
 (nat_lit 92,oF "lacking" 10 "waxcloth.needs" 286 91) ::
 (nat_lit 93,oT #[]) ::
 (nat_lit 96,oC "needed" 294 27 1 3 93 181 94 95) ::
 (nat_lit 97,oF "needed" 11 "waxcloth.needs" 286 96) ::
 (nat_lit 98,oT #[]) ::
 (nat_lit 100,oT #[(.str "bolt" 303),(.str "fresh" 304),(.str "told" 305),(.str "at" 306),(.str "stain" 307),(.str "waxed" 308),(.str "wish" 309),(.str "dye" 310),(.str "word" 311)]) ::
 (nat_lit 101,oT #[]) ::
 (nat_lit 103,(PySem.Obj.mk (.type "code") none (.fields #[(.str "bars" 300),(.str "bars" 301),(.str "/claim/cut.py" 302),(.int 32 0),(.int 2 0),(.int 0 0),(.int 0 0),(.int 3 0),(.ref 98),(.bool true),(.int 181 0),(.ref 99),.none,(.ref 100),(.ref 101),(.ref 102),(.int 312 0),(.int 32 0),(.str "/claim/cut.py" 313)]) #[])) ::
 (nat_lit 104,oF "bars" 12 "waxcloth.needs" 286 103) ::
 (nat_lit 105,oT #[]) ::
 (nat_lit 107,oT #[(.str "gap" 318),(.str "is_fresh" 319)]) ::
 (nat_lit 108,oT #[]) ::
 (nat_lit 110,(PySem.Obj.mk (.type "code") none (.fields #[(.str "bar_word" 315),(.str "bar_word" 316),(.str "/claim/cut.py" 317),(.int 40 0),(.int 2 0),(.int 0 0),(.int 0 0),(.int 3 0),(.ref 105),(.bool true),(.int 181 0),(.ref 106),.none,(.ref 107),(.ref 108),(.ref 109),(.int 320 0),(.int 40 0),(.str "/claim/cut.py" 321)]) #[])) ::
 (nat_lit 111,oF "bar_word" 13 "waxcloth.needs" 286 110) ::
 (nat_lit 112,oT #[]) ::
 (nat_lit 115,oC "with_cells" 327 50 2 3 112 181 113 114) ::
 (nat_lit 116,oF "with_cells" 16 "waxcloth.order" 323 115) ::
 (nat_lit 117,oT #[]) ::
 (nat_lit 119,oT #[(.str "one" 336),(.str "other" 337),(.str "dye" 338),(.str "cells" 339),(.str "other_dye" 340),(.str "other_cells" 341)]) ::
 (nat_lit 120,oT #[]) ::
 (nat_lit 122,(PySem.Obj.mk (.type "code") none (.fields #[(.str "is_lower" 333),(.str "is_lower" 334),(.str "/claim/cut.py" 335),(.int 52 0),(.int 2 0),(.int 0 0),(.int 0 0),(.int 3 0),(.ref 117),(.bool true),(.int 181 0),(.ref 118),.none,(.ref 119),(.ref 120),(.ref 121),(.int 342 0),(.int 52 0),(.str "/claim/cut.py" 343)]) #[])) ::
 (nat_lit 123,oF "is_lower" 17 "waxcloth.order" 323 122) ::
 (nat_lit 124,oT #[]) ::
 (nat_lit 127,oC "lacking_under_wax" 345 58 2 3 124 181 125 126) ::
 (nat_lit 128,oF "lacking_under_wax" 18 "waxcloth.order" 323 127) ::
 (nat_lit 129,oT #[]) ::
 (nat_lit 132,oC "stretches" 353 61 1 3 129 181 130 131) ::
 (nat_lit 133,oF "stretches" 20 "waxcloth.sharing" 351 132) ::
 (nat_lit 134,oT #[]) ::
 (nat_lit 137,oC "held" 359 66 1 3 134 181 135 136) ::
 (nat_lit 138,oF "held" 21 "waxcloth.sharing" 351 137) ::
 (nat_lit 139,oT #[]) ::
 (nat_lit 141,oT #[(.str "bolt" 368)]) ::
 (nat_lit 142,oT #[]) ::
 (nat_lit 144,(PySem.Obj.mk (.type "code") none (.fields #[(.str "boilings" 365),(.str "boilings" 366),(.str "/claim/cut.py" 367),(.int 77 0),(.int 1 0),(.int 0 0),(.int 0 0),(.int 3 0),(.ref 139),(.bool true),(.int 181 0),(.ref 140),.none,(.ref 141),(.ref 142),(.ref 143),(.int 369 0),(.int 77 0),(.str "/claim/cut.py" 370)]) #[])) ::
 (nat_lit 145,oF "boilings" 22 "waxcloth.sharing" 351 144) ::
 (nat_lit 146,oT #[]) ::
 (nat_lit 148,oT #[(.str "bolt" 375),(.str "dyes" 376),(.str "follower" 377)]) ::
 (nat_lit 149,oT #[]) ::
 (nat_lit 151,(PySem.Obj.mk (.type "code") none (.fields #[(.str "boilings_for" 372),(.str "boilings_for" 373),(.str "/claim/cut.py" 374),(.int 79 0),(.int 2 0),(.int 0 0),(.int 0 0),(.int 3 0),(.ref 146),(.bool true),(.int 181 0),(.ref 147),.none,(.ref 148),(.ref 149),(.ref 150),(.int 378 0),(.int 79 0),(.str "/claim/cut.py" 379)]) #[])) ::
 (nat_lit 152,oF "boilings_for" 23 "waxcloth.sharing" 351 151) ::
 (nat_lit 153,oT #[]) ::
 (nat_lit 156,oC "places_above" 381 82 2 3 153 181 154 155) ::
 (nat_lit 157,oF "places_above" 24 "waxcloth.sharing" 351 156) ::
 (nat_lit 158,oT #[]) ::
 (nat_lit 161,oC "followers" 387 91 1 3 158 181 159 160) ::
 (nat_lit 162,oF "followers" 25 "waxcloth.sharing" 351 161) ::
 (nat_lit 163,oT #[]) ::
 (nat_lit 165,oT #[(.str "at" 396),(.str "above" 397),(.str "follower" 398),(.str "tried" 399),(.str "place" 400)]) ::
 (nat_lit 166,oT #[]) ::
 (nat_lit 168,(PySem.Obj.mk (.type "code") none (.fields #[(.str "settle" 393),(.str "settle" 394),(.str "/claim/cut.py" 395),(.int 96 0),(.int 4 0),(.int 0 0),(.int 0 0),(.int 3 0),(.ref 163),(.bool true),(.int 181 0),(.ref 164),.none,(.ref 165),(.ref 166),(.ref 167),(.int 401 0),(.int 96 0),(.str "/claim/cut.py" 402)]) #[])) ::
 (nat_lit 169,oF "settle" 26 "waxcloth.sharing" 351 168) ::
 (nat_lit 170,oT #[]) ::
 (nat_lit 172,oT #[(.str "dyes" 407),(.str "follower" 408),(.str "at" 409),(.str "row" 410)]) ::
 (nat_lit 173,oT #[]) ::
 (nat_lit 175,(PySem.Obj.mk (.type "code") none (.fields #[(.str "row_behind" 404),(.str "row_behind" 405),(.str "/claim/cut.py" 406),(.int 104 0),(.int 3 0),(.int 0 0),(.int 0 0),(.int 3 0),(.ref 170),(.bool true),(.int 181 0),(.ref 171),.none,(.ref 172),(.ref 173),(.ref 174),(.int 411 0),(.int 104 0),(.str "/claim/cut.py" 412)]) #[])) ::
 (nat_lit 176,oF "row_behind" 27 "waxcloth.sharing" 351 175) ::
 (nat_lit 177,oT #[]) ::
 (nat_lit 179,oT #[(.str "bolt" 419),(.str "fresh" 420),(.str "found" 421),(.str "present" 422),(.str "others" 423),(.str "moves" 424),(.str "clean" 425),(.str "dyes" 426)]) ::
 (nat_lit 180,oT #[]) ::
 (nat_lit 182,(PySem.Obj.mk (.type "code") none (.fields #[(.str "plan" 416),(.str "plan" 417),(.str "/claim/cut.py" 418),(.int 112 0),(.int 2 0),(.int 0 0),(.int 0 0),(.int 3 0),(.ref 177),(.bool true),(.int 181 0),(.ref 178),.none,(.ref 179),(.ref 180),(.ref 181),(.int 427 0),(.int 112 0),(.str "/claim/cut.py" 428)]) #[])) ::
 (nat_lit 183,oF "plan" 29 "waxcloth.plans" 414 182) ::
 (nat_lit 184,oT #[]) ::
 (nat_lit 186,oT #[(.str "bolt" 433),(.str "dyes" 434),(.str "moves" 435),(.str "dye" 436),(.str "cells" 437)]) ::
 (nat_lit 187,oT #[]) ::
 (nat_lit 189,(PySem.Obj.mk (.type "code") none (.fields #[(.str "stretch_moves" 430),(.str "stretch_moves" 431),(.str "/claim/cut.py" 432),(.int 123 0),(.int 2 0),(.int 0 0),(.int 0 0),(.int 3 0),(.ref 184),(.bool true),(.int 181 0),(.ref 185),.none,(.ref 186),(.ref 187),(.ref 188),(.int 438 0),(.int 123 0),(.str "/claim/cut.py" 439)]) #[])) ::
 (nat_lit 190,oF "stretch_moves" 30 "waxcloth.plans" 414 189) ::
 (nat_lit 191,oT #[]) ::
 (nat_lit 194,oC "to_keep_off" 441 132 2 3 191 181 192 193) ::
 (nat_lit 195,oF "to_keep_off" 31 "waxcloth.plans" 414 194) ::
 (nat_lit 196,oT #[]) ::
 (nat_lit 198,oT #[(.str "_law_found" 452)]) ::
 (nat_lit 199,oT #[]) ::
 (nat_lit 201,(PySem.Obj.mk (.type "code") none (.fields #[(.str "_law_whole" 449),(.str "_law_whole" 450),(.str "/claim/cut.py" 451),(.int 135 0),(.int 1 0),(.int 0 0),(.int 0 0),(.int 3 0),(.ref 196),(.bool true),(.int 181 0),(.ref 197),.none,(.ref 198),(.ref 199),(.ref 200),(.int 453 0),(.int 135 0),(.str "/claim/cut.py" 454)]) #[])) ::
 (nat_lit 202,oF "_law_whole" 33 "law_waxcloth_k25_whole_fewest_boilings" 447 201) ::
 (nat_lit 203,oT #[]) ::
 (nat_lit 206,oC "_law_wholes" 456 137 1 3 203 181 204 205) ::
 (nat_lit 207,oF "_law_wholes" 34 "law_waxcloth_k25_whole_fewest_boilings" 447 206) ::
 (nat_lit 208,oT #[]) ::
 (nat_lit 210,oT #[(.str "_law_script" 465),(.str "_law_seed" 466),(.str "_law_cell_here" 467)]) ::
 (nat_lit 211,oT #[]) ::
 (nat_lit 213,(PySem.Obj.mk (.type "code") none (.fields #[(.str "_law_box" 462),(.str "_law_box" 463),(.str "/claim/cut.py" 464),(.int 139 0),(.int 1 0),(.int 0 0),(.int 0 0),(.int 3 0),(.ref 208),(.bool true),(.int 181 0),(.ref 209),.none,(.ref 210),(.ref 211),(.ref 212),(.int 468 0),(.int 139 0),(.str "/claim/cut.py" 469)]) #[])) ::
 (nat_lit 214,oF "_law_box" 35 "law_waxcloth_k25_whole_fewest_boilings" 447 213) ::
 (nat_lit 215,oT #[]) ::
 (nat_lit 217,oT #[(.str "_law_number" 474),(.str "_law_turn" 475),(.str "_law_one" 476),(.str "_law_two" 477)]) ::
 (nat_lit 218,oT #[]) ::
 (nat_lit 220,(PySem.Obj.mk (.type "code") none (.fields #[(.str "_law_mixed" 471),(.str "_law_mixed" 472),(.str "/claim/cut.py" 473),(.int 144 0),(.int 2 0),(.int 0 0),(.int 0 0),(.int 3 0),(.ref 215),(.bool true),(.int 181 0),(.ref 216),.none,(.ref 217),(.ref 218),(.ref 219),(.int 478 0),(.int 144 0),(.str "/claim/cut.py" 479)]) #[])) ::
 (nat_lit 221,oF "_law_mixed" 36 "law_waxcloth_k25_whole_fewest_boilings" 447 220) ::
 (nat_lit 222,oT #[]) ::
 (nat_lit 224,oT #[(.str "_law_box_here" 484),(.str "_law_many" 485),(.str "_law_left" 486),(.str "_law_cell_here" 487)]) ::
 (nat_lit 225,oT #[]) ::
 (nat_lit 227,(PySem.Obj.mk (.type "code") none (.fields #[(.str "_law_take" 481),(.str "_law_take" 482),(.str "/claim/cut.py" 483),(.int 148 0),(.int 2 0),(.int 0 0),(.int 0 0),(.int 3 0),(.ref 222),(.bool true),(.int 181 0),(.ref 223),.none,(.ref 224),(.ref 225),(.ref 226),(.int 488 0),(.int 148 0),(.str "/claim/cut.py" 489)]) #[])) ::
 (nat_lit 228,oF "_law_take" 37 "law_waxcloth_k25_whole_fewest_boilings" 447 227) ::
 (nat_lit 229,oT #[]) ::
 (nat_lit 232,oC "_law_lacks" 491 162 3 3 229 181 230 231) ::
 (nat_lit 233,oF "_law_lacks" 38 "law_waxcloth_k25_whole_fewest_boilings" 447 232) ::
 (nat_lit 234,oT #[]) ::
 (nat_lit 236,oT #[(.str "_law_box_here" 500),(.str "_law_row" 501),(.str "_law_loose" 502),(.str "_law_wet" 503),(.str "_law_stain" 504),(.str "_law_want" 505),(.str "_law_bit" 506),(.str "_law_shade" 507)]) ::
 (nat_lit 237,oT #[]) ::
 (nat_lit 239,(PySem.Obj.mk (.type "code") none (.fields #[(.str "_law_cell" 497),(.str "_law_cell" 498),(.str "/claim/cut.py" 499),(.int 179 0),(.int 4 0),(.int 0 0),(.int 0 0),(.int 3 0),(.ref 234),(.bool true),(.int 181 0),(.ref 235),.none,(.ref 236),(.ref 237),(.ref 238),(.int 508 0),(.int 179 0),(.str "/claim/cut.py" 509)]) #[])) ::
 (nat_lit 240,oF "_law_cell" 39 "law_waxcloth_k25_whole_fewest_boilings" 447 239) ::
 (nat_lit 241,oT #[]) ::
 (nat_lit 244,oC "_law_bolt" 511 190 4 3 241 181 242 243) ::
 (nat_lit 245,oF "_law_bolt" 40 "law_waxcloth_k25_whole_fewest_boilings" 447 244) ::
 (nat_lit 246,oT #[]) ::
 (nat_lit 248,oT #[(.str "_law_box_here" 520)]) ::
 (nat_lit 249,oT #[]) ::
 (nat_lit 251,(PySem.Obj.mk (.type "code") none (.fields #[(.str "_law_sizes" 517),(.str "_law_sizes" 518),(.str "/claim/cut.py" 519),(.int 194 0),(.int 1 0),(.int 0 0),(.int 0 0),(.int 3 0),(.ref 246),(.bool true),(.int 181 0),(.ref 247),.none,(.ref 248),(.ref 249),(.ref 250),(.int 521 0),(.int 194 0),(.str "/claim/cut.py" 522)]) #[])) ::
 (nat_lit 252,oF "_law_sizes" 41 "law_waxcloth_k25_whole_fewest_boilings" 447 251) ::
 (nat_lit 253,oT #[]) ::
 (nat_lit 256,oC "_law_wax" 524 198 2 3 253 181 254 255) ::
 (nat_lit 257,oF "_law_wax" 42 "law_waxcloth_k25_whole_fewest_boilings" 447 256) ::
 (nat_lit 258,oT #[]) ::
 (nat_lit 261,oC "_law_dip" 530 200 2 3 258 181 259 260) ::
 (nat_lit 262,oF "_law_dip" 43 "law_waxcloth_k25_whole_fewest_boilings" 447 261) ::
 (nat_lit 263,oT #[]) ::
 (nat_lit 266,oC "_law_boil" 536 207 1 3 263 181 264 265) ::
 (nat_lit 267,oF "_law_boil" 44 "law_waxcloth_k25_whole_fewest_boilings" 447 266) ::
 (nat_lit 268,oT #[]) ::
 (nat_lit 271,oC "_law_full" 542 209 2 3 268 181 269 270) ::
 (nat_lit 272,oF "_law_full" 45 "law_waxcloth_k25_whole_fewest_boilings" 447 271) ::
 (nat_lit 273,oT #[]) ::
 (nat_lit 276,oC "_law_lack" 548 211 2 3 273 181 274 275) ::
 (nat_lit 277,oF "_law_lack" 46 "law_waxcloth_k25_whole_fewest_boilings" 447 276) ::
 (nat_lit 278,oT #[]) ::
 (nat_lit 281,oC "_law_need" 554 213 2 3 278 181 279 280) ::
 (nat_lit 282,oF "_law_need" 47 "law_waxcloth_k25_whole_fewest_boilings" 447 281) ::
 (nat_lit 283,oT #[]) ::
 (nat_lit 286,oC "_law_under" 560 215 3 3 283 181 284 285) ::
 (nat_lit 287,oF "_law_under" 48 "law_waxcloth_k25_whole_fewest_boilings" 447 286) ::
 (nat_lit 288,oT #[]) ::
 (nat_lit 290,oT #[(.str "_law_rows" 569),(.str "_law_one" 570),(.str "_law_other" 571)]) ::
 (nat_lit 291,oT #[]) ::
 (nat_lit 293,(PySem.Obj.mk (.type "code") none (.fields #[(.str "_law_clash" 566),(.str "_law_clash" 567),(.str "/claim/cut.py" 568),(.int 225 0),(.int 3 0),(.int 0 0),(.int 0 0),(.int 3 0),(.ref 288),(.bool true),(.int 181 0),(.ref 289),.none,(.ref 290),(.ref 291),(.ref 292),(.int 572 0),(.int 225 0),(.str "/claim/cut.py" 573)]) #[])) ::
 (nat_lit 294,oF "_law_clash" 49 "law_waxcloth_k25_whole_fewest_boilings" 447 293) ::
 (nat_lit 295,oT #[]) ::
 (nat_lit 298,oC "_law_met" 575 227 1 3 295 181 296 297) ::
 (nat_lit 299,oF "_law_met" 50 "law_waxcloth_k25_whole_fewest_boilings" 447 298) ::
 (nat_lit 300,oT #[]) ::
 (nat_lit 303,oC "_law_shows" 581 229 3 3 300 181 301 302) ::
 (nat_lit 304,oF "_law_shows" 51 "law_waxcloth_k25_whole_fewest_boilings" 447 303) ::
 (nat_lit 305,oT #[]) ::
 (nat_lit 308,oC "_law_wax_good" 587 238 2 3 305 181 306 307) ::
 (nat_lit 309,oF "_law_wax_good" 52 "law_waxcloth_k25_whole_fewest_boilings" 447 308) ::
 (nat_lit 310,oT #[]) ::
 (nat_lit 312,oT #[(.str "_law_move" 596),(.str "_law_rows" 597),(.str "_law_fresh" 598),(.str "_law_dips" 599)]) ::
 (nat_lit 313,oT #[]) ::
 (nat_lit 315,(PySem.Obj.mk (.type "code") none (.fields #[(.str "_law_dip_good" 593),(.str "_law_dip_good" 594),(.str "/claim/cut.py" 595),(.int 245 0),(.int 4 0),(.int 0 0),(.int 0 0),(.int 3 0),(.ref 310),(.bool true),(.int 181 0),(.ref 311),.none,(.ref 312),(.ref 313),(.ref 314),(.int 600 0),(.int 245 0),(.str "/claim/cut.py" 601)]) #[])) ::
 (nat_lit 316,oF "_law_dip_good" 53 "law_waxcloth_k25_whole_fewest_boilings" 447 315) ::
 (nat_lit 317,oT #[]) ::
 (nat_lit 319,oT #[(.str "_law_rows" 606),(.str "_law_fresh" 607),(.str "_law_moves" 608),(.str "_law_dips" 609),(.str "_law_boils" 610),(.str "_law_move" 611)]) ::
 (nat_lit 320,oT #[]) ::
 (nat_lit 322,(PySem.Obj.mk (.type "code") none (.fields #[(.str "_law_walk" 603),(.str "_law_walk" 604),(.str "/claim/cut.py" 605),(.int 249 0),(.int 3 0),(.int 0 0),(.int 0 0),(.int 3 0),(.ref 317),(.bool true),(.int 181 0),(.ref 318),.none,(.ref 319),(.ref 320),(.ref 321),(.int 612 0),(.int 249 0),(.str "/claim/cut.py" 613)]) #[])) ::
 (nat_lit 323,oF "_law_walk" 54 "law_waxcloth_k25_whole_fewest_boilings" 447 322) ::
 (nat_lit 324,oT #[]) ::
 (nat_lit 326,oT #[(.str "_law_box_here" 618),(.str "_law_loose" 619),(.str "_law_pots" 620),(.str "_law_size" 621)]) ::
 (nat_lit 327,oT #[]) ::
 (nat_lit 329,(PySem.Obj.mk (.type "code") none (.fields #[(.str "_law_draw" 615),(.str "_law_draw" 616),(.str "/claim/cut.py" 617),(.int 268 0),(.int 2 0),(.int 0 0),(.int 0 0),(.int 3 0),(.ref 324),(.bool true),(.int 181 0),(.ref 325),.none,(.ref 326),(.ref 327),(.ref 328),(.int 622 0),(.int 268 0),(.str "/claim/cut.py" 623)]) #[])) ::
 (nat_lit 330,oF "_law_draw" 55 "law_waxcloth_k25_whole_fewest_boilings" 447 329) ::
 (nat_lit 331,oT #[]) ::
 (nat_lit 334,oC "_law_pans" 625 271 3 3 331 181 332 333) ::
 (nat_lit 335,oF "_law_pans" 56 "law_waxcloth_k25_whole_fewest_boilings" 447 334) ::
 (nat_lit 336,oT #[]) ::
 (nat_lit 338,oT #[(.str "_law_script" 634),(.str "_law_box_here" 635),(.str "_law_pots" 636),(.str "_law_rows" 637),(.str "_law_fresh" 638),(.str "_law_kept" 639),(.str "_law_walked" 640),(.str "_law_shown_by" 641)]) ::
 (nat_lit 339,oT #[]) ::
 (nat_lit 341,(PySem.Obj.mk (.type "code") none (.fields #[(.str "law" 631),(.str "law" 632),(.str "/claim/cut.py" 633),(.int 273 0),(.int 1 0),(.int 0 0),(.int 0 0),(.int 3 0),(.ref 336),(.bool true),(.int 181 0),(.ref 337),.none,(.ref 338),(.ref 339),(.ref 340),(.int 642 0),(.int 273 0),(.str "/claim/cut.py" 643)]) #[])) ::
 (nat_lit 342,oF "law" 57 "law_waxcloth_k25_whole_fewest_boilings" 447 341):: []
noncomputable abbrev RR:PySem.W.RowW:=PySem.W.OpenRow.toRowW (PySem.W.OpenLaw.row PySem.Challenge.rw_waxcloth_k25_whole_fewest_boilings)
noncomputable def Q:Program:={ RR.prog with main:={ RR.prog.main with body:= [top 1,top 2,top 3,top 4,top 6,top 7,top 8,top 10,top 11,top 12,top 13,top 15,top 16,top 17,top 18,top 20,top 21,top 22,top 23,top 24,top 25,top 26,top 27,top 29,top 30,top 31,top 33,top 34,top 35,top 36,top 37,top 38,top 39,top 40,top 41,top 42,top 43,top 44,top 45,top 46,top 47,top 48,top 49,top 50,top 51,top 52,top 53,top 54,top 55,top 56,top 57] } }
noncomputable def asL:List Nat:= [2,3,15,22,23,24,25,28,35,36,37,40,47,48,49,52,59,61,62,64,65,66,67,68,71,74,75,76,79,80,81,83,84,86,87,88,91,92,93,96,97,98,100,101,103,104,105,107,108,110,111,112,115,116,117,119,120,122,123,124,127,128,129,132,133,134,137,138,139,141,142,144,145,146,148,149,151,152,153,156,157,158,161,162,163,165,166,168,169,170,172,173,175,176,177,179,180,182,183,184,186,187,189,190,191,194,195,196,198,199,201,202,203,206,207,208,210,211,213,214,215,217,218,220,221,222,224,225,227,228,229,232,233,234,236,237,239,240,241,244,245,246,248,249,251,252,253,256,257,258,261,262,263,266,267,268,271,272,273,276,277,278,281,282,283,286,287,288,290,291,293,294,295,298,299,300,303,304,305,308,309,310,312,313,315,316,317,319,320,322,323,324,326,327,329,330,331,334,335,336,338,339,341,342]
theorem asE:∀ P,asL=(K P).map (·.1):=fun _=>by kernel_rfl
noncomputable def zhw(P:PySem.Params):List (Nat×Obj) :=
 (0,PySem.W.boot_o_0 P) ::
 (1,PySem.W.boot_o_1 P) ::
 (4,PySem.W.boot_o_4 P) ::
 (5,PySem.W.boot_o_5 P) ::
 (6,PySem.W.boot_o_6 P) ::
 (7,PySem.W.boot_o_7 P) ::
 (8,PySem.W.boot_o_8 P) ::
 (9,PySem.W.boot_o_9 P) ::
 (10,PySem.W.boot_o_10 P) ::
 (11,oT #[]) ::
 (12,(o3 [(2,20),(4,33),(6,45),(8,57),(14,74),(20,79),(22,86),(25,91),(27,96),(32,103),(40,110),(50,115),(52,122),(58,127),(61,132),(66,137),(77,144),(79,151),(82,156),(91,161),(96,168),(104,175),(112,182),(123,189),(132,194),(135,201),(137,206),(139,213),(144,220),(148,227),(162,232),(179,239),(190,244),(194,251),(198,256),(200,261),(207,266),(209,271),(211,276),(213,281),(215,286),(225,293),(227,298),(229,303),(238,308),(245,315),(249,322),(268,329),(271,334),(273,341)])) ::
 (13,oK "<module>" 182 1 11 181 12) ::
 (14,oR 13 3 "__main__" 164) ::
 (16,oB) ::
 (17,(PySem.Obj.mk (.type "dict") none (.dict #[(dE P "__module__" 196 (.str "waxcloth.errors" 187)),(dE P "__qualname__" 198 (.str "WaxError" 197)),(dE P "__firstlineno__" 200 (.int 2 199)),dR P "__static_attributes__" 201 22] 4) #[])) ::
 (18,oT #[]) ::
 (19,oZ) ::
 (20,oK "WaxError" 191 2 18 181 19) ::
 (21,oR 20 17 "waxcloth.errors" 187) ::
 (26,oS 24) ::
 (27,oI 24) ::
 (29,oB) ::
 (30,(PySem.Obj.mk (.type "dict") none (.dict #[(dE P "__module__" 214 (.str "waxcloth.errors" 187)),(dE P "__qualname__" 216 (.str "NoCell" 215)),(dE P "__firstlineno__" 218 (.int 4 217)),dR P "__static_attributes__" 219 35] 4) #[])) ::
 (31,oT #[]) ::
 (32,oZ) ::
 (33,oK "NoCell" 209 4 31 181 32) ::
 (34,oR 33 30 "waxcloth.errors" 187) ::
 (38,oS 37) ::
 (39,oI 37) ::
 (41,oB) ::
 (42,(PySem.Obj.mk (.type "dict") none (.dict #[(dE P "__module__" 230 (.str "waxcloth.errors" 187)),(dE P "__qualname__" 232 (.str "Twice" 231)),(dE P "__firstlineno__" 234 (.int 6 233)),dR P "__static_attributes__" 235 47] 4) #[])) ::
 (43,oT #[]) ::
 (44,oZ) ::
 (45,oK "Twice" 225 6 43 181 44) ::
 (46,oR 45 42 "waxcloth.errors" 187) ::
 (50,oS 49) ::
 (51,oI 49) ::
 (53,oB) ::
 (54,(PySem.Obj.mk (.type "dict") none (.dict #[(dE P "__module__" 246 (.str "waxcloth.errors" 187)),(dE P "__qualname__" 248 (.str "Barred" 247)),(dE P "__firstlineno__" 250 (.int 8 249)),dR P "__init__" 258 65,dR P "__static_attributes__" 260 66] 5) #[])) ::
 (55,oT #[]) ::
 (56,(PySem.Obj.mk .none none (.fields #[(.int 10 0),(.int 4 0),(.ref 64)]) #[])) ::
 (57,oK "Barred" 241 8 55 181 56) ::
 (58,oR 57 54 "waxcloth.errors" 187) ::
 (60,oZ) ::
 (63,(PySem.Obj.mk .none none (.func (PySem.FuncData.mk "__init__" "Barred.__init__" (PySem.Arguments.mk [] [(PySem.Arg.mk "self" none (PySem.Pos.mk 10 17 10 21)),(PySem.Arg.mk "bars" none (PySem.Pos.mk 10 23 10 27))] none [] [] none []) (PySem.FuncBody.stmts [(.Expr (.Call (.Attribute (.Name "WaxError" (PySem.Pos.mk 11 8 11 16)) "__init__" (PySem.Pos.mk 11 8 11 25)) [(.Name "self" (PySem.Pos.mk 11 26 11 30)),(.Constant (PySem.Const.str "bars stand against the plan") 0 (PySem.Pos.mk 11 32 11 61))] [] (PySem.Pos.mk 11 8 11 62)) (PySem.Pos.mk 11 8 11 62)),(.Assign [(.Attribute (.Name "self" (PySem.Pos.mk 12 8 12 12)) "bars" (PySem.Pos.mk 12 8 12 17))] (.Call (.Name "list" (PySem.Pos.mk 12 20 12 24)) [(.Name "bars" (PySem.Pos.mk 12 25 12 29))] [] (PySem.Pos.mk 12 20 12 30)) (PySem.Pos.mk 12 8 12 30))]) (PySem.Scope.mk PySem.ScopeKind.function [("self",PySem.NameKind.local),("bars",PySem.NameKind.local),("WaxError",PySem.NameKind.globalImplicit),("list",PySem.NameKind.globalImplicit)] false false []) 0 [] .none .none .none .none none .none .none 0)) #[])) ::
 (69,oS 68) ::
 (70,oI 68) ::
 (72,oZ) ::
 (73,oG "with_wax" 6) ::
 (77,oZ) ::
 (78,oG "boiled" 7) ::
 (82,oZ) ::
 (85,oG "has_cell" 8) ::
 (89,oZ) ::
 (90,oG "lacking" 10) ::
 (94,oZ) ::
 (95,oG "needed" 11) ::
 (99,oZ) ::
 (102,oG "bars" 12) ::
 (106,oZ) ::
 (109,oG "bar_word" 13) ::
 (113,oZ) ::
 (114,oG "with_cells" 16) ::
 (118,oZ) ::
 (121,oG "is_lower" 17) ::
 (125,oZ) ::
 (126,oG "lacking_under_wax" 18) ::
 (130,oZ) ::
 (131,oG "stretches" 20) ::
 (135,oZ) ::
 (136,oG "held" 21) ::
 (140,oZ) ::
 (143,oG "boilings" 22) ::
 (147,oZ) ::
 (150,oG "boilings_for" 23) ::
 (154,oZ) ::
 (155,oG "places_above" 24) ::
 (159,oZ) ::
 (160,oG "followers" 25) ::
 (164,oZ) ::
 (167,oG "settle" 26) ::
 (171,oZ) ::
 (174,oG "row_behind" 27) ::
 (178,oZ) ::
 (181,oG "plan" 29) ::
 (185,oZ) ::
 (188,oG "stretch_moves" 30) ::
 (192,oZ) ::
 (193,oG "to_keep_off" 31) ::
 (197,oZ) ::
 (200,oG "_law_whole" 33) ::
 (204,oZ) ::
 (205,oG "_law_wholes" 34) ::
 (209,oZ) ::
 (212,oG "_law_box" 35) ::
 (216,oZ) ::
 (219,oG "_law_mixed" 36) ::
 (223,oZ) ::
 (226,oG "_law_take" 37) ::
 (230,oZ) ::
 (231,oG "_law_lacks" 38) ::
 (235,oZ) ::
 (238,oG "_law_cell" 39) ::
 (242,oZ) ::
 (243,oG "_law_bolt" 40) ::
 (247,oZ) ::
 (250,oG "_law_sizes" 41) ::
 (254,oZ) ::
 (255,oG "_law_wax" 42) ::
 (259,oZ) ::
 (260,oG "_law_dip" 43) ::
 (264,oZ) ::
 (265,oG "_law_boil" 44) ::
 (269,oZ) ::
 (270,oG "_law_full" 45) ::
 (274,oZ) ::
 (275,oG "_law_lack" 46) ::
 (279,oZ) ::
 (280,oG "_law_need" 47) ::
 (284,oZ) ::
 (285,oG "_law_under" 48) ::
 (289,oZ) ::
 (292,oG "_law_clash" 49) ::
 (296,oZ) ::
 (297,oG "_law_met" 50) ::
 (301,oZ) ::
 (302,oG "_law_shows" 51) ::
 (306,oZ) ::
 (307,oG "_law_wax_good" 52) ::
 (311,oZ) ::
 (314,oG "_law_dip_good" 53) ::
 (318,oZ) ::
 (321,oG "_law_walk" 54) ::
 (325,oZ) ::
 (328,oG "_law_draw" 55) ::
 (332,oZ) ::
 (333,oG "_law_pans" 56) ::
 (337,oZ) ::
 (340,oG "law" 57):: []
noncomputable def mix:Nat->Nat->List (Nat×Obj)->List (Nat×Obj)->List Obj
 |0,_,_,_=> []
 |n+1,i,(a,x)::l,(b,y)::r=>match Nat.beq a i with
  |true=>x::mix n (i+1) l ((b,y)::r)
  |false=>y::mix n (i+1) ((a,x)::l) r
 |n+1,i,(_,x)::l,[]=>x::mix n (i+1) l []
 |n+1,i,[],(_,y)::r=>y::mix n (i+1) [] r
 |_+1,_,[],[]=> []
noncomputable def ev:Bool->List Obj->List Obj
 |_,[]=> []
 |true,x::r=>x::ev false r
 |false,_::r=>ev true r
noncomputable def bt:Nat->List Obj->PySem.W.BT
 |0,_=>.nil
 |_+1,[]=>.nil
 |n+1,x::r=>.node x (bt n (ev true r)) (bt n (ev false r))
noncomputable def lf:Life:=(.mk [] [] [] 0 [] [] false #[] [] 0 false false false 0 [2000,10,10] false 0 true [] [] 0 false)
noncomputable def zh8(P:PySem.Params):List Obj:=mix 343 0 (K P) (zhw P)
noncomputable def zgW:Env:={ scope:=RR.prog.main.scope,locals:=mainNs,globals:=mainNs,cells:= [],code:=.ref 13,frame:=some 14 }
noncomputable def bH:List Stmt:=PySem.W.behindTheImports RR.prog
noncomputable def cH:Code:=.body bH zgW
noncomputable abbrev BH:List Frame:= [PySem.W.topFrame ⟨0,0,0,0⟩]
noncomputable def zfI (P:PySem.Params):List Obj:= [PySem.W.boot_o_0 P,PySem.W.boot_o_1 P,PySem.W.boot_o_2 P,PySem.W.boot_o_3 P,PySem.W.boot_o_4 P,PySem.W.boot_o_5 P,PySem.W.boot_o_6 P,PySem.W.boot_o_7 P,PySem.W.boot_o_8 P,PySem.W.boot_o_9 P,PySem.W.boot_o_10 P,oT #[],oZ,oK "<module>" 182 1 11 181 12,oR 13 3 "__main__" 164]
set_option maxHeartbeats 0 in
theorem preH:∀ w:World,(fun os=>PySem.W.topGo treeTable RR.prog w 11 (some (.ref 6)) 12 ⟨PySem.W.boot_heap w.params,Array.mk [],PySem.W.boot_drawn,PySem.W.boot_toks,os⟩ (PySem.W.topStub RR.prog))=fun os=>some (⟨⟨(zfI w.params).toArray,lf⟩,Array.mk [],PySem.W.boot_drawn,187,os⟩,⟨denote treeTable cH,cH,⟨0,0,0,0⟩,BH⟩):=fun w=>by kernel_rfl
noncomputable def tr0(P:PySem.Params):PySem.W.BT:=bt 14 (zfI P)
set_option maxHeartbeats 0 in
theorem zgE:∀ w:World,(fun os=>PySem.W.segRun treeTable RR.prog w 11 (some (.ref 6)) 1 1 ⟨⟨(zfI w.params).toArray,lf⟩,Array.mk [],PySem.W.boot_drawn,187,os⟩ (PySem.W.blockOf bH zgW cH ⟨0,0,0,0⟩ BH))=fun os=>some (.next,(PySem.W.SharedT.mk (tr0 w.params) 15 lf (Array.mk []) PySem.W.boot_drawn 187 os).abs,cH,⟨0,0,0,0⟩):=fun w=>by kernel_rfl
noncomputable def tr1(P:PySem.Params):PySem.W.BT:=bt 14 (zh8 P)
noncomputable def zh7:List Stmt:=bH
set_option maxHeartbeats 0 in
theorem zh5:∀ w:World,(fun os=>PySem.W.segRunT treeTable RR.prog w 11 (some (.ref 6)) 1 2259 (PySem.W.SharedT.mk (tr0 w.params) 15 lf (Array.mk []) PySem.W.boot_drawn 187 os) (PySem.W.piecesOf zh7 zgW cH ⟨0,0,0,0⟩ BH))=fun os=>some (.next,(PySem.W.SharedT.mk (tr1 w.params) 343 lf (Array.mk []) PySem.W.boot_drawn 645 os),cH,⟨273,0,284,122⟩):=fun w=>by kernel_rfl
noncomputable def hE(P:PySem.Params):Heap:=⟨(zh8 P).toArray,lf⟩
set_option maxHeartbeats 0 in
theorem finH:∀ w:World,(fun os=>PySem.W.topRun treeTable RR.prog w 11 (some (.ref 6)) 2 (PySem.W.SharedT.mk (tr1 w.params) 343 lf (Array.mk []) PySem.W.boot_drawn 645 os).abs ⟨PySem.W.doneF .next,cH,⟨273,0,284,122⟩,BH⟩)=fun os=>some ⟨hE w.params,Array.mk [],PySem.W.boot_drawn,645,os⟩:=fun w=>by kernel_rfl
theorem zif:bH=zh7++([]):=by kernel_rfl
theorem runH(w:World)(os:OsState):PySem.W.topRun treeTable RR.prog w 11 (some (.ref 6)) (12+(1+(2259+2))) ⟨PySem.W.boot_heap w.params,Array.mk [],PySem.W.boot_drawn,PySem.W.boot_toks,os⟩ (PySem.W.topStub RR.prog)=some ⟨hE w.params,Array.mk [],PySem.W.boot_drawn,645,os⟩:=by
 refine PySem.W.go_top (congrFun (preH w) os) (PySem.W.piece_block (congrFun (zgE w) os) ?_)
 rw[zif]
 exact PySem.W.piece_app (PySem.W.segRun_of (congrFun (zh5 w) os)) (PySem.W.piece_nil (congrFun (finH w) os))
noncomputable abbrev XtH:Shared->Bool:=fun s=>PySem.W.xlAt Q [] s&&PySem.W.recOk (PySem.W.RowW.records RR) s
set_option maxHeartbeats 0 in
theorem zfL:∀ w:World,(fun os=>((PySem.W.staticsOk (importedModules RR.prog.main.body) (PySem.W.boot_heap w.params) (hE w.params)&&PySem.W.namesBound RR.prog (hE w.params)&&PySem.W.gensDone ⟨hE w.params,Array.mk [],PySem.W.boot_drawn,645,os⟩&&PySem.W.laidKept (PySem.W.boot_heap w.params) (hE w.params)),PySem.W.openSeen Q [] (importedModules RR.prog.main.body) XtH true ⟨hE w.params,Array.mk [],PySem.W.boot_drawn,645,os⟩,(PySem.W.Hook.obs (PySem.W.kHook K asL asE)) ⟨hE w.params,Array.mk [],PySem.W.boot_drawn,645,os⟩))=fun _=>(true,PySem.W.openGood Q [],PySem.W.Hook.val (PySem.W.kHook K asL asE) w):=fun w=>by kernel_rfl
theorem zhI:PySem.W.opening RR.prog=PySem.W.plainProg RR.prog.main.scope.names:=by kernel_rfl
theorem zgI:∀ s,fenceModules? RR.prog s=some s:=fun s=>by kernel_rfl
theorem zhX:∀ w:World,((PySem.W.boot_heap w.params).isNs mainGlobals&&(Array.mk ([]:List GenState)).size==0,(PySem.W.boot_heap w.params).objs.size,(PySem.W.boot_heap w.params).nsMap mainGlobals "__annotations__")=(true,11,(some (.ref 6))):=fun w=>by kernel_rfl
theorem left:PySem.W.LeftO RR.prog Q [] XtH (PySem.W.Hook.obs (PySem.W.kHook K asL asE)) (PySem.W.Hook.val (PySem.W.kHook K asL asE)) 4642 :=
 PySem.W.LeftO.of_pieces (PySem.W.boot_open zhI (by decide +kernel) zgI) zhX runH (by decide +kernel) zfL
set_option maxHeartbeats 0 in
theorem saidL:PySem.W.OpenLaw.wellSaid PySem.Challenge.rw_waxcloth_k25_whole_fewest_boilings=true:=by kernel_rfl
end Wx
open PySem PySem.W PyProof.Rows
set_option maxHeartbeats 0 in
theorem PySem.Challenge.cw_waxcloth_k25_whole_fewest_boilings_holds : PySem.Challenge.rw_waxcloth_k25_whole_fewest_boilings.Holds := by
 w_on;refine PySem.W.holds_law Wx.saidL fun said=>?_
 refine PySem.W.holds_open (q:=Wx.Q) (loose:= []) (XP:=PySem.W.XL Wx.Q []) (YP:=PySem.W.Hook.says (PySem.W.kHook Wx.K Wx.asL Wx.asE)) (N:=4642) Wx.left (PySem.W.Hook.of (PySem.W.kHook Wx.K Wx.asL Wx.asE)) (PySem.W.Hook.keeps (PySem.W.kHook Wx.K Wx.asL Wx.asE)) (fun s e=>PySem.W.xl_of s (Bool.and_eq_true_iff.mp e).1) PySem.W.XL.keeps (by rfl) (by rfl) (by rfl) (fun s e=>PySem.W.recFacts_of (Bool.and_eq_true_iff.mp e).2) (by rfl) (by first | assumption | decide +kernel) (by decide +kernel) ⟨rfl,rfl,rfl,rfl,rfl,by decide +kernel⟩ ?hw ?hc
 (case hw=>w_witness2)
 k_fill
 refine L2.walkL (l:=PySem.Challenge.rw_waxcloth_k25_whole_fewest_boilings) (k:=22) (st:=Wx.sLaw) rfl rfl ⟨rfl,by decide,by decide⟩ (fun w h Y=>PySem.W.kIn_of Y) ?F
 case F=>
  intro w mg fa h KX G hmg
  have HD:∀ d∈Wx.defs,L2.Df (L2.KOf KX) mg d.name d.st d.ps/\d.ok Wx.W=true:=by
   refine' Wx.hdd ?_ ?_ ?_ ?_ ?_ ?_ ?_ ?_ ?_ ?_ ?_ ?_ ?_ ?_ ?_ ?_ ?_ ?_ ?_ ?_ ?_ ?_ ?_ ?_ ?_ ?_ ?_ ?_ ?_ ?_ ?_ ?_ ?_ ?_ ?_ ?_ ?_ ?_ ?_ ?_ ?_ ?_ ?_ ?_
   all_goals (dsimp only [L2.KOf];(first | refine' L2.Df.of KX G ?a ?l ?c ?k (fun _ _ _ _ _ _ us hl=>match us,hl with | [_],_=>rfl) | refine' L2.Df.of KX G ?a ?l ?c ?k (fun _ _ _ _ _ _ us hl=>match us,hl with | [_,_],_=>rfl) | refine' L2.Df.of KX G ?a ?l ?c ?k (fun _ _ _ _ _ _ us hl=>match us,hl with | [_,_,_],_=>rfl) | refine' L2.Df.of KX G ?a ?l ?c ?k (fun _ _ _ _ _ _ us hl=>match us,hl with | [_,_,_,_],_=>rfl));(case a=>k_is);(case l=>k_is);(case c=>k_is);(case k=>k_is))
  have DB:L2.Df (L2.KOf KX) mg "_law_box" Wx.sBox ["_law_script"]:=by
   dsimp only [L2.KOf]
   refine' L2.Df.of KX G ?a ?l ?c ?k (fun _ _ _ _ _ _ us hl=>match us,hl with | [_],_=>rfl)
   (case a=>k_is);(case l=>k_is);(case c=>k_is);(case k=>k_is)
  have GN0:∃ t,mg "NOW" =some (.int 12 t):=by
   refine' Exists.intro _ (Eq.trans (PySem.W.mg_of KX G ?e) ?r)
   (case e=>k_is)
   (case r=>exact rfl)
  have B:Wx.Bi mg:=by
   refine' Wx.Bi.of KX G ?_ ?_ ?_ ?_ ?_ ?_ ?_ ?_ ?_ ?_ ?_ ?_ ?_ ?_ ?_
   all_goals k_is
  have L:L2.Dl (L2.KOf KX) "law" Wx.sLaw fa "_law_script" :=by
   dsimp only [L2.KOf]
   refine' L2.Dl.of KX G hmg ?a ?l ?c ?k ?b
   (case a=>k_is);(case l=>k_is);(case c=>k_is);(case k=>k_is)
   (case b=>exact fun s u=>.of_eq rfl)
  have HX:=by
   refine' Wx.hexm KX G ?n0 ?n1 ?x0 ?x1 ?r0_0 ?r0_1 ?r1_0 ?r1_1
   (case n0=>k_is)
   (case n1=>k_is)
   (case x0=>kernel_rfl)
   (case x1=>kernel_rfl)
   (case r0_0=>kernel_rfl)
   (case r0_1=>kernel_rfl)
   (case r1_0=>kernel_rfl)
   (case r1_1=>kernel_rfl)
  refine⟨L,fun fd Ff base=>?_⟩
  exact L3.law_ok Ff Wx.okS (Wx.kn_box DB B) (by decide) (L3.wk_all HD Wx.hfl (Wx.hbi B) (Wx.hgi GN0) Wx.hgs Wx.hfx HX.1 HX.2 20) (by decide) rfl rfl rfl rfl (by first | exact Or.inl rfl | exact Or.inr rfl) rfl Wx.okLaw (fun cells i l t s hi=>Wx.law_run _ (Wx.ok25 0) cells i l t s hi)
